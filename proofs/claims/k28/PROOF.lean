import PyProof.Rows.All
import Wide.All
import OpenK.AllK
import Wide.FinOn
import PyProof.EqAt
import PyProof.EqKinds
import PyProof.NeKinds
import PyProof.TupleCall
import PyProof.EnumFor
import PyProof.EnumMake
import PyProof.CompFree
import PyProof.Rows.SumAny
import PyProof.Rows.Range3
import PyProof.CompUse
import KE.LcSums
import PyProof.ListRange
import PyProof.Rows.MinMaxN
import KE.KIntText
import PyProof.StrCalls2
import PyProof.StrBlockH
import PyProof.Rows.ZipForRows
import PyProof.Rows.SortRev
import KE.KRevSl
import KE.KMinKey
import PyProof.Rows.SetFrom
import PyProof.Rows.SeqMore2
import Lean
import PyProof.WalkInts
import KE.KLam
import KE.KNest
import PyProof.Rows.SortRuns
import KE.KSortKey
import PyProof.Conv_int_bool
import KE.KListMore
import PyProof.DictWalks
import KE.KSortTup
import KE.KDictList
import KE.KRevIter
import PyProof.SetKind
import PyProof.SetScanFacts
import PyProof.DictUpdate
import PySem.Challenge.RW_nearenough_k28_looker_of_choices
noncomputable section
open PySem.F renaming slot_dict_update→zbx4,plainAttrs_list→zbx7,slot_list_index→zbx8
open Array renaming getElem?_eq_getElem→zbw6,length_toList→zbz8
open Int renaming natCast_mul→zbn5,mul_left_comm→zbn6,mul_assoc→zbn9,mul_comm→zbo6,natAbs_natCast→zbq1,toNat_of_nonneg→zbr9,fdiv_eq_ediv_of_nonneg→zbs9,natAbs_mul→zbu0,mul_add→zbu5,toNat_natCast→zbu9,fmod_eq_emod_of_nonneg→zbw0,eq_of_mul_eq_mul_right→zbw1,mul_lt_mul_of_pos_left→zbw2,eq_of_mul_eq_mul_left→zbw7,lt_of_mul_lt_mul_left→zbw8,lt_of_le_of_lt→zca6,ofNat_dvd_left→zca8,add_mul→zcb0,natAbs_add_le→zcc0,le_of_lt→zcd6
open PySem renaming wpAny_bind→zbk2,Shared→zbk7,starEach→zbl2,wpAny_pure→zbm0,backTo→zbs5
open Nat renaming lt_of_le_of_lt→zbk1,le_trans→zbk3,lt_of_lt_of_le→zbk9,le_refl→zbl1,ne_of_lt→zbl7,le_mul_of_pos_left→zbm3,pow_le_pow_right→zbm9,gcd→zbn1,mul_le_mul_right→zbn3,gcd_pos_of_pos_right→zbn7,mul_le_mul→zbo0,lt_succ_self→zbo2,le_mul_of_pos_right→zbo5,lt_irrefl→zbp5,mul_assoc→zbp9,div_mul_cancel→zbr2,ne_of_gt→zbr3,lt_succ_of_lt→zbr5,div_le_self→zbr7,mul_le_mul_left→zbs1,lt_or_eq_of_le→zbs8,min_le_left→zbt1,gcd_dvd_right→zbt3,mul_comm→zbt6,gcd_dvd_left→zbt9,mul_pos→zbu3,pow_succ→zbu4,one_pos→zbv3,add_mul→zbv4,one_mul→zbv5,lt_trans→zbv6,zero_le→zbw4,le_of_lt→zbx0,gcd_pos_of_pos_left→zbx9,gcd_le_right→zby8,mul_dvd_mul_right→zbz3,gcd_comm→zbz7,mul_div_cancel'→zca1,add_le_add→zca3,mul_right_comm→zca7,pos_of_ne_zero→zca9,dvd_trans→zcb2,dvd_mul_right→zcb9,zero_add→zcd1,succ_pos→zcd2,le_succ→zce9,pow_pos→zcf1,div_pos→zcf3
open PySem.Heap renaming get?_push_of_some→zbk0,lt_size→zbk8,get?_push_size→zbm7,size_push→zbs7,get?_update_other→zbu7,get?_update_self→zbz1
open Bool renaming and_eq_true→zbj5,false_ne_true→zbl3,eq_iff_iff→zbp7,or_true→zbs4,false_and→zbs6,false_eq_true→zbu2,not_eq_true'→zbv1,true_or→zbx2,and_true→zby4,true_and→zbz0,and_eq_false_iff→zbz2,or_eq_true→zbz6,false_or→zcb1,not_not→zcd4
open Option renaming bind_some→zbj3,map_some→zbp0,isSome_some→zca4,isSome_map→zcb7,getD_none→zcc6,getD_some→zcd0
open PySem.W renaming Frag→zbj0,mg_none_of→zbm1,nsIn→zbo1,keepIn→zbo8,fnOf→zbq2,kia_one→zbq8,findIn→zbt8,codeIn→zbx1,methodObj→zbx5,cellsFrom_some→zby1,instObj→zbz4,lookIn→zbz9,hasDictIn→zcb5,specialIn→zcb6,kitx_dict→zcb8,plainGet→zcc4,OpenLaw→zce0,CodeHd→zcg6,WalkO→zch8,tabIn→zci0
open List renaming mem_append_right→zbi9,mem_append_left→zbj1,mem_cons_of_mem→zbj2,mem_append→zbj4,getElem?_eq_getElem→zbj6,mem_cons_self→zbj7,replicate→zbj8,mem_cons→zbj9,map_cons→zbk4,getD_eq_getElem?_getD→zbk5,mem_singleton→zbk6,nodup_append→zbl0,size_toArray→zbl4,length_map→zbl5,nodup_cons→zbl6,length_append→zbl8,range→zbl9,nodup_nil→zbm2,length_cons→zbm4,mem_map→zbm5,drop_eq_getElem_cons→zbm6,lookup_cons→zbm8,length_replicate→zbn0,filter_eq_self→zbn2,all_cons→zbn4,length_singleton→zbn8,eq_of_mem_replicate→zbo3,getElem?_map→zbo4,map_replicate→zbo7,getElem?_append_right→zbo9,zipWith_cons_cons→zbp1,getElem?_append_left→zbp2,replicate_succ→zbp3,map_map→zbp4,mem_filter→zbp6,map_append→zbp8,zip_cons_cons→zbq0,drop_length→zbq3,getElem_mem→zbq4,getElem?_replicate→zbq5,any_cons→zbq6,length_zip→zbq7,length_filter_le→zbq9,getElem?_eq_some_iff→zbr0,all_eq_true→zbr1,mem_iff_getElem→zbr4,foldl_cons→zbr6,length_eq_zero_iff→zbr8,map_congr_left→zbs0,length_take→zbs2,length_pos_of_mem→zbs3,find?_cons→zbt0,flatten_cons→zbt2,getElem?_set_ne→zbt4,mem_of_getElem?→zbt5,mem_range→zbt7,getElem?_cons_succ→zbu1,append_nil→zbu6,range_succ_eq_map→zbu8,reverse_cons→zbv0,getElem?_eq_none→zbv2,any_eq_true→zbv7,mem_of_mem_take→zbv8,filterMap_cons→zbv9,mem_filterMap→zbw3,sublist_append_right→zbw5,pairwise_iff_getElem→zbw9,zipWith→zbx3,append_assoc→zbx6,getElem?_set_self→zby0,sublist_cons_self→zby2,ext_getElem→zby3,take_of_length_le→zby5,find?_cons_of_pos→zby6,find?_cons_of_neg→zby7,filter_eq_nil_iff→zby9,of_mem_zip→zbz5,map_eq_nil_iff→zca0,length_pos_iff→zca2,getElem_idxOf→zca5,sum_cons→zcb3,map_take→zcb4,getElem_take→zcc1,map_nil→zcc5,filter_cons→zcc7,map_fst_zip→zcc8,map_snd_zip→zcc9,isEmpty_iff→zcd5,foldl→zch5
open PySem PyProof.Rows
set_option Elab.async false
set_option linter.all false
set_option maxRecDepth 100000
namespace L2
open PySem.Spec
abbrev Key:=Sum Int Str
def zaw0:Key→Value→Bool
 |.inl k,v=>Value.isInt k v
 |.inr x,v=>Value.isStrOf x v
def keyH (w:World):Key→Int
 |.inl k=>hashInt k
 |.inr x=>hashStr w x
theorem zg0:∀ {k:Key}{v:Value},zaw0 k v=true→(∃i t,k=Sum.inl i∧v=Value.int i t)∨(∃x t,k=Sum.inr x∧v=Value.str x t)
 |.inl i,v,h=>by
  obtain⟨t,e⟩:=Value.isInt_shape (k:=i) (v:=v) h
  exact .inl ⟨i,t,rfl,e⟩
 |.inr x,v,h=>by
  obtain⟨t,e⟩:=Value.isStrOf_shape (x:=x) (v:=v) h
  exact .inr ⟨x,t,rfl,e⟩
theorem zbc9 (i:Int) (t:Tok):zaw0 (.inl i) (.int i t)=true:=by simp [zaw0,Value.isInt]
theorem zbc8 (x:Str) (t:Tok):zaw0 (.inr x) (.str x t)=true:=by simp [zaw0,Value.isStrOf]
theorem key_ll (a b:Int):decide ((Sum.inl a:Key)=Sum.inl b)=(a == b):=by
 by_cases e:a=b
 ·subst e;simp
 ·have h : ¬ (Sum.inl a:Key)=Sum.inl b:=fun q=>e (Sum.inl.inj q)
  rw [decide_eq_false h]
  exact (beq_eq_false_iff_ne.mpr e).symm
theorem key_rr (a b:Str):decide ((Sum.inr a:Key)=Sum.inr b)=decide (a=b):=by
 by_cases e:a=b
 ·subst e;simp
 ·have h : ¬ (Sum.inr a:Key)=Sum.inr b:=fun q=>e (Sum.inr.inj q)
  rw [decide_eq_false h,decide_eq_false e]
theorem key_lr (a:Int) (b:Str):decide ((Sum.inl a:Key)=Sum.inr b)=false:=decide_eq_false (fun q=>nomatch q)
theorem key_rl (a:Str) (b:Int):decide ((Sum.inr a:Key)=Sum.inl b)=false:=decide_eq_false (fun q=>nomatch q)
noncomputable def zh6 (prog:Program) (w:World):PySem.KeyKind prog w Key where
 is:=zaw0
 hash:=keyH w
 inj:=fun v a b ha hb=>by
  rcases zg0 ha with ⟨i,t,rfl,rfl⟩ | ⟨x,t,rfl,rfl⟩
  ·rcases zg0 hb with ⟨j,u,rfl,e⟩ | ⟨y,u,rfl,e⟩
   ·injection e with e1 _;rw [e1]
   ·exact nomatch e
  ·rcases zg0 hb with ⟨j,u,rfl,e⟩ | ⟨y,u,rfl,e⟩
   ·exact nomatch e
   ·injection e with e1 _;rw [e1]
 byValue:=fun k v h=>by
  rcases zg0 h with ⟨i,t,rfl,rfl⟩ | ⟨x,t,rfl,rfl⟩<;>rfl
 pyHash:=fun hv h=>by
  rcases zg0 hv with ⟨i,t,rfl,rfl⟩ | ⟨x,t,rfl,rfl⟩
  ·exact wpAny_pyHash_int h
  ·exact wpAny_pyHash_str h
 eqBool:=fun hu hv h=>by
  rcases zg0 hu with ⟨i,t,rfl,rfl⟩ | ⟨x,t,rfl,rfl⟩
  ·rcases zg0 hv with ⟨j,u,rfl,rfl⟩ | ⟨y,u,rfl,rfl⟩
   ·rw [key_ll]at h;exact wpAny_eqBool_int h
   ·rw [key_lr]at h;exact SeqAt.EqAt.int_str i t y u _ _ _ _ h
  ·rcases zg0 hv with ⟨j,u,rfl,rfl⟩ | ⟨y,u,rfl,rfl⟩
   ·rw [key_rl]at h;exact SeqAt.EqAt.str_int x t j u _ _ _ _ h
   ·rw [key_rr]at h;exact wpAny_eqBool_str h
 «strs»:=fun k x t v h=>by
  rcases zg0 h with ⟨i,u,rfl,e⟩ | ⟨y,u,rfl,e⟩
  ·exact nomatch e
  ·injection e with e1 _
   subst e1
   cases v<;>rfl
theorem zao3 (prog:Program) (w:World) (i:Int) (t:Tok):(zh6 prog w).is (.inl i) (.int i t)=true:=zbc9 i t
theorem zao2 (prog:Program) (w:World) (x:Str) (t:Tok):(zh6 prog w).is (.inr x) (.str x t)=true:=zbc8 x t
inductive V where
 |non | bl (b:Bool) |int (i:Int) |str (x:Str) |byt (b:Array UInt8) |flt (b:UInt64) |ref (a:Addr) |ty (n:String)
 deriving DecidableEq
noncomputable def RelV:V→Value→Prop
 |.non,u=>u=Value.none
 |.bl b,u=>u=Value.bool b
 |.int i,u => ∃t,u=Value.int i t
 |.str x,u => ∃t,u=Value.str x t
 |.byt b,u => ∃t,u=Value.bytes b t
 |.flt b,u => ∃t,u=Value.float b t
 |.ref a,u=>u=Value.ref a
 |.ty n,u=>u=Value.type n
abbrev Vals:List V→List Value→Prop:=Paired RelV
theorem Vals.length {xs:List V}{us:List Value} (r:Vals xs us):xs.length=us.length:=Paired.length r
theorem Vals.get:∀ {xs:List V}{us:List Value}{i:Nat}{x:V},Vals xs us→xs[i]?=some x→∃u,us[i]?=some u∧RelV x u
 |_,_,_,_,.nil,e=>by simp at e
 |_,_,0,_,.cons r _,e=>by simp at e;subst e;exact⟨_,rfl,r⟩
 |_,_,i+1,x,.cons _ t,e=>by
  obtain⟨u,h1,h2⟩:=Vals.get (i:=i) (x:=x) t (by simpa using e)
  exact⟨u,by simpa using h1,h2⟩
theorem Vals.set {x:V}{u:Value} (r:RelV x u):∀ {xs:List V}{us:List Value} (i:Nat),Vals xs us→Vals (xs.set i x) (us.set i u)
 |_,_,_,.nil=>.nil
 |_,_,0,.cons _ t=>.cons r t
 |_,_,i+1,.cons q t=>.cons q (Vals.set r i t)
theorem Vals.append:∀ {xs ys:List V}{us ws:List Value},Vals xs us→Vals ys ws→Vals (xs++ys) (us++ws)
 |_,_,_,_,.nil,s=>s
 |_,_,_,_,.cons r t,s=>.cons r (Vals.append t s)
theorem Vals.take:∀ {xs:List V}{us:List Value} (n:Nat),Vals xs us→Vals (xs.take n) (us.take n)
 |_,_,0,_=>.nil
 |_,_,_+1,.nil=>.nil
 |_,_,n+1,.cons r t=>.cons r (Vals.take n t)
theorem Vals.drop:∀ {xs:List V}{us:List Value} (n:Nat),Vals xs us→Vals (xs.drop n) (us.drop n)
 |_,_,0,r=>r
 |_,_,_+1,.nil=>.nil
 |_,_,n+1,.cons _ t=>Vals.drop n t
def RelO:Option V→Option Value→Prop
 |some v,some u=>RelV v u
 |none,none=>True
 |_,_=>False
def KV {κ:Type}:List (κ×V)→List (κ×Value)→Prop:=Paired fun (p:κ×V) (q:κ×Value)=>p.1=q.1∧RelV p.2 q.2
def kV:Key→V
 |.inl i=>.int i
 |.inr x=>.str x
inductive HO where
 /-- a list -/
 |lst (xs:List V)
 /-- a tuple (never changes) -/
 |tup (xs:List V)
 /-- a dict whose keys are ints and texts;one whose keys are tuples of ints and texts (the empty one is both) -/
 |dK (kvs:List (Key×V)) |dT (kvs:List (List Key×V))
 /-- a set of ints: its members,its size -/
 |set (S:Int→Bool) (n:Nat)
 /-- an instance of the class at C,its dict at dx,its attributes -/
 |ins (C dx:Addr) (fs:List (Str×V))
 /-- the dict of the instance at x -/
 |own (x:Addr)
 /-- the dict of an exception -/
 |xd (fs:List (Str×V))
 /-- a bound method,f of x -/
 |met (f x:Addr)
 /-- a range object lo,lo+1,.. below hi -/
 |rng (lo hi:Int)
 /-- a thing that is known to the object (the script;a dict while a loop walks it): read,never written while it is so -/
 |frz (o:Obj) (u:HO)
 /-- a code object's table -/
 |tbl (q:Str)
 /-- any other thing,by what is true of its one object (a def of one's own: SetO a S n:=HO.ext fun h=>..) -/
 |ext (φ:Heap→Prop)
abbrev Hp:=Addr→Option HO
def upd (H:Hp) (a:Addr) (o:HO):Hp:=fun b=>if b=a then some o else H b
theorem zc1 {H:Hp}{a:Addr}{o:HO}:upd H a o a=some o:=by unfold upd;rw [if_pos rfl]
theorem zc9 {H:Hp}{a b:Addr}{o:HO} (h:b≠a):upd H a o b=H b:=by unfold upd;rw [if_neg h]
theorem ne_of {H:Hp}{a b:Addr}{o u:HO} (h:H a=some o) (h':H b=some u) (d:o≠u):a≠b:=by
 intro e;subst e;rw [h]at h';exact d (Option.some.inj h')
theorem zl4 {H:Hp}{a b:Addr}{o:HO} (h:H a=some o) (h':H b=none):a≠b:=by
 intro e;subst e;rw [h]at h';cases h'
section
variable (P:Program) (w:World)
noncomputable def ObjOk (H:Hp) (h:Heap) (a:Addr):HO→Prop
 |.lst xs=>xs.length≤sizeLine∧∃(its:List Value) (n:Nat),Vals xs its∧h.get? a=some { cls:=.type "list",data:=.seq its.toArray n }
 |.tup xs=>xs.length≤sizeLine∧∃its:List Value,Vals xs its∧IsTup h a its.toArray
 |.dK kvs=>kvs.length≤sizeLine∧(a == sysModules)=false∧∃vs,KV kvs vs∧h.DictOf (zh6 P w) a vs
 |.dT kvs=>kvs.length≤sizeLine∧(a == sysModules)=false∧∃xs:List (List Key×Addr×Value),
   Paired (fun (p:List Key×V) (q:List Key×Addr×Value)=>p.1=q.1∧H q.2.1=some (.tup (p.1.map kV))∧RelV p.2 q.2.2) kvs xs ∧
   ∃o es ep,h.get? a=some o∧o.ExactDict∧o.data=.dict es ep∧es.toList=xs.map (entryOfKey (tupleKind (zh6 P w)))∧(xs.map (·.1)).Nodup
 |.set S n=>h.SetOf (intKind P w) a S n
 |.ins C dx fs=>H dx=some (.own a)∧fs.length≤1000∧dx≠a∧h.get? a=some (zbz4 C dx) ∧
   ∃mA,h.Ns1 dx mA∧(∀f,RelO (fs.lookup f) (mA f))∧PySem.Within mA (fs.map (·.1))
 |.own _ => ∃o,h.get? a=some o
 |.xd fs => ∃mA,h.Ns1 a mA∧∀f,RelO (fs.lookup f) (mA f)
 |.rng lo hi => ∃t u v,h.get? a=some { cls:=.type "range",data:=.fields #[.int lo t,.int hi u,.int 1 v] }
 |.frz o u=>h.get? a=some o∧ObjOk H h a u
 |.tbl q => ∃ps:Array Value,h.get? a=some { cls:=.none,data:=.fields ps }∧TriplesOk ps.toList∧∀pos cv,codeAmong pos ps.toList=some cv→∃(c:Addr) (oc:Obj) (vs:Array Value) (tk:Tok),cv=.ref c∧H c=some (.frz oc (.own 0))∧oc.data=.fields vs∧vs[1]?=some (.str q tk)
 |.met f x=>h.get? a=some (zbx5 (.ref f) (.ref x))
 |.ext φ=>φ h∧(∃o,h.get? a=some o)∧∀h1 h2:Heap,φ h1→(∀o,h1.get? a=some o→h2.get? a=some o)→φ h2
def HOk (H:Hp) (h:Heap):Prop := ∀a o,H a=some o→ObjOk P w H h a o
end
section
variable {P:Program}{w:World}{H H':Hp}{h h':Heap}{a:Addr}{o:HO}
theorem ObjOk.lt (x:ObjOk P w H h a o):a<h.objs.size:=by
 cases o with
 |lst xs=>obtain⟨_,_,_,_,e⟩:=x;exact zbk8 e
 |tup xs=>obtain⟨_,_,_,p⟩:=x;exact p.lt
 |dK kvs=>obtain⟨_,_,_,_,o,_,_,e,_⟩:=x;exact zbk8 e
 |dT kvs=>obtain⟨_,_,_,_,o,_,_,e,_⟩:=x;exact zbk8 e
 |set S n=>obtain⟨o,_,_,_,e,_⟩:=x;exact zbk8 e
 |ins C dx fs=>obtain⟨_,_,_,e,_⟩:=x;exact zbk8 e
 |own y=>obtain⟨_,e⟩:=x;exact zbk8 e
 |xd fs=>obtain⟨_,⟨_,_,_,e,_⟩,_⟩:=x;exact zbk8 e
 |rng lo hi=>obtain⟨_,_,_,e⟩:=x;exact zbk8 e
 |frz ob u=>obtain⟨e,_⟩:=x;exact zbk8 e
 |tbl q=>obtain⟨_,e,_⟩:=x;exact zbk8 e
 |met f y=>exact zbk8 (show h.get? a=some _ from x)
 |ext φ=>obtain⟨_,⟨_,e⟩,_⟩:=x;exact zbk8 e
theorem Paired.mapP {α β:Type}{F G:α→β→Prop}:∀ {l₁:List α}{l₂:List β},Paired F l₁ l₂→(∀a b,F a b→G a b)→Paired G l₁ l₂
 |_,_,.nil,_=>.nil
 |_,_,.cons r t,f=>.cons (f _ _ r) (Paired.mapP t f)
theorem ObjOk.stay (x:ObjOk P w H h a o) (k:∀b u,(b=a∨H b=some (.own a))→h.get? b=some u→h'.get? b=some u)
  (ho:∀b,H b=some (.own a)→H' b=some (.own a)) (ht:∀b xs,H b=some (.tup xs)→H' b=some (.tup xs)) (hz:∀b o u,H b=some (.frz o u)→H' b=some (.frz o u)):ObjOk P w H' h' a o:=by
 induction o with
 |lst xs=>obtain⟨z,its,n,r,e⟩:=x;exact⟨z,its,n,r,k _ _ (.inl rfl) e⟩
 |tup xs=>obtain⟨z,its,r,ob,e,c⟩:=x;exact⟨z,its,r,ob,k _ _ (.inl rfl) e,c⟩
 |dK kvs=>obtain⟨z,y,vs,r,ob,es,ep,e,c⟩:=x;exact⟨z,y,vs,r,ob,es,ep,k _ _ (.inl rfl) e,c⟩
 |dT kvs =>
  obtain⟨z,y,xs,r,ob,es,ep,e,c⟩:=x
  exact⟨z,y,xs,Paired.mapP r fun p q z=>⟨z.1,ht _ _ z.2.1,z.2.2⟩,ob,es,ep,k _ _ (.inl rfl) e,c⟩
 |set S n=>obtain⟨ob,es,ep,t,e,c⟩:=x;exact⟨ob,es,ep,t,k _ _ (.inl rfl) e,c⟩
 |ins C dx fs =>
  obtain⟨d,z,ne,e,mA,⟨od,es,ep,e2,c⟩,r⟩:=x
  exact⟨ho _ d,z,ne,k _ _ (.inl rfl) e,mA,⟨od,es,ep,k _ _ (.inr d) e2,c⟩,r⟩
 |own y=>obtain⟨ob,e⟩:=x;exact⟨ob,k _ _ (.inl rfl) e⟩
 |xd fs=>obtain⟨mA,⟨od,es,ep,e,c⟩,r⟩:=x;exact⟨mA,⟨od,es,ep,k _ _ (.inl rfl) e,c⟩,r⟩
 |rng lo hi=>obtain⟨t,u,v,e⟩:=x;exact⟨t,u,v,k _ _ (.inl rfl) e⟩
 |frz ob u ih=>obtain⟨e,q⟩:=x;exact⟨k _ _ (.inl rfl) e,ih q⟩
 |tbl q=>obtain⟨ps,e,t,r⟩:=x;exact⟨ps,k _ _ (.inl rfl) e,t,fun pos cv z=>let ⟨c,oc,vs,tk,a1,a2,a3⟩:=r pos cv z;⟨c,oc,vs,tk,a1,hz _ _ _ a2,a3⟩⟩
 |met f y =>
  have e:h.get? a=some (zbx5 (.ref f) (.ref y)):=x
  show h'.get? a=some (zbx5 (.ref f) (.ref y))
  exact k a _ (.inl rfl) e
 |ext φ=>obtain⟨p,⟨o,e⟩,st⟩:=x;exact⟨st _ _ p fun o q=>k _ _ (.inl rfl) q,⟨o,k _ _ (.inl rfl) e⟩,st⟩
theorem HOk.lt (x:HOk P w H h) (e:H a=some o):a<h.objs.size:=(x a o e).lt
theorem HOk.fresh (x:HOk P w H h) (e:h.objs.size≤a):H a=none:=by
 cases q:H a with
 |none=>rfl
 |some u=>exact absurd (zbk9 (x.lt q) e) (zbp5 _)
theorem HOk.kept (x:HOk P w H h) (k:∀b u,h.get? b=some u→h'.get? b=some u):HOk P w H h':=fun a o e =>
 (x a o e).stay (fun b u _ q=>k b u q) (fun _ q=>q) (fun _ _ q=>q) fun _ _ _ q=>q
theorem HOk.laid (x:HOk P w H h) (k:∀b u,h.get? b=some u→h'.get? b=some u) (hp:h.objs.size≤a) (new:ObjOk P w (upd H a o) h' a o):HOk P w (upd H a o) h':=fun b u e=>by
 have hn:=x.fresh hp
 by_cases hb:b=a
 ·subst hb;rw [zc1]at e;cases e;exact new
 ·rw [zc9 hb]at e
  exact (x b u e).stay (fun c v _ q=>k c v q) (fun c q=>by rw [zc9 (zl4 q hn)];exact q) (fun c xs q=>by rw [zc9 (zl4 q hn)];exact q) fun c o u q=>by rw [zc9 (zl4 q hn)];exact q
end
def Rd (H:Hp) (a:Addr) (u:HO):Prop:=H a=some u∨∃o,H a=some (.frz o u)
theorem Rd.ok {P:Program}{w:World}{H:Hp}{h:Heap}{a:Addr}{u:HO} (r:Rd H a u) (x:HOk P w H h):ObjOk P w H h a u:=by
 rcases r with r | ⟨o,r⟩
 ·exact x a u r
 ·obtain⟨_,q⟩:=x a _ r
  exact q
noncomputable def Mut:Option HO→Prop
 |some (.lst _)=>True
 |some (.dK _)=>True
 |some (.dT _)=>True
 |some (.set _ _)=>True
 |some (.ins _ _ _)=>True
 |some (.ext _)=>True
 |_=>False
section
variable {P:Program}{w:World}{H:Hp}{h h':Heap}{x e:Addr}{o':HO}
theorem HOk.write (ok:HOk P w H h) (mu:Mut (H x)) (he:e=x∨H e=some (.own x)) (k:∀b u,b≠e→h.get? b=some u→h'.get? b=some u) (heo:∃u,h'.get? e=some u)
  (new:ObjOk P w (upd H x o') h' x o'):HOk P w (upd H x o') h':=fun b u q=>by
 have nown:∀c y,H c=some (.own y)→c≠x:=fun c y r z=>by subst z;rw [r]at mu;exact mu
 have ntup:∀c xs,H c=some (.tup xs)→c≠x:=fun c xs r z=>by subst z;rw [r]at mu;exact mu
 by_cases hb:b=x
 ·subst hb;rw [zc1]at q;cases q;exact new
 ·rw [zc9 hb]at q
  by_cases hbe:b=e
  ·have q':H b=some (.own x):=by
    rcases he with z | z
    ·exact absurd (hbe.trans z) hb
    ·rw [hbe];exact z
   rw [q]at q';cases q'
   obtain⟨v,hv⟩:=heo
   exact⟨v,by rw [hbe];exact hv⟩
  ·refine (ok b u q).stay (fun c v hc r=>k c v ?_ r) (fun c r=>by rw [zc9 (nown c b r)];exact r) (fun c xs r=>by rw [zc9 (ntup c xs r)];exact r) fun c o u r=>by rw [zc9 (fun z=>by subst z;rw [r]at mu;exact mu)];exact r
   rcases hc with rfl | hc
   ·exact hbe
   ·rintro rfl
    rcases he with z | z
    ·exact nown c b hc z
    ·rw [hc]at z;cases z;exact hb rfl
end
structure Un (fs ex:List Addr) (H H':Hp) (h h':Heap):Prop where
 keep:∀b o,h.get? b=some o→H b=none→b∉fs→b∉ex→h'.get? b=some o
 slot:∀b o,h.get? b=some o→H b=none→b∈fs→b∉ex→∃sl,h'.get? b=some { o with slots:=sl }
 free:∀b o,h.get? b=some o→H b=none→b∉ex→H' b=none
 there:∀b o,h.get? b=some o→b∉ex→∃o',h'.get? b=some o'
 tups:∀b xs,H b=some (.tup xs)→H' b=some (.tup xs)
 frzs:∀b o u,H b=some (.frz o u)→H' b=some (.frz o u)
 tbls:∀b q,H b=some (.tbl q)→H' b=some (.tbl q)
section
variable {fs fs' ex ex':List Addr}{H H1 H2:Hp}{h h1 h2 h':Heap}{a x e:Addr}{o:HO}
theorem Un.any (u:Un fs ex H H1 h h1) {b:Addr}{ob:Obj} (q:h.get? b=some ob) (n:H b=none) (hx:b∉ex):∃sl,h1.get? b=some { ob with slots:=sl }:=by
 by_cases hb:b∈fs
 ·exact u.slot b ob q n hb hx
 ·exact⟨ob.slots,u.keep b ob q n hb hx⟩
theorem Un.trans (a:Un fs ex H H1 h h1) (b:Un fs ex H1 H2 h1 h2):Un fs ex H H2 h h2 where
 keep:=fun c ob q n hc hx=>b.keep c ob (a.keep c ob q n hc hx) (a.free c ob q n hx) hc hx
 slot:=fun c ob q n hc hx=>by
  obtain⟨sl,e1⟩:=a.slot c ob q n hc hx
  obtain⟨sl',e2⟩:=b.slot c _ e1 (a.free c ob q n hx) hc hx
  exact⟨sl',e2⟩
 free:=fun c ob q n hx=>by
  obtain⟨o',e1⟩:=a.there c ob q hx
  exact b.free c o' e1 (a.free c ob q n hx) hx
 there:=fun c ob q hx=>by
  obtain⟨o',e1⟩:=a.there c ob q hx
  exact b.there c o' e1 hx
 tups:=fun c xs q=>b.tups c xs (a.tups c xs q)
 frzs:=fun c ob xs q=>b.frzs c ob xs (a.frzs c ob xs q)
 tbls:=fun c q e=>b.tbls c q (a.tbls c q e)
theorem Un.kept (k:∀b u,h.get? b=some u→h'.get? b=some u):Un fs ex H H h h' :=
 ⟨fun b ob q _ _ _=>k b ob q,fun b ob q _ _ _=>⟨ob.slots,k b ob q⟩,fun _ _ _ n _=>n,fun b ob q _=>⟨ob,k b ob q⟩,fun _ _ q=>q,fun _ _ _ q=>q,fun _ _ q=>q⟩
theorem Un.refl:Un fs ex H H h h:=Un.kept fun _ _ q=>q
theorem Un.laid (k:∀b u,h.get? b=some u→h'.get? b=some u) (hp:h.objs.size≤a) (hn:H a=none):Un fs ex H (upd H a o) h h' where
 keep:=fun b u q _ _ _=>k b u q
 slot:=fun b u q _ _ _=>⟨u.slots,k b u q⟩
 free:=fun b u q n _=>by rw [zc9 (zbl7 (zbk9 (zbk8 q) hp))];exact n
 there:=fun b u q _=>⟨u,k b u q⟩
 tups:=fun b xs q=>by rw [zc9 (zl4 q hn)];exact q
 frzs:=fun b u xs q=>by rw [zc9 (zl4 q hn)];exact q
 tbls:=fun b ps q=>by rw [zc9 (zl4 q hn)];exact q
theorem Un.write (mu:Mut (H x)) (he:e=x∨H e=some (.own x)) (k:∀b u,b≠e→h.get? b=some u→h'.get? b=some u) (heo:∃u,h'.get? e=some u):Un fs ex H (upd H x o) h h':=by
 have hx:∀b,H b=none→b≠x:=fun b n z=>by subst z;rw [n]at mu;exact mu
 have hb:∀b,H b=none→b≠e:=fun b n z=>by
  subst z
  rcases he with r | r
  ·exact hx b n r
  ·rw [n]at r;cases r
 have hm:∀b u,H b=some u → ¬ Mut (some u)→b≠x:=fun b u q nm z=>by subst z;rw [q]at mu;exact nm mu
 refine⟨fun b u q n _ _=>k b u (hb b n) q,fun b u q n _ _=>⟨u.slots,k b u (hb b n) q⟩,fun b u q n _=>by rw [zc9 (hx b n)];exact n,fun b u q _=>?_,
  fun b xs q=>by rw [zc9 (hm b _ q fun z=>z)];exact q,fun b u xs q=>by rw [zc9 (hm b _ q fun z=>z)];exact q,fun b ps q=>by rw [zc9 (hm b _ q fun z=>z)];exact q⟩
 by_cases hbe:b=e
 ·subst hbe;exact heo
 ·exact⟨u,k b u hbe q⟩
end
def trk (h:Heap) (H:Hp):List Addr:=(zbl9 h.objs.size).filter fun a=>(H a).isSome
def hidT (h:Heap) (H:Hp):Heap:=PySem.W.hideAll h (trk h H)
theorem zbd8 (h:Heap) (H:Hp):(hidT h H).objs.size=h.objs.size:=PySem.W.hideAll_size _ _
theorem zy3 {h:Heap}{H:Hp}{b:Addr}{o:Obj} (e:h.get? b=some o) (n:H b=none):(hidT h H).get? b=some o :=
 PySem.W.hideAll_get _ e fun hm=>by
  have q:(H b).isSome=true:=(zbp6.mp hm).2
  rw [n]at q;simp at q
theorem of_hidT {h:Heap}{H:Hp}{b:Addr}{o:Obj} (e:(hidT h H).get? b=some o):h.get? b=some o∧H b=none:=by
 have e':h.get? b=some o:=PySem.W.of_hideAll (trk h H) e
 refine⟨e',?_⟩
 cases q:H b with
 |none=>rfl
 |some x =>
  have hm:b∈trk h H:=zbp6.mpr ⟨zbt7.mpr (zbk8 e'),by simp [q]⟩
  have z:(hidT h H).get? b=none:=PySem.W.hideAll_none (trk h H) hm
  rw [z]at e;cases e
noncomputable def allNews (g h:Heap) (L:Addr):List (Addr×Obj):=(zbl9 h.objs.size).filterMap fun a=>if a=L∨(g.get? a).isSome=true then none else (h.get? a).map fun o=>(a,o)
def rest (g h:Heap) (L d:Addr):List (Addr×Obj):=(allNews g h L).filter fun p=>decide (p.1≠d)
end L2
namespace L2
open PySem.Spec
structure BHeap extends Heap where
 tabs:List (Addr×Str)
instance:Coe BHeap Heap:=⟨BHeap.toHeap⟩
structure Mod (K:zbj0) (mg:Str→Option Value) (base:BHeap):Prop where
 kin:K.In base
 glob:base.Ns mainGlobals mg
 blt:∃mb,base.Ns builtinsNs mb∧∀x:Str,x≠"__name__"→mb x=bootBuiltins x
 nolimit:base.NoLimit
 bm:∃(bm:Addr) (ob:Obj),mg "__builtins__"=some (.ref bm)∧bm≠builtinsNs∧base.get? bm=some ob∧ob.cls=.type "module"∧ob.dict=some builtinsNs∧ob.data=.plain
structure Cx where
 prog:Program
 w:World
 K:zbj0
 mg:Str→Option Value
 base:BHeap
 A:Around
 N:List Str
 s₀:zbk7
 H₀:Hp
 env:Env
 outer:List Env
 stack:List Env
 ex:List Addr
 fn:Str→Bool
 calm:Bool
 pn:List (Addr×Obj)
 xe:Value→zbk7→Prop
def frs (l:List Env):List Addr:=l.filterMap (·.frame)
abbrev Cx.fs (X:Cx):List Addr:=frs X.outer
def Vis (sc:Scope) (x:Str):Prop:=sc.names.lookup x=some .local∨sc.names.lookup x=some .cell∨sc.names.lookup x=some .free
def Loc (sc:Scope) (x:Str):Prop:=sc.names.lookup x=some .local∨sc.names.lookup x=some .cell
noncomputable def Look (env:Env) (h:Heap) (m:Str→Option Value) (x:Str) (u:Value):Prop :=
 (env.kindOf x=some .local∧m x=some u)∨((env.kindOf x=some .cell∨env.kindOf x=some .free)∧∃c,env.cells.lookup x=some c∧h.IsCell c (some u))
structure Cx.Ok (X:Cx):Prop where
 mod:Mod X.K X.mg X.base
 kind:X.env.scope.kind=.function
 glob:X.env.globals=mainGlobals
 blt:X.env.builtins=builtinsNs
 above:X.s₀.heap.objs.size≤X.env.locals
 inj:∀x y c,X.env.cells.lookup x=some c→X.env.cells.lookup y=some c→x=y
 has:∀x,(X.env.kindOf x=some .cell∨X.env.kindOf x=some .free)→∃c,X.env.cells.lookup x=some c
 cab:∀x c,X.fn x=true→X.env.cells.lookup x=some c→X.s₀.heap.objs.size≤c
 hd:X.calm=true→X.A.handled=none
 frames:X.A.frames=some X.stack
 stk:X.stack=X.outer∨(X.stack=X.env::X.outer∧X.env.frame=some X.env.locals)
 exf:∀b∈X.ex,b≠X.env.locals∧∀x c,X.env.cells.lookup x=some c→c≠b
 bs:∀b o,X.base.get? b=some o→X.s₀.heap.get? b=some o∧X.H₀ b=none
 bsz:X.base.objs.size≤X.s₀.heap.objs.size
 noex:∀b o,X.base.get? b=some o→b∉X.ex
 exfs:∀b∈X.ex,b∉X.fs
 funs:X.s₀.heap.FunFrames X.base X.outer
 frf:∀b∈X.fs,X.H₀ b=none
 tabs:∀p∈X.base.tabs,X.H₀ p.1=some (.tbl p.2)
structure Inv (X:Cx) (pins:List (Addr×Obj)) (σ:List (Option V)) (H:Hp) (s:zbk7):Prop where
 ok:X.Ok
 os:s.os=X.s₀.os
 bare:AllBare s.gens
 base:Un X.fs X.ex X.H₀ H X.s₀.heap s.heap
 loc:∃m,s.heap.Ns X.env.locals m∧∀(i:Nat) (x:Str) (v:V),X.N[i]?=some x→σ[i]?=some (some v)→Vis X.env.scope x→∃u,RelV v u∧Look X.env s.heap m x u
 cell:∀x c,X.env.cells.lookup x=some c→∃v,s.heap.IsCell c v
 free:H X.env.locals=none
 freeC:∀x c,X.env.cells.lookup x=some c→H c=none
 pin:∀p∈X.pn++pins,s.heap.get? p.1=some p.2∧H p.1=none∧p.1≠X.env.locals∧p.1∉X.fs∧∀v,p.2.data≠.cell v
 hok:HOk X.prog X.w H s.heap
 len:σ.length=X.N.length
section
variable {X:Cx}{pins:List (Addr×Obj)}{σ:List (Option V)}{H H':Hp}{s:zbk7}{h':Heap}
theorem Cx.Ok.nofr (ok:X.Ok) {b:Addr}{o:Obj} (e:X.base.get? b=some o):b∉X.fs:=fun hb=>by
 have:=(ok.funs.mem hb).1
 rw [e]at this;cases this
theorem Inv.bs (I:Inv X pins σ H s):∀b o,X.base.get? b=some o→s.heap.get? b=some o∧H b=none:=fun b o e =>
 ⟨I.base.keep b o (I.ok.bs b o e).1 (I.ok.bs b o e).2 (I.ok.nofr e) (I.ok.noex b o e),I.base.free b o (I.ok.bs b o e).1 (I.ok.bs b o e).2 (I.ok.noex b o e)⟩
theorem Inv.bk (I:Inv X pins σ H s):∀b o,X.base.get? b=some o→s.heap.get? b=some o:=fun b o e=>(I.bs b o e).1
theorem Inv.mod (I:Inv X pins σ H s):Mod X.K X.mg X.base:=I.ok.mod
theorem Inv.kIn (I:Inv X pins σ H s):X.K.In s.heap:=I.ok.mod.kin.keeps I.bk
theorem Inv.lt (I:Inv X pins σ H s):X.env.locals<s.heap.objs.size:=let ⟨_,hn,_⟩:=I.loc;hn.lt
theorem Inv.sz (I:Inv X pins σ H s):X.s₀.heap.objs.size≤s.heap.objs.size:=zbk3 I.ok.above (zbx0 I.lt)
theorem Inv.nofs (I:Inv X pins σ H s) {a:Addr} (h:s.heap.objs.size≤a):a∉X.fs:=fun hb=>by
 obtain⟨_,o,ho,_⟩:=I.ok.funs.mem hb
 exact absurd (zbk9 (zbk8 ho) (zbk3 I.sz h)) (zbp5 _)
theorem Inv.cne (I:Inv X pins σ H s):∀x c,X.env.cells.lookup x=some c→c≠X.env.locals:=fun x c e z=>by
 obtain⟨v,o,ho,hd⟩:=I.cell x c e
 obtain⟨m,⟨o',es,ep,ho',hd',_⟩,_⟩:=I.loc
 rw [z,ho']at ho;cases ho;rw [hd']at hd;cases hd
theorem Inv.funs (I:Inv X pins σ H s):s.heap.FunFrames X.base X.outer:=by
 have all:∀(l:List Env),(∀b∈frs l,b∈X.fs)→X.s₀.heap.FunFrames X.base l→s.heap.FunFrames X.base l:=by
  intro l
  induction l with
  |nil=>intro _ _;trivial
  |cons env r ih =>
   intro hs hl
   obtain⟨hk,⟨L,o,hf,hn,ho,hd⟩,hr⟩:=hl
   have hL:L∈X.fs:=hs L (by unfold frs;rw [zbv9,hf];exact zbj7)
   obtain⟨sl,e⟩:=I.base.slot L o ho (I.ok.frf L hL) hL fun z=>I.ok.exfs L z hL
   exact⟨hk,⟨L,_,hf,hn,e,hd⟩,ih (fun b hb=>hs b (by unfold frs;rw [zbv9,hf];exact zbj2 _ hb)) hr⟩
 exact all X.outer (fun _ hb=>hb) I.ok.funs
theorem Inv.stack (I:Inv X pins σ H s):s.heap.FunFrames X.base X.stack:=by
 rcases I.ok.stk with e | ⟨e,hf⟩
 ·rw [e];exact I.funs
 ·rw [e]
  obtain⟨m,hn,_⟩:=I.loc
  refine .cons (by rw [I.ok.kind];decide) hf hn ?_ I.funs
  exact Heap.get?_none_of_le (zbk3 I.ok.bsz I.ok.above)
theorem Inv.stkSub (I:Inv X pins σ H s):∀b∈frs X.stack,b∈X.env.locals::X.fs:=fun b hb=>by
 rcases I.ok.stk with e | ⟨e,hf⟩
 ·rw [e]at hb;exact zbj2 _ hb
 ·rw [e]at hb
  unfold frs at hb
  rw [zbv9,hf]at hb
  exact hb
theorem Inv.stkFree (I:Inv X pins σ H s):∀b∈frs X.stack,H b=none:=fun b hb=>by
 rcases zbj9.mp (I.stkSub b hb) with e | hb
 ·rw [e];exact I.free
 ·obtain⟨_,o,ho,_⟩:=I.ok.funs.mem hb
  exact I.base.free b o ho (I.ok.frf b hb) fun z=>I.ok.exfs b z hb
theorem Inv.step {g':Array GenState}{t':Nat}{d':Drawn}{ch:List Addr} (I:Inv X pins σ H s)
  (hch:∀b∈ch,(b∈X.ex∨X.s₀.heap.objs.size≤b)∧b≠X.env.locals∧(∀x c,X.env.cells.lookup x=some c→c≠b)∧∀p∈X.pn++pins,p.1≠b)
  (keep:∀b o,b≠X.env.locals→b∉X.fs→b∉ch→s.heap.get? b=some o→H b=none→h'.get? b=some o)
  (slot:∀b o,b≠X.env.locals→b∈X.fs→b∉ch→s.heap.get? b=some o→H b=none→∃sl,h'.get? b=some { o with slots:=sl }) (free:∀b o,b∉ch→s.heap.get? b=some o→H b=none→H' b=none)
  (there:∀b o,b∉ch→s.heap.get? b=some o→∃o',h'.get? b=some o')
  (tups:∀b xs,H b=some (.tup xs)→H' b=some (.tup xs)) (frzs:∀b o u,H b=some (.frz o u)→H' b=some (.frz o u)) (tbls:∀b q,H b=some (.tbl q)→H' b=some (.tbl q))
  (ns:∀m,s.heap.Ns X.env.locals m→h'.Ns X.env.locals m) (hok:HOk X.prog X.w H' h') (hg:AllBare g') :
  Inv X pins σ H' { s with heap:=h',gens:=g',drawn:=d',toks:=t' }:=by
 have neL:∀b o,X.s₀.heap.get? b=some o→b≠X.env.locals:=fun b o e=>zbl7 (zbk9 (zbk8 e) I.ok.above)
 have neC:∀b o,X.s₀.heap.get? b=some o→b∉X.ex→b∉ch:=fun b o e hx hb=>by
  rcases (hch b hb).1 with z | z
  ·exact hx z
  ·exact absurd (zbk9 (zbk8 e) z) (zbp5 _)
 have cellK:∀x c,X.env.cells.lookup x=some c→∀v,s.heap.IsCell c v→h'.IsCell c v:=fun x c e v ⟨o,ho,hd⟩=>by
  have nch:c∉ch:=fun z=>(hch c z).2.2.1 x c e rfl
  by_cases hc:c∈X.fs
  ·obtain⟨sl,q⟩:=slot c o (I.cne x c e) hc nch ho (I.freeC x c e)
   exact⟨_,q,hd⟩
  ·exact⟨o,keep c o (I.cne x c e) hc nch ho (I.freeC x c e),hd⟩
 refine⟨I.ok,I.os,hg,⟨fun b o e n hb hx=>?_,fun b o e n hb hx=>?_,fun b o e n hx=>?_,fun b o e hx=>?_,fun b xs e=>tups b xs (I.base.tups b xs e),fun b o xs e=>frzs b o xs (I.base.frzs b o xs e),fun b ps e=>?_⟩,?_,fun x c e=>?_,?_,fun x c e=>?_,fun p hp=>?_,hok,I.len⟩
 ·exact keep b o (neL b o e) hb (neC b o e hx) (I.base.keep b o e n hb hx) (I.base.free b o e n hx)
 ·obtain⟨sl,e1⟩:=I.base.slot b o e n hb hx
  obtain⟨sl',e2⟩:=slot b _ (neL b o e) hb (neC b o e hx) e1 (I.base.free b o e n hx)
  exact⟨sl',e2⟩
 ·obtain⟨o',e1⟩:=I.base.there b o e hx
  exact free b o' (neC b o e hx) e1 (I.base.free b o e n hx)
 ·obtain⟨o',e1⟩:=I.base.there b o e hx
  exact there b o' (neC b o e hx) e1
 ·exact tbls b _ (I.base.tbls b ps e)
 ·obtain⟨m,hn,hl⟩:=I.loc
  refine⟨m,ns m hn,fun i x v e1 e2 e3=>?_⟩
  obtain⟨u,r,l⟩:=hl i x v e1 e2 e3
  refine⟨u,r,?_⟩
  rcases l with l | ⟨k,c,e,z⟩
  ·exact .inl l
  ·exact .inr ⟨k,c,e,cellK x c e _ z⟩
 ·obtain⟨v,z⟩:=I.cell x c e
  exact⟨v,cellK x c e v z⟩
 ·obtain⟨m,⟨o,_,_,ho,_⟩,_⟩:=I.loc
  exact free _ o (fun z=>(hch _ z).2.1 rfl) ho I.free
 ·obtain⟨v,o,ho,hd⟩:=I.cell x c e
  exact free c o (fun z=>(hch c z).2.2.1 x c e rfl) ho (I.freeC x c e)
 ·obtain⟨e,n,ne,nf,d⟩:=I.pin p hp
  have nch:p.1∉ch:=fun z=>(hch p.1 z).2.2.2 p hp rfl
  exact⟨keep p.1 p.2 ne nf nch e n,free p.1 p.2 nch e n,ne,nf,d⟩
theorem Inv.un {t':Nat} (I:Inv X pins σ H s) (u:Un X.fs [] H H' s.heap h') (hok:HOk X.prog X.w H' h'):Inv X pins σ H' { s with heap:=h',toks:=t' }:=by
 obtain⟨m,⟨o,es,ep,ho,r⟩,_⟩:=id I.loc
 obtain⟨sl,hL⟩:=u.any ho I.free (by simp)
 exact I.step (g':=s.gens) (d':=s.drawn) (ch:=[]) (fun _ z=>nomatch z) (fun b o _ hb _ e n=>u.keep b o e n hb (by simp)) (fun b o _ hb _ e n=>u.slot b o e n hb (by simp)) (fun b o _ e n=>u.free b o e n (by simp)) (fun b o _ e=>u.there b o e (by simp)) u.tups u.frzs u.tbls (fun m' hm=>by
  obtain⟨o',es',ep',ho',r'⟩:=hm
  rw [ho]at ho';cases ho'
  exact⟨_,es',ep',hL,r'⟩) hok I.bare
theorem Inv.call {g':Array GenState}{t':Nat}{d':Drawn}{ch:List Addr} (I:Inv X pins σ H s) (u:Un (frs X.stack) ch H H' s.heap h') (hok:HOk X.prog X.w H' h') (hg:AllBare g')
  (hch:∀b∈ch,(b∈X.ex∨X.s₀.heap.objs.size≤b)∧b≠X.env.locals∧(∀x c,X.env.cells.lookup x=some c→c≠b)∧∀p∈X.pn++pins,p.1≠b) :
  Inv X pins σ H' { s with heap:=h',gens:=g',drawn:=d',toks:=t' }:=by
 obtain⟨m,⟨o,es,ep,ho,r⟩,_⟩:=id I.loc
 obtain⟨sl,hL⟩:=u.any ho I.free fun z=>(hch _ z).2.1 rfl
 exact I.step (ch:=ch) hch (fun b o hL hb hc e n=>u.keep b o e n (fun z=>(zbj9.mp (I.stkSub b z)).elim hL hb) hc) (fun b o _ _ hc e n=>u.any e n hc) (fun b o hc e n=>u.free b o e n hc) (fun b o hc e=>u.there b o e hc) u.tups u.frzs u.tbls (fun m' hm=>by
  obtain⟨o',es',ep',ho',r'⟩:=hm
  rw [ho]at ho';cases ho'
  exact⟨_,es',ep',hL,r'⟩) hok hg
theorem Inv.turned {t':Nat}{it:Addr} (I:Inv X pins σ H s) (k:∀b o,b≠it→s.heap.get? b=some o→h'.get? b=some o) (hn:H it=none) (hL:it≠X.env.locals)
  (h1:it∈X.ex∨X.s₀.heap.objs.size≤it) (h2:∀x c,X.env.cells.lookup x=some c→c≠it) (h3:∀p∈X.pn++pins,p.1≠it):Inv X pins σ H { s with heap:=h',toks:=t' }:=by
 have nit:∀b u,H b=some u→b≠it:=fun b u e z=>by rw [z,hn]at e;cases e
 refine I.step (g':=s.gens) (d':=s.drawn) (ch:=[it]) (fun b hb=>?_) (fun b o _ _ hc e _=>k b o (fun z=>hc (by simp [z])) e) (fun b o _ _ hc e _=>⟨o.slots,k b o (fun z=>hc (by simp [z])) e⟩) (fun _ _ _ _ n=>n)
  (fun b o hc e=>⟨o,k b o (fun z=>hc (by simp [z])) e⟩) (fun _ _ e=>e) (fun _ _ _ e=>e) (fun _ _ e=>e) (fun m hm=>?_) (fun b u e=>?_) I.bare
 ·have e:b=it:=by simpa using hb
  subst e
  exact⟨h1,hL,h2,h3⟩
 ·obtain⟨o,es,ep,ho,r⟩:=hm
  exact⟨o,es,ep,k _ o (Ne.symm hL) ho,r⟩
 ·refine (I.hok b u e).stay (fun c v hc q=>k c v ?_ q) (fun _ q=>q) (fun _ _ q=>q) fun _ _ _ q=>q
  rcases hc with z | z
  ·rw [z];exact nit b u e
  ·exact nit c _ z
theorem Inv.tok (I:Inv X pins σ H s) (t:Nat):Inv X pins σ H { s with toks:=t }:=I.un (h':=s.heap) (t':=t) Un.refl I.hok
theorem Inv.kept {t':Nat} (I:Inv X pins σ H s) (k:∀b u,s.heap.get? b=some u→h'.get? b=some u):Inv X pins σ H { s with heap:=h',toks:=t' }:=I.un (Un.kept k) (I.hok.kept k)
theorem Inv.laid {a:Addr}{o:HO}{t':Nat} (I:Inv X pins σ H s) (k:∀b u,s.heap.get? b=some u→h'.get? b=some u) (hp:s.heap.objs.size≤a) (new:ObjOk X.prog X.w (upd H a o) h' a o) :
  Inv X pins σ (upd H a o) { s with heap:=h',toks:=t' }:=I.un (Un.laid k hp (I.hok.fresh hp)) (I.hok.laid k hp new)
theorem Inv.write {x e:Addr}{o:HO}{t':Nat} (I:Inv X pins σ H s) (mu:Mut (H x)) (he:e=x∨H e=some (.own x)) (k:∀b u,b≠e→s.heap.get? b=some u→h'.get? b=some u) (heo:∃u,h'.get? e=some u)
  (new:ObjOk X.prog X.w (upd H x o) h' x o):Inv X pins σ (upd H x o) { s with heap:=h',toks:=t' }:=I.un (Un.write mu he k heo) (I.hok.write mu he k heo new)
theorem Inv.pins_of {pins':List (Addr×Obj)} (I:Inv X pins σ H s) (h:∀p∈pins',s.heap.get? p.1=some p.2∧H p.1=none∧p.1≠X.env.locals∧p.1∉X.fs∧∀v,p.2.data≠.cell v):Inv X pins' σ H s :=
 ⟨I.ok,I.os,I.bare,I.base,I.loc,I.cell,I.free,I.freeC,fun p hp=>(zbj4.mp hp).elim (fun z=>I.pin p (zbj1 _ z)) (h p),I.hok,I.len⟩
theorem zar8 {N:List Str} (hN:N.Nodup) {i j:Nat}{x:Str} (a:N[i]?=some x) (b:N[j]?=some x):i=j:=by
 obtain⟨h1,e1⟩:=zbr0.mp a
 obtain⟨h2,e2⟩:=zbr0.mp b
 exact (List.getElem_inj hN).mp (e1.trans e2.symm)
theorem zag7 {M:Model}{A:Around}{E:Value→zbk7→Prop}{i:Nat}{x:Str}{v:V}{u:Value}{Q:Unit→zbk7→Prop} (I:Inv X pins σ H s) (hN:X.N.Nodup) (hi:X.N[i]?=some x) (hx:Loc X.env.scope x) (r:RelV v u)
  (h:∀s',Inv X pins (σ.set i (some v)) H s'→(∃a,Heap.SameBut a s.heap s'.heap∧(a=X.env.locals∨X.env.cells.lookup x=some a))→Q () s') (hf:X.fn x=true∨X.env.scope.names.lookup x=some .local:=by first | exact .inl rfl | exact .inr rfl | assumption):wpAny M A (storeName X.env x u) Q E s:=by
 obtain⟨m,hn,hl⟩:=id I.loc
 have hcls:(X.env.scope.kind == .class||(X.env.scope.kind == .module&&X.env.locals != X.env.globals))=false:=by rw [I.ok.kind];rfl
 have hiσ:i<σ.length:=by rw [I.len];exact (zbr0.mp hi).1
 have cne:=I.cne
 have tracked:∀ {a:Addr}{h':Heap},(∃o,s.heap.get? a=some o∧H a=none)→Heap.SameBut a s.heap h'→HOk X.prog X.w H h':=fun {a h'} ha hs b ob e=>by
  obtain⟨_,_,hfree⟩:=ha
  refine (I.hok b ob e).stay (fun c w' hc q=>(hs.2 c ?_).trans q) (fun _ q=>q) (fun _ _ q=>q) fun _ _ _ q=>q
  rintro rfl
  rcases hc with rfl | hc
  ·rw [hfree]at e;cases e
  ·rw [hfree]at hc;cases hc
 rcases hx with hk | hk
 ·refine wpAny_storeName_local hk hn (fun h' hn' hs=>?_) hcls
  obtain⟨oL,_,_,hoL,_⟩:=id hn
  refine h _ ⟨I.ok,I.os,I.bare,⟨fun b o e n hb hx=>?_,fun b o e n hb hx=>?_,I.base.free,fun b o e hx=>?_,I.base.tups,I.base.frzs,I.base.tbls⟩,⟨_,hn',fun j y v' e1 e2 e3=>?_⟩,fun y c e=>?_,I.free,I.freeC,fun p hp=>?_,tracked ⟨oL,hoL,I.free⟩ hs,by simpa using I.len⟩ ⟨_,hs,.inl rfl⟩
  ·exact (hs.2 b (zbl7 (zbk9 (zbk8 e) I.ok.above))).trans (I.base.keep b o e n hb hx)
  ·obtain⟨sl,e1⟩:=I.base.slot b o e n hb hx
   exact⟨sl,(hs.2 b (zbl7 (zbk9 (zbk8 e) I.ok.above))).trans e1⟩
  ·obtain⟨o',e1⟩:=I.base.there b o e hx
   exact⟨o',(hs.2 b (zbl7 (zbk9 (zbk8 e) I.ok.above))).trans e1⟩
  ·by_cases hj:j=i
   ·subst hj
    rw [hi]at e1;cases e1
    rw [zby0 hiσ]at e2
    cases e2
    exact⟨u,r,.inl ⟨hk,by simp⟩⟩
   ·rw [zbt4 (Ne.symm hj)]at e2
    obtain⟨u',r',q⟩:=hl j y v' e1 e2 e3
    refine⟨u',r',?_⟩
    rcases q with ⟨k,e⟩ | ⟨k,c,e,z⟩
    ·refine .inl ⟨k,?_⟩
     have:y≠x:=fun e=>hj (zar8 hN e1 (e ▸ hi))
     simp [this,e]
    ·exact .inr ⟨k,c,e,z.sameBut hs (cne y c e)⟩
  ·obtain⟨w',z⟩:=I.cell y c e
   exact⟨w',z.sameBut hs (cne y c e)⟩
  ·obtain⟨e,n,ne,nf,d⟩:=I.pin p hp
   exact⟨(hs.2 p.1 ne).trans e,n,ne,nf,d⟩
 ·have hfn:X.fn x=true:=by
   rcases hf with z | z
   ·exact z
   ·rw [z]at hk;cases hk
  obtain⟨c,hc⟩:=I.ok.has x (.inl hk)
  obtain⟨w',z⟩:=I.cell x c hc
  refine wpAny_storeName_cell I.ok.kind hk hc z (fun h' hc' hs=>?_)
  obtain⟨oc,hoc,hocd⟩:=id z
  refine h { s with heap:=h' } ⟨I.ok,I.os,I.bare,⟨fun b o e n hb hx=>?_,fun b o e n hb hx=>?_,I.base.free,fun b o e hx=>?_,I.base.tups,I.base.frzs,I.base.tbls⟩,⟨m,hn.sameBut hs (Ne.symm (cne x c hc)),fun j y v' e1 e2 e3=>?_⟩,fun y c' e=>?_,I.free,I.freeC,fun p hp=>?_,tracked ⟨oc,hoc,I.freeC x c hc⟩ hs,by simpa using I.len⟩ ⟨c,hs,.inr hc⟩
  ·exact (hs.2 b (zbl7 (zbk9 (zbk8 e) (I.ok.cab x c hfn hc)))).trans (I.base.keep b o e n hb hx)
  ·obtain⟨sl,e1⟩:=I.base.slot b o e n hb hx
   exact⟨sl,(hs.2 b (zbl7 (zbk9 (zbk8 e) (I.ok.cab x c hfn hc)))).trans e1⟩
  ·obtain⟨o',e1⟩:=I.base.there b o e hx
   exact⟨o',(hs.2 b (zbl7 (zbk9 (zbk8 e) (I.ok.cab x c hfn hc)))).trans e1⟩
  ·by_cases hj:j=i
   ·subst hj
    rw [hi]at e1;cases e1
    rw [zby0 hiσ]at e2
    cases e2
    exact⟨u,r,.inr ⟨.inl hk,c,hc,hc'⟩⟩
   ·rw [zbt4 (Ne.symm hj)]at e2
    obtain⟨u',r',q⟩:=hl j y v' e1 e2 e3
    refine⟨u',r',?_⟩
    rcases q with q | ⟨k,c',e,z'⟩
    ·exact .inl q
    ·refine .inr ⟨k,c',e,z'.sameBut hs ?_⟩
     rintro rfl
     exact hj (zar8 hN e1 (I.ok.inj _ _ _ e hc ▸ hi))
  ·by_cases hcc:c'=c
   ·subst hcc;exact⟨_,hc'⟩
   ·obtain⟨w2,z2⟩:=I.cell y c' e
    exact⟨w2,z2.sameBut hs hcc⟩
  ·obtain⟨e,n,ne,nf,d⟩:=I.pin p hp
   refine⟨(hs.2 p.1 ?_).trans e,n,ne,nf,d⟩
   intro q
   rw [q,hoc]at e
   have q':oc=p.2:=Option.some.inj e
   exact d w' (by rw [← q'];exact hocd)
theorem zx9 {M:Model}{A:Around}{E:Value→zbk7→Prop}{i:Nat}{x:Str}{v:V}{u:Value}{Q:Unit→zbk7→Prop} (I:Inv X pins σ H s) (hN:X.N.Nodup) (hi:X.N[i]?=some x) (hx:Loc X.env.scope x) (r:RelV v u)
  (h:∀s',Inv X pins (σ.set i (some v)) H s'→Q () s') (hf:X.fn x=true∨X.env.scope.names.lookup x=some .local:=by first | exact .inl rfl | exact .inr rfl | assumption):wpAny M A (storeName X.env x u) Q E s :=
 zag7 I hN hi hx r (fun s' I' _=>h s' I') hf
end
abbrev XK:=Value→Option Addr→Hp→Prop
abbrev St:=List (Option V)
abbrev VK:=V→Hp→Prop
abbrev TE:=St→Hp→VK→Prop
abbrev TT:=St→Hp→(Bool→Hp→Prop)→Prop
abbrev TA:=St→Hp→(List V→Hp→Prop)→Prop
structure Ends where
 nx:St→Hp→Prop
 rt:VK
 bk:St→Hp→Prop:=fun _ _=>False
 ct:St→Hp→Prop:=fun _ _=>False
abbrev TS:=Ends→St→Hp→Prop
def EP (X:Cx) (pins:List (Addr×Obj)) (σ:St) (Q:VK) (u:Value) (s':zbk7):Prop := ∃v H',Inv X pins σ H' s'∧RelV v u∧Q v H'
def TP (X:Cx) (pins:List (Addr×Obj)) (σ:St) (Q:Bool→Hp→Prop) (b:Bool) (s':zbk7):Prop := ∃H',Inv X pins σ H' s'∧Q b H'
noncomputable def AP (X:Cx) (pins:List (Addr×Obj)) (σ:St) (Q:List V→Hp→Prop) (us:List Value) (s':zbk7):Prop := ∃vs H',Inv X pins σ H' s'∧Vals vs us∧Q vs H'
noncomputable def SP (X:Cx) (pins:List (Addr×Obj)) (D:Ends) (f:Flow) (s':zbk7):Prop :=
 match f with
 |.next => ∃σ' H',Inv X pins σ' H' s'∧D.nx σ' H'
 |.brk => ∃σ' H',Inv X pins σ' H' s'∧D.bk σ' H'
 |.cont => ∃σ' H',Inv X pins σ' H' s'∧D.ct σ' H'
 |.ret u => ∃v σ' H',Inv X pins σ' H' s'∧RelV v u∧D.rt v H'
noncomputable def PE (X:Cx) (e:Expr) (t:TE):Prop :=
 ∀(pins:List (Addr×Obj)) (s:zbk7) (σ:St) (H:Hp) (Q:VK),Inv X pins σ H s→t σ H Q→wpAny (model X.prog X.w) X.A (eval e X.env) (EP X pins σ Q) X.xe s
noncomputable def PT (X:Cx) (e:Expr) (t:TT):Prop :=
 ∀(pins:List (Addr×Obj)) (s:zbk7) (σ:St) (H:Hp) (Q:Bool→Hp→Prop),Inv X pins σ H s→t σ H Q→wpAny (model X.prog X.w) X.A (isTrue e X.env (eval e X.env)) (TP X pins σ Q) X.xe s
noncomputable def PW (X:Cx) (e:Expr) (t:TT):Prop :=
 ∀(whole:Sem Value) (pins:List (Addr×Obj)) (s:zbk7) (σ:St) (H:Hp) (Q:Bool→Hp→Prop),Inv X pins σ H s→t σ H Q→wpAny (model X.prog X.w) X.A (isTrue e X.env whole) (TP X pins σ Q) X.xe s
theorem PW.pt {X:Cx}{e:Expr}{t:TT} (h:PW X e t):PT X e t:=h _
noncomputable def PA (X:Cx) (es:List Expr) (t:TA):Prop :=
 ∀(pos:Pos) (pins:List (Addr×Obj)) (s:zbk7) (σ:St) (H:Hp) (Q:List V→Hp→Prop),Inv X pins σ H s→t σ H Q→wpAny (model X.prog X.w) X.A (spliced (zbs5 pos (zbl2 es X.env))) (AP X pins σ Q) X.xe s
noncomputable def PS (X:Cx) (st:Stmt) (t:TS):Prop :=
 ∀(pins:List (Addr×Obj)) (s:zbk7) (σ:St) (H:Hp) (D:Ends),Inv X pins σ H s→t D σ H→wpAny (model X.prog X.w) X.A (exec st X.env) (SP X pins D) X.xe s
noncomputable def PSs (X:Cx) (st:List Stmt) (t:TS):Prop :=
 ∀(pins:List (Addr×Obj)) (s:zbk7) (σ:St) (H:Hp) (D:Ends),Inv X pins σ H s→t D σ H→wpAny (model X.prog X.w) X.A (execs st X.env) (SP X pins D) X.xe s
theorem thn {α:Type}{t:Sem α}{Q Q':α→zbk7→Prop}{M:Model}{A:Around}{E:Value→zbk7→Prop}{s:zbk7} (h:wpAny M A t Q E s) (hQ:∀a s,Q a s→Q' a s):wpAny M A t Q' E s:=wpAny_mono h hQ fun _ _ x=>x
end L2
namespace L2
open PySem.Spec
section
variable {X:Cx}
theorem bin {a b:Expr}{ta tb:TE} (ha:PE X a ta) (hb:PE X b tb) {pins:List (Addr×Obj)}{s:zbk7}{σ:St}{H:Hp}{R:V→V→Hp→Prop} (I:Inv X pins σ H s) (h:ta σ H fun x H1=>tb σ H1 fun y H2=>R x y H2)
  {α:Type}{Q:α→zbk7→Prop}{f:Value→Value→Sem α}
  (hf:∀v u s2 x y H2,Inv X pins σ H2 s2→RelV x v→RelV y u→R x y H2→wpAny (model X.prog X.w) X.A (f v u) Q X.xe s2) :
  wpAny (model X.prog X.w) X.A (eval a X.env) (fun v s₁=>wpAny (model X.prog X.w) X.A (eval b X.env) (fun u s₂=>wpAny (model X.prog X.w) X.A (f v u) Q X.xe s₂) X.xe s₁) X.xe s:=by
 refine thn (ha pins s σ H _ I h) fun v s1 ⟨x,H1,I1,r1,q1⟩=>?_
 refine thn (hb pins s1 σ H1 _ I1 q1) fun u s2 ⟨y,H2,I2,r2,q2⟩=>?_
 exact hf v u s2 x y H2 I2 r1 r2 q2
def tVar (i:Nat):TE:=fun σ H Q => ∃v,σ[i]?=some (some v)∧Q v H
def tC (v:V):TE:=fun _ H Q=>Q v H
theorem zt4 {i:Nat}{x:Str}{pos:Pos} (hN:X.N[i]?=some x) (hv:Vis X.env.scope x) (hd:(x ==("__debug__":Str))=false:=by decide) (hcd:(x ==("__classdict__":Str))=false:=by decide):PE X (.Name x pos) (tVar i):=by
 intro pins s σ H Q I h
 obtain⟨v,e,h⟩:=h
 obtain⟨m,hn,hl⟩:=I.loc
 obtain⟨u,r,l⟩:=hl i x v hN e hv
 have fin:EP X pins σ Q u s:=⟨v,H,I,r,h⟩
 rcases l with ⟨hk,hm⟩ | ⟨hk,c,hc,hcell⟩
 ·exact wpAny_Name (wpAny_loadName_local I.ok.kind hk hn hm fin) hd
 ·rcases hk with hk | hk
  ·exact wpAny_Name (wpAny_loadName_cell I.ok.kind hk hc hcell fin) hd
  ·exact wpAny_Name (wpAny_loadName_free I.ok.kind hk hc hcell fin hcd) hd
theorem pe_int {i j pos}:PE X (.Constant (.int i) j pos) (tC (.int i)):=fun _ _ _ H _ I h=>wpAny_Constant_int ⟨.int i,H,I.tok _,⟨_,rfl⟩,h⟩
theorem pe_bl {b j pos}:PE X (.Constant (.bool b) j pos) (tC (.bl b)):=fun _ _ _ H _ I h=>Constant_bool ⟨.bl b,H,I,rfl,h⟩
def Gl (X:Cx) (x:Str):Prop:=X.env.kindOf x=some .globalImplicit
theorem ld_glob {E:Value→zbk7→Prop}{pins:List (Addr×Obj)}{s:zbk7}{σ:St}{H:Hp}{x:Str}{u:Value}{pos:Pos}{Q:Value→zbk7→Prop} (I:Inv X pins σ H s) (hg:Gl X x) (hm:X.mg x=some u) (h:Q u s)
  (hd:(x ==("__debug__":Str))=false:=by decide):wpAny (model X.prog X.w) X.A (eval (.Name x pos) X.env) Q E s :=
 Calls.Name_function_global I.ok.kind hg (Calls.loadGlobal_global (by rw [I.ok.glob];exact I.mod.glob.keeps I.bk) hm h) hd
theorem zp1 {E:Value→zbk7→Prop}{pins:List (Addr×Obj)}{s:zbk7}{σ:St}{H:Hp}{x:Str}{u:Value}{pos:Pos}{Q:Value→zbk7→Prop} (I:Inv X pins σ H s) (hg:Gl X x) (hm:X.mg x=none) (hv:bootBuiltins x=some u) (h:Q u s)
  (hn:x≠"__name__":=by decide) (hd:(x ==("__debug__":Str))=false:=by decide):wpAny (model X.prog X.w) X.A (eval (.Name x pos) X.env) Q E s:=by
 obtain⟨mb,h1,h2⟩:=I.mod.blt
 exact Calls.Name_function_global I.ok.kind hg (Calls.loadGlobal_builtin (by rw [I.ok.glob];exact I.mod.glob.keeps I.bk) hm (by rw [I.ok.blt];exact h1.keeps I.bk) ((h2 x hn).trans hv) h) hd
theorem pe_bltn {x:Str}{v:V}{u:Value}{pos:Pos} (hg:Gl X x) (hm:X.mg x=none) (hv:bootBuiltins x=some u) (r:RelV v u) (hn:x≠"__name__":=by decide) (hd:(x ==("__debug__":Str))=false:=by decide):PE X (.Name x pos) (tC v) :=
 fun _ _ _ H _ I h=>zp1 I hg hm hv ⟨v,H,I,r,h⟩ hn hd
variable {a b:Expr}{ta tb:TE}{pos:Pos}
variable {tA tB':TT}{rest:List Expr}
def tAnd (t u:TT):TT:=fun σ H Q=>t σ H fun c H1=>if c=true then u σ H1 Q else Q false H1
def tOr (t u:TT):TT:=fun σ H Q=>t σ H fun c H1=>if c=true then Q true H1 else u σ H1 Q
def tNot (t:TT):TT:=fun σ H Q=>t σ H fun c H1=>Q (!c) H1
theorem pw_and1 (ha:PT X a tA):PW X (.BoolOp .And [a] pos) tA:=by
 intro wh pins s σ H Q I h
 refine isTrue_and (thn (ha pins s σ H Q I h) fun c s1 e=>?_)
 cases c with
 |true=>exact isTrue_and_nil e
 |false=>exact e
theorem pw_or1 (ha:PT X a tA):PW X (.BoolOp .Or [a] pos) tA:=by
 intro wh pins s σ H Q I h
 refine isTrue_or (thn (ha pins s σ H Q I h) fun c s1 e=>?_)
 cases c with
 |false=>exact isTrue_or_nil e
 |true=>exact e
theorem pw_and (ha:PT X a tA) (hb:PW X (.BoolOp .And (b::rest) pos) tB'):PW X (.BoolOp .And (a::b::rest) pos) (tAnd tA tB'):=by
 intro wh pins s σ H Q I h
 refine isTrue_and (thn (ha pins s σ H _ I h) fun c s1 ⟨H1,I1,q1⟩=>?_)
 cases c with
 |true=>exact hb wh pins s1 σ H1 Q I1 q1
 |false=>exact⟨H1,I1,q1⟩
theorem pw_or (ha:PT X a tA) (hb:PW X (.BoolOp .Or (b::rest) pos) tB'):PW X (.BoolOp .Or (a::b::rest) pos) (tOr tA tB'):=by
 intro wh pins s σ H Q I h
 refine isTrue_or (thn (ha pins s σ H _ I h) fun c s1 ⟨H1,I1,q1⟩=>?_)
 cases c with
 |true=>exact⟨H1,I1,q1⟩
 |false=>exact hb wh pins s1 σ H1 Q I1 q1
theorem pt_not (ha:PT X a tA):PT X (.UnaryOp .Not a pos) (tNot tA):=by
 intro pins s σ H Q I h
 exact isTrue_not (ha pins s σ H (fun c H1=>Q (!c) H1) I h)
def tAndV (ta tb:TE):TE:=fun σ H Q=>ta σ H fun x H1 => ∃c,x=.bl c∧if c=true then tb σ H1 Q else Q (.bl false) H1
def tNotV (ta:TE):TE:=fun σ H Q=>ta σ H fun x H1 => ∃c,x=.bl c∧Q (.bl (!c)) H1
theorem pe_one {op}{t:TE} (h:PE X a t):PE X (.BoolOp op [a] pos) t:=fun pins s σ H Q I hw=>BoolOp_one (h pins s σ H Q I hw)
theorem pe_and (ha:PE X a ta) (hb:PE X (.BoolOp .And (b::rest) pos) tb):PE X (.BoolOp .And (a::b::rest) pos) (tAndV ta tb):=by
 intro pins s σ H Q I h
 refine BoolOp_and (thn (ha pins s σ H _ I h) fun v s1 ⟨x,H1,I1,r1,q1⟩=>?_)
 obtain⟨c,rfl,q1⟩:=q1
 cases r1
 refine wpAny_truthy_bool ?_
 cases c with
 |true=>exact hb pins s1 σ H1 Q I1 q1
 |false=>exact⟨.bl false,H1,I1,rfl,q1⟩
theorem pe_not (ha:PE X a ta):PE X (.UnaryOp .Not a pos) (tNotV ta):=by
 intro pins s σ H Q I h
 refine UnaryOp_ (thn (ha pins s σ H _ I h) fun v s1 ⟨x,H1,I1,r1,q1⟩=>?_)
 obtain⟨c,rfl,q1⟩:=q1
 cases r1
 exact not_of (wpAny_truthy_bool ⟨.bl (!c),H1,I1,rfl,q1⟩)
end
end L2
namespace L2
open PySem.Spec
noncomputable def SqL (K:zbj0) (H:Hp) (a:Addr) (xs:List V):Prop :=
 Rd H a (.lst xs) ∨
  ∃(o:Obj) (its:Array Value) (n:Nat),K.lookup a=some o∧o.cls=.type "list"∧o.dict=none∧o.data=.seq its n∧its.size≤sizeLine∧Vals xs its.toList
noncomputable def SqT (K:zbj0) (H:Hp) (a:Addr) (xs:List V):Prop :=
 Rd H a (.tup xs) ∨
  ∃(o:Obj) (its:Array Value) (n:Nat),K.lookup a=some o∧o.cls=.type "tuple"∧o.data=.seq its n∧its.size≤sizeLine∧Vals xs its.toList
noncomputable def absV:Value→Option V
 |.none=>some .non
 |.bool b=>some (.bl b)
 |.int i _=>some (.int i)
 |.str x _=>some (.str x)
 |.bytes b _=>some (.byt b)
 |.float b _=>some (.flt b)
 |.ref a=>some (.ref a)
 |.type n=>some (.ty n)
 |_=>none
theorem RelV.abs {x:V}{u:Value} (r:RelV x u):absV u=some x:=by
 cases x with
 |non=>cases r;rfl
 |bl _=>cases r;rfl
 |int _=>obtain⟨t,rfl⟩:=r;rfl
 |str _=>obtain⟨t,rfl⟩:=r;rfl
 |byt _=>obtain⟨t,rfl⟩:=r;rfl
 |flt _=>obtain⟨t,rfl⟩:=r;rfl
 |ref _=>cases r;rfl
 |ty _=>cases r;rfl
theorem RelV.inj {x y:V}{u:Value} (r:RelV x u) (q:RelV y u):x=y:=Option.some.inj (r.abs.symm.trans q.abs)
theorem Vals.inj:∀ {xs ys:List V}{us:List Value},Vals xs us→Vals ys us→xs=ys
 |_,_,_,.nil,.nil=>rfl
 |_,_,_,.cons r t,.cons r' t'=>by rw [r.inj r',Vals.inj t t']
section
variable {X:Cx}{pins:List (Addr×Obj)}{σ:St}{H:Hp}{s:zbk7}{a:Addr}{xs ys:List V}
theorem SqL.of {K:zbj0} (h:H a=some (.lst xs)):SqL K H a xs:=.inl (.inl h)
theorem SqT.of {K:zbj0} (h:H a=some (.tup xs)):SqT K H a xs:=.inl (.inl h)
theorem Inv.list (I:Inv X pins σ H s) (h:SqL X.K H a xs):∃its:List Value,Vals xs its∧PlainL s.heap a its.toArray∧xs.length≤sizeLine:=by
 rcases h with h | ⟨o,its,n,hk,hc,hd,hs,hz,r⟩
 ·obtain⟨z,its,n,r,e⟩:=h.ok I.hok
  exact⟨its,r,⟨_,n,e,rfl,rfl,rfl⟩,z⟩
 ·refine⟨its.toList,r,⟨o,n,I.kIn a o hk,hc,hd,by simpa using hs⟩,?_⟩
  have e:=r.length
  simp only [zbz8]at e
  lia
theorem Inv.tuple (I:Inv X pins σ H s) (h:SqT X.K H a xs):∃its:List Value,Vals xs its∧IsTup s.heap a its.toArray∧xs.length≤sizeLine:=by
 rcases h with h | ⟨o,its,n,hk,hc,hs,hz,r⟩
 ·obtain⟨z,its,r,p⟩:=h.ok I.hok
  exact⟨its,r,p,z⟩
 ·refine⟨its.toList,r,⟨o,I.kIn a o hk,hc,n,by simpa using hs⟩,?_⟩
  have e:=r.length
  simp only [zbz8]at e
  lia
theorem Inv.list_inj (I:Inv X pins σ H s) (h:SqL X.K H a xs) (h':SqL X.K H a ys):xs=ys:=by
 obtain⟨its,r,⟨o,n,e,_,_,d⟩,_⟩:=I.list h
 obtain⟨its',r',⟨o',n',e',_,_,d'⟩,_⟩:=I.list h'
 rw [e]at e';cases e'
 rw [d]at d'
 injection d' with d1 _
 have:its=its':=by simpa using congrArg Array.toList d1
 subst this
 exact r.inj r'
theorem Inv.tuple_inj (I:Inv X pins σ H s) (h:SqT X.K H a xs) (h':SqT X.K H a ys):xs=ys:=by
 obtain⟨its,r,⟨o,e,_,n,d⟩,_⟩:=I.tuple h
 obtain⟨its',r',⟨o',e',_,n',d'⟩,_⟩:=I.tuple h'
 rw [e]at e';cases e'
 rw [d]at d'
 injection d' with d1 _
 have:its=its':=by simpa using congrArg Array.toList d1
 subst this
 exact r.inj r'
end
abbrev Cx.wish (X:Cx) (E:Value→zbk7→Prop):Cx:={ X with xe:=E }
abbrev Cx.nox (X:Cx):Cx:=X.wish fun _ _=>False
theorem Cx.Ok.wish {X:Cx} (ok:X.Ok) (E:Value→zbk7→Prop):(X.wish E).Ok :=
 ⟨ok.mod,ok.kind,ok.glob,ok.blt,ok.above,ok.inj,ok.has,ok.cab,ok.hd,ok.frames,ok.stk,ok.exf,ok.bs,ok.bsz,ok.noex,ok.exfs,ok.funs,ok.frf,ok.tabs⟩
theorem Cx.Ok.unwish {X:Cx}{E:Value→zbk7→Prop} (ok:(X.wish E).Ok):X.Ok :=
 ⟨ok.mod,ok.kind,ok.glob,ok.blt,ok.above,ok.inj,ok.has,ok.cab,ok.hd,ok.frames,ok.stk,ok.exf,ok.bs,ok.bsz,ok.noex,ok.exfs,ok.funs,ok.frf,ok.tabs⟩
section
variable {X:Cx}{pins:List (Addr×Obj)}{σ:St}{H:Hp}{s:zbk7}{E:Value→zbk7→Prop}
theorem Inv.wish (I:Inv X pins σ H s) (E:Value→zbk7→Prop):Inv (X.wish E) pins σ H s:=⟨I.ok.wish E,I.os,I.bare,I.base,I.loc,I.cell,I.free,I.freeC,I.pin,I.hok,I.len⟩
theorem Inv.unwish (I:Inv (X.wish E) pins σ H s):Inv X pins σ H s:=⟨I.ok.unwish,I.os,I.bare,I.base,I.loc,I.cell,I.free,I.freeC,I.pin,I.hok,I.len⟩
theorem SP.unwish {D:Ends}{f:Flow}{s':zbk7} (h:SP (X.wish E) pins D f s'):SP X pins D f s':=by
 cases f with
 |next=>obtain⟨σ',H',I,q⟩:=h;exact⟨σ',H',I.unwish,q⟩
 |brk=>obtain⟨σ',H',I,q⟩:=h;exact⟨σ',H',I.unwish,q⟩
 |cont=>obtain⟨σ',H',I,q⟩:=h;exact⟨σ',H',I.unwish,q⟩
 |ret u=>obtain⟨v,σ',H',I,r,q⟩:=h;exact⟨v,σ',H',I.unwish,r,q⟩
theorem PSs.nox {st:List Stmt}{t:TS} (h:PSs X.nox st t):PSs X st t:=fun pins s σ H D I hw =>
 wpAny_mono (h pins s σ H D (I.wish _) hw) (fun _ _ q=>q.unwish) fun _ _ z=>False.elim z
end
section
variable {X:Cx}{st:Stmt}{rest:List Stmt}{t u:TS}{e:Expr}{te:TE}{pos:Pos}
def tNext:TS:=fun D σ H=>D.nx σ H
def tSeq (t u:TS):TS:=fun D σ H=>t { D with nx:=u D } σ H
theorem pss_nil:PSs X [] tNext:=fun _ _ σ H _ I h=>wpAny_execs_nil ⟨σ,H,I,h⟩
theorem pss_cons (h1:PS X st t) (h2:PSs X rest u):PSs X (st::rest) (tSeq t u):=by
 intro pins s σ H D I h
 refine wpAny_execs_cons (thn (h1 pins s σ H { D with nx:=u D } I h) fun f s1 q=>?_)
 cases f with
 |next =>
  obtain⟨σ',H',I',q⟩:=q
  exact h2 pins s1 σ' H' D I' q
 |ret v=>exact q
 |brk=>exact q
 |cont=>exact q
theorem zay8 (h1:PS X st t):PSs X [st] t:=by
 intro pins s σ H D I h
 refine wpAny_execs_cons (thn (h1 pins s σ H D I h) fun f s1 q=>?_)
 cases f with
 |next=>exact wpAny_execs_nil q
 |ret v=>exact q
 |brk=>exact q
 |cont=>exact q
theorem Inv.quiet {pins:List (Addr×Obj)}{σ:St}{H:Hp}{s:zbk7} (I:Inv X pins σ H s):interactive X.env=false:=by simp [interactive,I.ok.kind]
def tDrop (te:TE):TS:=fun D σ H=>te σ H fun _ H1=>D.nx σ H1
theorem zaz4 (he:PE X e te) (hs:swapsWith e none pos.line X.env=pure false:=by rfl):PS X (.Expr e pos) (tDrop te):=by
 intro pins s σ H D I h
 exact wpAny_Expr_any (thn (he pins s σ H _ I h) fun v s1 ⟨x,H1,I1,r1,q1⟩=>⟨σ,H1,I1,q1⟩) I.quiet hs
def tRet (te:TE):TS:=fun D σ H=>te σ H D.rt
theorem zaz3 (he:PE X e te):PS X (.Return (some e) pos) (tRet te):=by
 intro pins s σ H D I h
 exact wpAny_Return_some (thn (he pins s σ H _ I h) fun v s1 ⟨x,H1,I1,r1,q1⟩=>⟨x,σ,H1,I1,r1,q1⟩)
def tIfS (c:TT) (t u:TS):TS:=fun D σ H=>c σ H fun b H1=>if b=true then t D σ H1 else u D σ H1
theorem ps_if {c:Expr}{a b:List Stmt}{tc:TT} (hc:PT X c tc) (ha:PSs X a t) (hb:PSs X b u):PS X (.If c a b pos) (tIfS tc t u):=by
 intro pins s σ H D I h
 refine wpAny_If (thn (hc pins s σ H _ I h) fun d s1 ⟨H1,I1,q1⟩=>?_)
 cases d with
 |true=>exact ha pins s1 σ H1 D I1 q1
 |false=>exact hb pins s1 σ H1 D I1 q1
end
abbrev TG:=V→St→Hp→(St→Hp→Prop)→Prop
abbrev TGs:=List V→St→Hp→(St→Hp→Prop)→Prop
noncomputable def PG (X:Cx) (target:Expr) (t:TG):Prop :=
 ∀(pins:List (Addr×Obj)) (s:zbk7) (σ:St) (H:Hp) (v:V) (u:Value) (Q:St→Hp→Prop),Inv X pins σ H s→RelV v u→t v σ H Q →
  wpAny (model X.prog X.w) X.A (assign target X.env u) (fun _ s' => ∃σ' H',Inv X pins σ' H' s'∧Q σ' H') X.xe s
noncomputable def PGs (X:Cx) (ts:List Expr) (t:TGs):Prop :=
 ∀(pins:List (Addr×Obj)) (s:zbk7) (σ:St) (H:Hp) (vs:List V) (us:List Value) (Q:St→Hp→Prop),Inv X pins σ H s→Vals vs us→t vs σ H Q →
  wpAny (model X.prog X.w) X.A (assignInOrder ((assignEach ts X.env).map (·.2)) us) (fun _ s' => ∃σ' H',Inv X pins σ' H' s'∧Q σ' H') X.xe s
abbrev TSet:=V→V→V→Hp→(Hp→Prop)→Prop
noncomputable def PSet (X:Cx) (t:TSet):Prop :=
 ∀(pins:List (Addr×Obj)) (s:zbk7) (σ:St) (H:Hp) (o i v:V) (ov iv u:Value) (Q:Hp→Prop),Inv X pins σ H s→RelV o ov→RelV i iv→RelV v u→t o i v H Q →
  wpAny (model X.prog X.w) X.A (setItem ov iv u) (fun _ s' => ∃H',Inv X pins σ H' s'∧Q H') X.xe s
section
variable {X:Cx}{pos:Pos}
def zaw6 (i:Nat):TG:=fun v σ H Q=>Q (σ.set i (some v)) H
theorem zc2 {i:Nat}{x:Str} (hN:X.N.Nodup) (hi:X.N[i]?=some x) (hx:Loc X.env.scope x) (hf:X.fn x=true∨X.env.scope.names.lookup x=some .local:=by first | exact .inl rfl | exact .inr rfl | assumption):PG X (.Name x pos) (zaw6 i):=by
 intro pins s σ H v u Q I r h
 exact wpAny_assign_Name (zx9 I hN hi hx r (fun s' I'=>⟨_,H,I',h⟩) hf)
def gNil:TGs:=fun vs σ H Q=>vs=[]∧Q σ H
def gCons (t:TG) (u:TGs):TGs:=fun vs σ H Q => ∃v r,vs=v::r∧t v σ H fun σ' H'=>u r σ' H' Q
theorem zz4:PGs X [] gNil:=by
 intro pins s σ H vs us Q I r h
 obtain⟨e,h⟩:=h
 subst e
 cases r
 exact assignInOrder_nil ⟨σ,H,I,h⟩
theorem zk1 {e:Expr}{es:List Expr}{t:TG}{u:TGs} (h1:PG X e t) (h2:PGs X es u)
  (hs:(assignEach (e::es) X.env).map (·.2)=assign e X.env ::(assignEach es X.env).map (·.2):=by rfl):PGs X (e::es) (gCons t u):=by
 intro pins s σ H vs us Q I r h
 obtain⟨v,vr,e1,h⟩:=h
 subst e1
 cases r with
 |cons r rr =>
  rw [hs]
  refine assignInOrder_cons (thn (h1 pins s σ H _ _ _ I r h) fun _ s1 ⟨σ1,H1,I1,q1⟩=>?_)
  exact h2 pins s1 σ1 H1 _ _ Q I1 rr q1
def gTup (K:zbj0) (n:Nat) (t:TGs):TG:=fun v σ H Q => ∃a xs,v=.ref a∧SqT K H a xs∧xs.length=n∧t xs σ H Q
theorem zar6 {es:List Expr}{k:Nat}{t:TGs}{n:Nat} (hc:X.calm=true) (h:PGs X es t)
  (hn:(assignEach es X.env).length=n:=by rfl) (hst:(assignEach es X.env).findIdx? (·.1)=none:=by rfl):PG X (.Tuple es k pos) (gTup X.K n t):=by
 intro pins s σ H v u Q I r hw
 obtain⟨a,xs,e1,hq,hl,hw⟩:=hw
 subst e1
 cases r
 obtain⟨its,rv,ht,hz⟩:=I.tuple hq
 refine assign_Tuple_tuple (I.ok.hd hc) ht (by simp [hn, ← hl,rv.length]) hst fun h' hx=>?_
 have I1:Inv X pins σ H { s with heap:=h' }:=I.kept (t':=s.toks) fun b o e=>hx b o (zbl7 (zbk8 e)) e
 exact h pins _ σ H xs _ Q I1 (by simpa using rv) hw
def gSub (to ti:TE) (t:TSet):TG:=fun v σ H Q=>to σ H fun o H1=>ti σ H1 fun i H2=>t o i v H2 fun H3=>Q σ H3
theorem pg_sub {o i:Expr}{to ti:TE}{t:TSet} (ho:PE X o to) (hi:PE X i ti) (hs:PSet X t)
  (ha:∀v,assign (.Subscript o i pos) X.env v=(do
   let ov ← holding [v] (eval o X.env)
   let iv ← holding [v,ov] (eval i X.env)
   standAt pos
   holding [v,ov,iv] (setItem ov iv v)
   release [v,ov,iv] []):=by intro _;rfl):PG X (.Subscript o i pos) (gSub to ti t):=by
 intro pins s σ H v u Q I r h
 rw [ha]
 refine zbk2 (wpAny_holding (thn (ho pins s σ H _ I h) fun ov s1 ⟨x,H1,I1,r1,q1⟩=>?_))
 refine zbk2 (wpAny_holding (thn (hi pins s1 σ H1 _ I1 q1) fun iv s2 ⟨y,H2,I2,r2,q2⟩=>?_))
 refine zbk2 (wpAny_standAt (zbk2 (wpAny_holding (thn (hs pins s2 σ H2 x y v ov iv u _ I2 r1 r2 r q2) fun _ s3 ⟨H3,I3,q3⟩=>?_))))
 exact wpAny_release ⟨σ,H3,I3,q3⟩
def tAsg (te:TE) (g:TG):TS:=fun D σ H=>te σ H fun x H1=>g x σ H1 D.nx
theorem zaz6 {tg e:Expr}{te:TE}{g:TG} (he:PE X e te) (hg:PG X tg g) (hs:swapsWithSole [tg] e pos.line X.env=pure false:=by rfl) (hw:swappedStores [tg] e X.env=pure none:=by rfl)
  (h1:(assignEach [tg] X.env).map (·.2)=[assign tg X.env]:=by rfl):PS X (.Assign [tg] e pos) (tAsg te g):=by
 intro pins s σ H D I h
 refine wpAny_Assign_stores (thn (he pins s σ H _ I h) fun v s1 ⟨x,H1,I1,r1,q1⟩=>?_) hs hw
 rw [h1]
 exact thn (hg pins s1 σ H1 x v _ I1 r1 q1) fun _ s2 q=>q
theorem ps_set {i:Nat}{x:Str}{e:Expr}{te:TE}{pos':Pos} (hN:X.N.Nodup) (hi:X.N[i]?=some x) (hx:Loc X.env.scope x) (he:PE X e te) (hs:swapsWith e (some (.Name x pos')) pos.line X.env=pure false:=by rfl) (hf:X.fn x=true∨X.env.scope.names.lookup x=some .local:=by first | exact .inl rfl | exact .inr rfl | assumption) :
  PS X (.Assign [.Name x pos'] e pos) (tAsg te (zaw6 i)):=by
 intro pins s σ H D I h
 refine wpAny_Assign_Name (thn (he pins s σ H _ I h) fun v s1 ⟨y,H1,I1,r1,q1⟩=>?_) hs
 exact zx9 I1 hN hi hx r1 (fun s2 I2=>⟨_,H1,I2,q1⟩) hf
def tPar (i j:Nat) (ta:TA):TS:=fun D σ H=>ta σ H fun vs H1 => ∃v w,vs=[v,w]∧D.nx ((σ.set i (some v)).set j (some w)) H1
theorem ps_par {i j:Nat}{x y:Str}{a b:Expr}{ta:TA}{px py pt:Pos}{kt k2 pt2} (hc:X.calm=true) (hN:X.N.Nodup) (hi:X.N[i]?=some x) (hj:X.N[j]?=some y) (hij:i≠j)
  (hx:X.env.scope.names.lookup x=some .local) (hy:X.env.scope.names.lookup y=some .local) (ha:PA X [a,b] ta)
  (hw:swappedStores [.Tuple [.Name x px,.Name y py] kt pt] (.Tuple [a,b] k2 pt2) X.env=pure (some [x,y]))
  (hs:swapsWithSole [.Tuple [.Name x px,.Name y py] kt pt] (.Tuple [a,b] k2 pt2) pos.line X.env=pure false:=by rfl) :
  PS X (.Assign [.Tuple [.Name x px,.Name y py] kt pt] (.Tuple [a,b] k2 pt2) pos) (tPar i j ta):=by
 intro pins s σ H D I h
 rw [exec_Assign_arm]
 refine zbk2 (wpAny_standAt ?_)
 rw [hs]
 refine zbk2 (zbm0 ?_)
 rw [if_neg (by decide)]
 refine zbk2 (Tuple_ (thn (ha _ pins s σ H _ I h) fun us s1 ⟨vs,H1,I1,r1,q1⟩=>?_))
 obtain⟨v,w,e1,q1⟩:=q1
 subst e1
 obtain⟨u1,u2,rfl,rv,rw'⟩:∃u1 u2,us=[u1,u2]∧RelV v u1∧RelV w u2:=by
  cases r1 with
  |cons p q =>
   cases q with
   |cons p' q' =>
    cases q'
    exact⟨_,_,rfl,p,p'⟩
 refine wpAny_newObj_type ?_ (by show 2≤sizeLine;decide)
 have I2:Inv X pins σ H1 { s1 with heap:=s1.heap.push { cls:=.type "tuple",data:=.seq [u1,u2].toArray } }:=I1.kept (t':=s1.toks) fun b o e=>zbk0 _ e
 rw [hw]
 refine zbk2 (zbm0 ?_)
 show wpAny (model X.prog X.w) X.A (do rule "assign.swapped-stores";let items ← unpackItems (.ref s1.heap.objs.size) 2 none;assignInOrder [fun v=>bindName X.env y v,fun v=>bindName X.env x v] items.reverse;pure Flow.next) _ _ _
 refine zbk2 (wpAny_rule (zbk2 (unpackItems_tuple (items := #[u1,u2]) (I.ok.hd hc) (IsTup.new s1.heap _) fun h' hx'=>?_)))
 have I3:=I2.kept (h':=h') (t':=s1.toks) fun b o e=>hx' b o (zbl7 (zbk8 e)) e
 show wpAny _ _ (assignInOrder [fun v=>bindName X.env y v,fun v=>bindName X.env x v] [u2,u1] >>= fun _=>pure Flow.next) _ _ _
 refine zbk2 (assignInOrder_cons (wpAny_bindName (zx9 I3 hN hj (.inl hy) rw' (fun s2 I4=>?_) (.inr hy))))
 refine assignInOrder_cons (wpAny_bindName (zx9 I4 hN hi (.inl hx) rv (fun s3 I5=>assignInOrder_nil (zbm0 ?_)) (.inr hx)))
 rw [List.set_comm _ _ (Ne.symm hij)]at I5
 exact⟨_,H1,I5,q1⟩
end
section
variable {X:Cx}{pos:Pos}
noncomputable def tWhile (c:TT) (tb:TS):TS:=fun D σ H => ∃W:Nat→St→Hp→Prop,(∃m,W m σ H)∧∀m σ H,W m σ H →
 c σ H fun b H1=>if b=true then ∃N:St→Hp→Prop,(∀σ' H',N σ' H'→∃m',m' < m∧W m' σ' H')∧tb { D with nx:=N,ct:=N,bk:=D.nx } σ H1 else D.nx σ H1
theorem ps_while {c:Expr}{body:List Stmt}{tc:TT}{tb:TS} (hp:PassesOwn (model X.prog X.w) X.A X.env X.xe) (hc:PT X c tc) (hb:PSs X body tb):PS X (.While c body [] pos) (tWhile tc tb):=by
 intro pins s σ H D I h
 obtain⟨W,⟨m0,w0⟩,turn⟩:=h
 refine wpAny_While (codeAny_whileLoop (fun n s' => ∃σ' H',Inv X pins σ' H' s'∧W n σ' H') ?_ m0 ⟨σ,H,I,w0⟩)
 rintro n s1 ⟨σ1,H1,I1,w1⟩
 refine wpAny_passesOwn hp (thn (hc pins s1 σ1 H1 _ I1 (turn n σ1 H1 w1)) fun b s2 ⟨H2,I2,q2⟩=>?_)
 cases b with
 |true =>
  obtain⟨N,hN,q2⟩:=q2
  rw [if_pos rfl]
  refine wpAny_passesOwn hp (thn (hb pins s2 σ1 H2 _ I2 q2) fun f s3 q3=>?_)
  cases f with
  |next =>
   obtain⟨σ3,H3,I3,n3⟩:=q3
   obtain⟨m',hm,w3⟩:=hN σ3 H3 n3
   exact⟨m',hm,σ3,H3,I3,w3⟩
  |cont =>
   obtain⟨σ3,H3,I3,n3⟩:=q3
   obtain⟨m',hm,w3⟩:=hN σ3 H3 n3
   exact⟨m',hm,σ3,H3,I3,w3⟩
  |brk=>exact q3
  |ret v=>exact q3
 |false =>
  rw [if_neg zbl3]
  exact wpAny_execs_nil ⟨σ1,H2,I2,q2⟩
end
structure It where
 go:Nat→Hp→Prop
 yld:Nat→Hp→V→Hp→Prop
 stop:Nat→Hp→Prop
noncomputable def FpOk (X:Cx) (pins:List (Addr×Obj)) (H:Hp) (b:Addr):Prop :=
 H b=none∧b≠X.env.locals∧b∉X.fs∧(b∈X.ex∨X.s₀.heap.objs.size≤b)∧(∀x c,X.env.cells.lookup x=some c→c≠b)∧∀p∈X.pn++pins,p.1≠b
theorem Inv.fpOk {X:Cx}{pins:List (Addr×Obj)}{σ:St}{H H':Hp}{s:zbk7}{b:Addr} (I:Inv X pins σ H s) (hb:s.heap.objs.size≤b) (hn:H' b=none):FpOk X pins H' b:=by
 refine⟨hn,zbr3 (zbk9 I.lt hb),I.nofs hb,.inr (zbk3 I.sz hb),fun x c e z=>?_,fun p hp z=>?_⟩
 ·obtain⟨v,q⟩:=I.cell x c e
  exact absurd (zbk9 q.lt (by rw [z];exact hb)) (zbp5 _)
 ·exact absurd (zbk9 (zbk8 (I.pin p hp).1) (by rw [z];exact hb)) (zbp5 _)
structure Turn (P:Program) (w:World) (K:zbj0) (tg:Expr) (J:It) (fp:List Addr) (it:Addr) (tn:Nat→Heap→Prop):Prop where
 mem:it∈fp
 obj:∀i h,tn i h→∀b∈fp,∃o,h.get? b=some o∧∀v,o.data≠.cell v
 keep:∀i h h',tn i h→(∀b∈fp,∀o,h.get? b=some o→h'.get? b=some o)→tn i h'
 item:∀(X:Cx),X.prog=P→X.w=w→X.K=K→X.calm=true→∀(i:Nat) (pins:List (Addr×Obj)) (s:zbk7) (σ:St) (H:Hp) (E:Value→zbk7→Prop),Inv X pins σ H s→(∀b∈fp,FpOk X pins H b)→tn i s.heap→J.go i H →
  wpAny (model P w) X.A (pyNext (.ref it)) (fun r s1 => ∃u,r=some u ∧
   wpAny (model P w) X.A (letOwnedTupleGo tg (.ref it) u) (fun _ s2 => ∃x H',Inv X pins σ H' s2∧RelV x u∧J.yld i H x H'∧tn (i+1) s2.heap∧∀b∈fp,H' b=none) E s1) E s
 done:∀(X:Cx),X.prog=P→X.w=w→X.K=K→X.calm=true→∀(i:Nat) (pins:List (Addr×Obj)) (s:zbk7) (σ:St) (H:Hp) (E:Value→zbk7→Prop),Inv X pins σ H s→(∀b∈fp,FpOk X pins H b)→tn i s.heap→J.stop i H →
  wpAny (model P w) X.A (pyNext (.ref it)) (fun r s1=>r=none∧Inv X pins σ H s1) E s
 self:∀(A:Around) (i:Nat) (s:zbk7) (Q:Value→zbk7→Prop) (E:Value→zbk7→Prop),tn i s.heap→Q (.ref it) s→wpAny (model P w) A (pyIter (.ref it)) Q E s
abbrev TI:=St→Hp→(It→Hp→Prop)→Prop
noncomputable def PIE (X:Cx) (pins:List (Addr×Obj)) (σ:St) (tg:Expr) (R:It→Hp→Prop) (itv:Value) (s2:zbk7):Prop :=
 ∃(it:Addr) (fp:List Addr) (tn:Nat→Heap→Prop) (J:It) (H':Hp),itv=.ref it∧Inv X pins σ H' s2∧Turn X.prog X.w X.K tg J fp it tn∧tn 0 s2.heap∧(∀b∈fp,FpOk X pins H' b)∧R J H'
noncomputable def PI (X:Cx) (tg iter:Expr) (wi:TI):Prop :=
 ∀(pins:List (Addr×Obj)) (s:zbk7) (σ:St) (H:Hp) (R:It→Hp→Prop),Inv X pins σ H s→wi σ H R →
  wpAny (model X.prog X.w) X.A (eval iter X.env) (fun v s1=>wpAny (model X.prog X.w) X.A (pyIter v) (PIE X pins σ tg R) X.xe s1) X.xe s
theorem go_of {M:Model}{A:Around}{E:Value→zbk7→Prop}{s:zbk7}{tg:Expr}{it:Addr}{u:Value}{o:Obj}{n:String}{vs:Array Value}{Q:Unit→zbk7→Prop} (ho:s.heap.get? it=some o) (hc:o.cls=.type n) (hd:o.data=.fields vs)
  (hn:["enumerate", "zip", "dict_itemiterator", "dict_reverseitemiterator", "odict_iterator", "itertools.zip_longest", "itertools.pairwise"].contains n=false) (hQ:Q () s):wpAny M A (letOwnedTupleGo tg (.ref it) u) Q E s:=by
 unfold letOwnedTupleGo
 cases tg<;>first
  |exact zbm0 hQ
  |(cases u<;>first
    |exact zbm0 hQ
    |(refine zbk2 (wpAny_load ho ?_)
      rw [hc,hd]
      show wpAny M A (if (["enumerate", "zip", "dict_itemiterator", "dict_reverseitemiterator", "odict_iterator", "itertools.zip_longest", "itertools.pairwise"].contains n&&vs[0]? == some (rawInt _))=true then _ else _) Q E s
      rw [if_neg (by intro h;rw [hn,zbs6]at h;cases h)]
      exact zbm0 hQ))
noncomputable def Itl (K:zbj0) (a:Addr):It :=
 ⟨fun i H => ∃xs x,SqL K H a xs∧xs[i]?=some x,fun i H x H'=>H'=H∧∀xs,SqL K H a xs→xs[i]?=some x,fun i H => ∃xs,SqL K H a xs∧xs.length≤i⟩
def Itr (lo:Int) (n:Nat):It:=⟨fun i _=>i<n,fun i H x H'=>H'=H∧x=.int (lo+i),fun i _=>n≤i⟩
theorem zax2 {P:Program}{w:World}{K:zbj0}{tg:Expr} (a it:Addr):Turn P w K tg (Itl K a) [it] it (fun i h=>h.IsListIter it a i) where
 mem:=by simp
 obj:=fun i h st b hb=>by
  have e:b=it:=by simpa using hb
  subst e
  obtain⟨o,e,c,d⟩:=st
  exact⟨o,e,fun v z=>by rw [d]at z;cases z⟩
 keep:=fun i h h' st k=>st.at fun o e=>k it (by simp) o e
 item:=by
  intro X hP hw hK hc i pins s σ H E I hf st hg
  subst hP hw hK
  obtain⟨xs,x,hq,hx⟩:=hg
  obtain⟨its,rv,p,hz⟩:=I.list hq
  obtain⟨u,hu,ru⟩:=rv.get hx
  obtain⟨f0,f1,f2,f3,f4,f5⟩:=hf it (by simp)
  refine wpAny_pyNext_list_item st p.isList (x:=u) (by simpa using hu) fun h' st' sb=>?_
  have I1:Inv X pins σ H { s with heap:=h' }:=I.turned (t':=s.toks) (fun b o hb e=>(sb.2 b hb).trans e) f0 f1 f3 f4 f5
  obtain⟨o,e,c,d⟩:=id st'
  exact⟨u,rfl,go_of (s:={ s with heap:=h' }) e c d (by decide) ⟨x,H,I1,ru,⟨rfl,fun ys hy=>by rw [I.list_inj hy hq];exact hx⟩,st',fun b hb=>(hf b hb).1⟩⟩
 done:=by
  intro X hP hw hK hc i pins s σ H E I hf st hg
  subst hP hw hK
  obtain⟨xs,hq,hx⟩:=hg
  obtain⟨its,rv,p,hz⟩:=I.list hq
  obtain⟨f0,f1,f2,f3,f4,f5⟩:=hf it (by simp)
  have hl:=rv.length
  exact wpAny_pyNext_list_end (I.ok.hd hc) st p.isList (by simp;lia) fun h' eb=>⟨rfl,I.turned (t':=s.toks) (fun b o hb e=>eb b o hb e) f0 f1 f3 f4 f5⟩
 self:=fun _ _ _ _ _ st h=>wpAny_pyIter_listiter st h
theorem zat7 {P:Program}{w:World}{K:zbj0}{tg:Expr} (it:Addr) (lo:Int) (n:Nat):Turn P w K tg (Itr lo n) [it] it (fun i h=>IsRangeIter h it (lo+(i:Nat)*1) ((n:Int) - (i:Nat)) 1) where
 mem:=by simp
 obj:=fun i h st b hb=>by
  have e:b=it:=by simpa using hb
  subst e
  exact⟨_,st,fun v z=>by
   have z':Data.fields _=Data.cell v:=z
   cases z'⟩
 keep:=fun i h h' st k=>k it (by simp) _ st
 item:=by
  intro X hP hw hK hc i pins s σ H E I hf st hg
  subst hP hw hK
  obtain⟨f0,f1,f2,f3,f4,f5⟩:=hf it (by simp)
  have W:=Walks.range (prog:=X.prog) (w:=X.w) (I.ok.hd hc) it lo 1 n
  refine W.item i s _ _ hg st fun v h' tk hv st' kk=>?_
  obtain⟨t,rfl⟩:=hv
  have I1:Inv X pins σ H { s with heap:=h',toks:=tk }:=I.turned (fun b o hb e=>kk b o (by simpa using hb) e) f0 f1 f3 f4 f5
  refine⟨_,rfl,go_of (s:={ s with heap:=h',toks:=tk }) (n := "range_iterator") st' rfl rfl (by decide) ⟨.int (lo+i),H,I1,⟨t,?_⟩,⟨rfl,rfl⟩,st',fun b hb=>(hf b hb).1⟩⟩
  rw [Int.mul_one]
 done:=by
  intro X hP hw hK hc i pins s σ H E I hf st hg
  subst hP hw hK
  obtain⟨f0,f1,f2,f3,f4,f5⟩:=hf it (by simp)
  exact wpAny_pyNext_range_end (I.ok.hd hc) st (by have:n≤i:=hg;lia) fun h' eb=>⟨rfl,I.turned (t':=s.toks) (fun b o hb e=>eb b o hb e) f0 f1 f3 f4 f5⟩
 self:=fun _ _ _ _ _ st h=>wpAny_pyIter_rangeiter st h
end L2
namespace L2
open PySem.Spec
section
variable {X:Cx}{tg:Expr}
def iList (K:zbj0) (tl:TE):TI:=fun σ H R=>tl σ H fun x H1 => ∃a,x=.ref a∧(∃xs,SqL K H1 a xs)∧R (Itl K a) H1
theorem zae2 {l:Expr}{tl:TE} (hl:PE X l tl):PI X tg l (iList X.K tl):=by
 intro pins s σ H R I h
 refine thn (hl pins s σ H _ I h) fun v s1 ⟨x,H1,I1,r1,q1⟩=>?_
 obtain⟨a,e,⟨xs,hq⟩,q⟩:=q1
 subst e
 cases r1
 obtain⟨its,rv,p,hz⟩:=I1.list hq
 refine wpAny_pyIter_list p.isList ?_
 refine⟨s1.heap.objs.size,[s1.heap.objs.size],_,_,H1,rfl,I1.kept (t':=s1.toks) fun b o e=>zbk0 _ e,zax2 a _,⟨_,zbm7 _ rfl,rfl,rfl⟩,fun b hb=>?_,q⟩
 have e:b=s1.heap.objs.size:=by simpa using hb
 subst e
 exact I1.fpOk (zbl1 _) (I1.hok.fresh (zbl1 _))
theorem zar2 {pins:List (Addr×Obj)}{σ:St}{H:Hp}{s:zbk7}{R:It→Hp→Prop}{E:Value→zbk7→Prop}{lo hi:Int}{t u v:Tok}{tk:Nat} (I:Inv X pins σ H s) (h1 : -(2 ^ 62)≤lo) (h2:lo<2 ^ 62) (h3 : -(2 ^ 62)≤hi) (h4:hi<2 ^ 62)
  (q:R (Itr lo (hi - lo).toNat) H):wpAny (model X.prog X.w) X.A (pyIter (.ref s.heap.objs.size)) (PIE X pins σ tg R) E { s with heap:=s.heap.push { cls:=.type "range",data:=.fields #[.int lo t,.int hi u,.int 1 v] },toks:=tk }:=by
 refine wpAny_pyIter_range (IsRange.new ..) (small_one h1 h2 h3 h4) ?_
 have I1:Inv X pins σ H { s with heap:=s.heap.push { cls:=.type "range",data:=.fields #[.int lo t,.int hi u,.int 1 v] },toks:=tk }:=I.kept fun b o e=>zbk0 _ e
 refine⟨(s.heap.push { cls:=.type "range",data:=.fields #[.int lo t,.int hi u,.int 1 v] }).objs.size,[(s.heap.push { cls:=.type "range",data:=.fields #[.int lo t,.int hi u,.int 1 v] }).objs.size],_,_,H,rfl,
  I1.kept (t':=tk) fun b o e=>zbk0 _ e,zat7 _ lo (hi - lo).toNat,?_,fun b hb=>?_,q⟩
 ·have e1:lo+((0:Nat):Int)*1=lo:=by simp
  have e2:(((hi - lo).toNat:Nat):Int) - ((0:Nat):Int)=Builtin.Range.rangeSize lo hi 1:=by rw [rangeSize_one];split<;>lia
  show IsRangeIter _ _ (lo+((0:Nat):Int)*1) ((((hi - lo).toNat:Nat):Int) - ((0:Nat):Int)) 1
  rw [e1,e2]
  exact zbm7 _ rfl
 ·have e:b=(s.heap.push { cls:=.type "range",data:=.fields #[.int lo t,.int hi u,.int 1 v] }).objs.size:=by simpa using hb
  subst e
  exact I1.fpOk (zbl1 _) (I1.hok.fresh (zbl1 _))
def iRng1 (ta:TA):TI:=fun σ H R=>ta σ H fun vs H1 => ∃j:Int,vs=[.int j] ∧ -(2 ^ 62)≤j∧j<2 ^ 62∧R (Itr 0 j.toNat) H1
noncomputable def iRng2 (ta:TA):TI:=fun σ H R=>ta σ H fun vs H1 => ∃i j:Int,vs=[.int i,.int j]∧(-(2 ^ 62)≤i∧i<2 ^ 62 ∧ -(2 ^ 62)≤j∧j<2 ^ 62)∧R (Itr i (j - i).toNat) H1
theorem zah6 {a:Expr}{ta:TA}{p pos:Pos} (hg:Gl X "range") (hm:X.mg "range"=none) (ha:PA X [a] ta) (hs:zbl2 [a] X.env=[(false,eval a X.env)]:=by rfl):PI X tg (.Call (.Name "range" p) [a] [] pos) (iRng1 ta):=by
 intro pins s σ H R I h
 refine Call_ (zp1 I hg hm boot_range (PyProof.Rows.callWith_type1 (thn (ha pos pins s σ H _ I h) fun us s1 ⟨vs,H1,I1,r1,q1⟩=>?_) hs rfl))
 obtain⟨j,e,q1,q2,q⟩:=q1
 subst e
 cases r1 with
 |cons r rr =>
  cases rr
  obtain⟨t,rfl⟩:=r
  exact call_range_1 (zar2 I1 (by lia) (by lia) q1 q2 (by simpa using q))
theorem zah5 {a b:Expr}{ta:TA}{p pos:Pos} (hg:Gl X "range") (hm:X.mg "range"=none) (ha:PA X [a,b] ta) (hs:zbl2 [a,b] X.env=[(false,eval a X.env),(false,eval b X.env)]:=by rfl) (hs2:zbl2 [b] X.env=[(false,eval b X.env)]:=by rfl) :
  PI X tg (.Call (.Name "range" p) [a,b] [] pos) (iRng2 ta):=by
 intro pins s σ H R I h
 refine Call_ (zp1 I hg hm boot_range (PyProof.Rows.callWith_type1 (thn (ha pos pins s σ H _ I h) fun us s1 ⟨vs,H1,I1,r1,q1⟩=>?_) (by rw [hs,hs2]) (by rw [hs2];rfl)))
 obtain⟨i,j,e,⟨q1,q2,q3,q4⟩,q⟩:=q1
 subst e
 cases r1 with
 |cons r rr =>
  cases rr with
  |cons r' rr =>
   cases rr
   obtain⟨t,rfl⟩:=r
   obtain⟨t',rfl⟩:=r'
   exact call_range_2 (zar2 I1 q1 q2 q3 q4 q)
noncomputable def tFor (wi:TI) (g:TG) (tb:TS):TS:=fun D σ H=>wi σ H fun J H1 => ∃W:Nat→Nat→St→Hp→Prop,(∃m,W 0 m σ H1)∧∀i m σ H,W i m σ H →
 (J.stop i H∧D.nx σ H)∨(J.go i H∧∃N:St→Hp→Prop,(∀σ' H',N σ' H'→∃m',m' < m∧W (i+1) m' σ' H')∧∀x H',J.yld i H x H'→g x σ H' fun σ2 H2=>tb { D with nx:=N,ct:=N,bk:=D.nx } σ2 H2)
def zp5 (fp:List Addr) (h:Heap):List (Addr×Obj):=fp.filterMap fun b=>(h.get? b).map fun o=>(b,o)
theorem zf2 {fp:List Addr}{h:Heap}{b:Addr}{o:Obj} (hb:b∈fp) (e:h.get? b=some o):(b,o)∈zp5 fp h:=zbw3.mpr ⟨b,hb,by rw [e];rfl⟩
theorem zba5 {fp:List Addr}{h:Heap}{p:Addr×Obj} (hp:p∈zp5 fp h):p.1∈fp∧h.get? p.1=some p.2:=by
 obtain⟨b,hb,e⟩:=zbw3.mp hp
 cases q:h.get? b with
 |none=>rw [q]at e;cases e
 |some o =>
  rw [q]at e
  have e':(b,o)=p:=Option.some.inj e
  subst e'
  exact⟨hb,q⟩
theorem Inv.pinned {pins:List (Addr×Obj)}{σ:St}{H:Hp}{s:zbk7}{fp:List Addr} (I:Inv X pins σ H s) (hf:∀b∈fp,FpOk X pins H b) (ho:∀b∈fp,∃o,s.heap.get? b=some o∧∀v,o.data≠.cell v):Inv X (pins++zp5 fp s.heap) σ H s :=
 I.pins_of fun p hp=>(zbj4.mp hp).elim (fun z=>I.pin p (zbi9 _ z)) fun z=>by
  obtain⟨hb,e⟩:=zba5 z
  obtain⟨f0,f1,f2,_⟩:=hf p.1 hb
  obtain⟨o,e',d⟩:=ho p.1 hb
  rw [e]at e';cases e'
  exact⟨e,f0,f1,f2,d⟩
theorem Inv.unpinned {pins pl:List (Addr×Obj)}{σ:St}{H:Hp}{s:zbk7} (I:Inv X (pins++pl) σ H s):Inv X pins σ H s:=I.pins_of fun p hp=>I.pin p (zbi9 _ (zbj1 _ hp))
theorem zah4 {iter:Expr}{body:List Stmt}{wi:TI}{g:TG}{tb:TS}{pos:Pos} (hp:PassesOwn (model X.prog X.w) X.A X.env X.xe) (hc:X.calm=true) (hi:PI X tg iter wi) (hg:PG X tg g) (hb:PSs X body tb)
  (hs:∀x,foldedSetIterable iter X.env x=pure x:=by intro _;rfl):PS X (.For tg iter body [] pos) (tFor wi g tb):=by
 intro pins s σ H D I h
 refine wpAny_For (thn (hi pins s σ H _ I h) fun v s1 h1=>thn h1 fun itv s2 h2=>?_) hs
 obtain⟨it,fp,tn,J,H2,e,I2,T,st2,f2,W,⟨m0,w0⟩,turn⟩:=h2
 subst e
 -- what stays true of the iterator's objects through the loop
 have stat:∀ {H':Hp},(∀b∈fp,H' b=none)→∀b∈fp,FpOk X pins H' b:=fun hn b hb=>⟨hn b hb,(f2 b hb).2⟩
 refine codeAny_forLoop_any (fun n s' => ∃i σ' H',Inv X pins σ' H' s'∧tn i s'.heap∧(∀b∈fp,H' b=none)∧W i n σ' H') ?_ m0 ⟨0,σ,H2,I2,st2,fun b hb=>(f2 b hb).1,w0⟩
 rintro n s3 ⟨i,σ3,H3,I3,st3,fr3,w3⟩
 rcases turn i n σ3 H3 w3 with ⟨stop,qn⟩ | ⟨go,N,hN,step⟩
 ·refine wpAny_passesOwn hp (thn (T.done X rfl rfl rfl hc i pins s3 σ3 H3 X.xe I3 (stat fr3) st3 stop) fun r s4 ⟨hr,I4⟩=>?_)
  subst hr
  exact wpAny_execs_nil ⟨σ3,H3,I4,qn⟩
 ·refine wpAny_passesOwn hp (thn (T.item X rfl rfl rfl hc i pins s3 σ3 H3 X.xe I3 (stat fr3) st3 go) fun r s4 ⟨u,hr,h4⟩=>?_)
  subst hr
  refine wpAny_passesOwn hp (thn h4 fun _ s5 ⟨x,H5,I5,r5,y5,st5,fr5⟩=>?_)
  have I5':=I5.pinned (stat fr5) (T.obj _ _ st5)
  refine wpAny_passesOwn hp (thn (hg _ s5 σ3 H5 x u _ I5' r5 (step x H5 y5)) fun _ s6 ⟨σ6,H6,I6,q6⟩=>?_)
  refine wpAny_passesOwn hp (thn (hb _ s6 σ6 H6 _ I6 q6) fun f s7 q7=>?_)
  have again:∀ {σ7:St}{H7:Hp},Inv X (pins++zp5 fp s5.heap) σ7 H7 s7→N σ7 H7→∃m,m<n∧∃i σ' H',Inv X pins σ' H' s7∧tn i s7.heap∧(∀b∈fp,H' b=none)∧W i m σ' H':=fun {σ7 H7} I7 n7=>by
   obtain⟨m',hm,w7⟩:=hN σ7 H7 n7
   refine⟨m',hm,i+1,σ7,H7,I7.unpinned,T.keep _ _ _ st5 fun b hb o e=>(I7.pin (b,o) (zbi9 _ (zbi9 _ (zf2 hb e)))).1,fun b hb=>?_,w7⟩
   obtain⟨o,e,d⟩:=T.obj _ _ st5 b hb
   exact (I7.pin (b,o) (zbi9 _ (zbi9 _ (zf2 hb e)))).2.1
  cases f with
  |next=>obtain⟨σ7,H7,I7,n7⟩:=q7;exact again I7 n7
  |cont=>obtain⟨σ7,H7,I7,n7⟩:=q7;exact again I7 n7
  |brk=>obtain⟨σ7,H7,I7,q7⟩:=q7;exact⟨σ7,H7,I7.unpinned,q7⟩
  |ret v=>obtain⟨x7,σ7,H7,I7,r7,q7⟩:=q7;exact⟨x7,σ7,H7,I7.unpinned,r7,q7⟩
end
end L2
namespace L2
open PySem.Spec
abbrev R2:=V→V→Hp→VK→Prop
noncomputable def OpR (X:Cx) (f:Value→Value→Sem Value) (r:R2):Prop :=
 ∀(pins:List (Addr×Obj)) (s:zbk7) (σ:St) (H:Hp) (x y:V) (v u:Value) (Q:VK),Inv X pins σ H s→RelV x v→RelV y u→r x y H Q →
  wpAny (model X.prog X.w) X.A (f v u) (EP X pins σ Q) X.xe s
noncomputable def UnR (X:Cx) (f:Value→Sem Value) (r:V→Hp→VK→Prop):Prop :=
 ∀(pins:List (Addr×Obj)) (s:zbk7) (σ:St) (H:Hp) (x:V) (v:Value) (Q:VK),Inv X pins σ H s→RelV x v→r x H Q →
  wpAny (model X.prog X.w) X.A (f v) (EP X pins σ Q) X.xe s
noncomputable def zm7 (X:Cx) (f:Value) (r:List V→Hp→VK→Prop):Prop :=
 ∀(pins:List (Addr×Obj)) (s:zbk7) (σ:St) (H:Hp) (xs:List V) (us:List Value) (Q:VK),Inv X pins σ H s→Vals xs us→r xs H Q →
  wpAny (model X.prog X.w) X.A (call f us) (EP X pins σ Q) X.xe s
noncomputable def TruR (X:Cx) (r:V→Hp→(Bool→Hp→Prop)→Prop):Prop :=
 ∀(pins:List (Addr×Obj)) (s:zbk7) (σ:St) (H:Hp) (x:V) (v:Value) (Q:Bool→Hp→Prop),Inv X pins σ H s→RelV x v→r x H Q →
  wpAny (model X.prog X.w) X.A (truthy v) (TP X pins σ Q) X.xe s
def tOp (r:R2) (ta tb:TE):TE:=fun σ H Q=>ta σ H fun x H1=>tb σ H1 fun y H2=>r x y H2 Q
def tUn (r:V→Hp→VK→Prop) (ta:TE):TE:=fun σ H Q=>ta σ H fun x H1=>r x H1 Q
def rI (C:Int→Int→Prop) (g:Int→Int→V):R2:=fun x y H Q => ∃i j,x=.int i∧y=.int j∧C i j∧Q (g i j) H
def rI0 (g:Int→Int→V):R2:=fun x y H Q => ∃i j,x=.int i∧y=.int j∧Q (g i j) H
def rU (g:Int→V):V→Hp→VK→Prop:=fun x H Q => ∃i,x=.int i∧Q (g i) H
section
variable {X:Cx}{a b c:Expr}{ta tb tc:TE}{pos:Pos}
theorem binT (ha:PE X a ta) (hb:PE X b tb) {pins:List (Addr×Obj)}{s:zbk7}{σ:St}{H:Hp}{R:V→V→Hp→Prop} (I:Inv X pins σ H s)
  (h:ta σ H fun x H1=>tb σ H1 fun y H2=>R x y H2) {Q:Value→zbk7→Prop}{f:Value→Value→Sem Value}
  (hf:∀v u s2 x y H2,Inv X pins σ H2 s2→RelV x v→RelV y u→R x y H2→wpAny (model X.prog X.w) X.A (f v u) Q X.xe s2) :
  wpAny (model X.prog X.w) X.A (eval a X.env) (fun v s₁=>wpAny (model X.prog X.w) X.A (eval b X.env) (fun u s₂=>wpAny (model X.prog X.w) X.A (f v u) Q X.xe s₂) X.xe s₁) X.xe s:=by
 refine thn (ha pins s σ H _ I h) fun v s1 ⟨x,H1,I1,r1,q1⟩=>?_
 refine thn (hb pins s1 σ H1 _ I1 q1) fun u s2 ⟨y,H2,I2,r2,q2⟩=>?_
 exact hf v u s2 x y H2 I2 r1 r2 q2
theorem pe_un {op:UnaryOp}{r:V→Hp→VK→Prop} (ho:UnR X (unaryOp op) r) (ha:PE X a ta):PE X (.UnaryOp op a pos) (tUn r ta):=by
 intro pins s σ H Q I h
 exact UnaryOp_ (thn (ha pins s σ H _ I h) fun v s1 ⟨x,H1,I1,r1,q1⟩=>ho pins s1 σ H1 x v Q I1 r1 q1)
theorem opI {f:Value→Value→Sem Value}{C:Int→Int→Prop}{g:Int→Int→Int}
  (rule:∀(i j:Int) (t u:Tok) (s:zbk7) (Q:Value→zbk7→Prop) (E:Value→zbk7→Prop),C i j→Q (.int (g i j) s.toks) { s with toks:=s.toks+1 }→wpAny (model X.prog X.w) X.A (f (.int i t) (.int j u)) Q E s) :
  OpR X f (rI C fun i j=>.int (g i j)):=by
 intro pins s σ H x y v u Q I rx ry h
 obtain⟨i,j,rfl,rfl,hc,q⟩:=h
 obtain⟨t,rfl⟩:=rx
 obtain⟨t',rfl⟩:=ry
 exact rule i j t t' s _ _ hc ⟨.int (g i j),H,I.tok _,⟨_,rfl⟩,q⟩
theorem opI0 {f:Value→Value→Sem Value}{g:Int→Int→Int}
  (rule:∀(i j:Int) (t u:Tok) (s:zbk7) (Q:Value→zbk7→Prop) (E:Value→zbk7→Prop),Q (.int (g i j) s.toks) { s with toks:=s.toks+1 }→wpAny (model X.prog X.w) X.A (f (.int i t) (.int j u)) Q E s) :
  OpR X f (rI0 fun i j=>.int (g i j)):=by
 intro pins s σ H x y v u Q I rx ry h
 obtain⟨i,j,rfl,rfl,q⟩:=h
 obtain⟨t,rfl⟩:=rx
 obtain⟨t',rfl⟩:=ry
 exact rule i j t t' s _ _ ⟨.int (g i j),H,I.tok _,⟨_,rfl⟩,q⟩
theorem opB0 {f:Value→Value→Sem Value}{g:Int→Int→Bool}
  (rule:∀(i j:Int) (t u:Tok) (s:zbk7) (Q:Value→zbk7→Prop) (E:Value→zbk7→Prop),Q (.bool (g i j)) s→wpAny (model X.prog X.w) X.A (f (.int i t) (.int j u)) Q E s) :
  OpR X f (rI0 fun i j=>.bl (g i j)):=by
 intro pins s σ H x y v u Q I rx ry h
 obtain⟨i,j,rfl,rfl,q⟩:=h
 obtain⟨t,rfl⟩:=rx
 obtain⟨t',rfl⟩:=ry
 exact rule i j t t' s _ _ ⟨.bl (g i j),H,I,rfl,q⟩
def CPow (i j:Int):Prop:=0≤j∧j≤1000000∧i.natAbs<2 ^ 64
theorem zat6 (k:Nat):(0:Int)≤2 ^ k:=by
 rw [two_pow_cast]
 exact Int.natCast_nonneg _
theorem op_add:OpR X (binaryOp .Add) (rI0 fun i j=>.int (i+j)):=opI0 fun _ _ _ _ _ _ _ q=>add_int q
theorem op_sub:OpR X (binaryOp .Sub) (rI0 fun i j=>.int (i - j)):=opI0 fun _ _ _ _ _ _ _ q=>sub_int q
theorem op_modN:OpR X (binaryOp .Mod) (rI (fun _ j=>j≠0) fun i j=>.int (i.fmod j)):=opI fun _ _ _ _ _ _ _ hc q=>mod_int' hc q
theorem op_pow:OpR X (binaryOp .Pow) (rI CPow fun i j=>.int (i ^ j.toNat)):=opI fun _ _ _ _ _ _ _ hc q=>pow_int_small hc.1 hc.2.1 hc.2.2 q
theorem op_shr:OpR X (binaryOp .RShift) (rI (fun _ j=>0≤j) fun i j=>.int (i / 2 ^ j.toNat)):=opI fun i j _ _ _ _ _ hc q =>
 rshift_int hc (by rw [zbs9 i (zat6 _)];exact q)
theorem op_and:OpR X (binaryOp .BitAnd) (rI0 fun i j=>.int (Builtin.bitAnd i j)):=opI0 fun _ _ _ _ _ _ _ q=>and_int q
theorem unI {f:Value→Sem Value}{g:Int→Int}
  (rule:∀(i:Int) (t:Tok) (s:zbk7) (Q:Value→zbk7→Prop) (E:Value→zbk7→Prop),Q (.int (g i) s.toks) { s with toks:=s.toks+1 }→wpAny (model X.prog X.w) X.A (f (.int i t)) Q E s) :
  UnR X f (rU fun i=>.int (g i)):=by
 intro pins s σ H x v Q I rx h
 obtain⟨i,rfl,q⟩:=h
 obtain⟨t,rfl⟩:=rx
 exact rule i t s _ _ ⟨.int (g i),H,I.tok _,⟨_,rfl⟩,q⟩
theorem un_neg:UnR X (unaryOp .USub) (rU fun i=>.int (-i)):=unI fun _ _ _ _ _ q=>neg_int q
end
noncomputable def scal:V→V→Bool
 |.non,.non=>true | .non,.int _=>true | .int _,.non=>true | .non,.bl _=>true | .bl _,.non=>true | .non,.str _=>true | .str _,.non=>true
 |.int _,.int _=>true | .bl _,.bl _=>true | .str _,.str _=>true | .byt _,.byt _=>true
 |.int _,.str _=>true | .str _,.int _=>true | .bl _,.str _=>true | .str _,.bl _=>true
 |_,_=>false
def rEq:R2:=fun x y H Q=>scal x y=true∧Q (.bl (decide (x=y))) H
def rNe:R2:=fun x y H Q=>scal x y=true∧Q (.bl (!decide (x=y))) H
theorem zbf0 {i j:Int}:decide (V.int i=V.int j)=(i == j):=by
 rw [zbp7]
 simp
theorem dec_bl {i j:Bool}:decide (V.bl i=V.bl j)=(i == j):=by
 rw [zbp7]
 simp
theorem zbe9 {i j:Str}:decide (V.str i=V.str j)=(i == j):=by
 rw [zbp7]
 simp
theorem zbf1 {i j:Array UInt8}:decide (V.byt i=V.byt j)=(i.toList == j.toList):=by
 rw [zbp7]
 cases i
 cases j
 simp
section
variable {X:Cx}{a b c:Expr}{ta tb tc:TE}{pos:Pos}
theorem zf1 {pins:List (Addr×Obj)}{σ:St}{H:Hp}{s:zbk7}{Q:VK}{k k':Bool} (I:Inv X pins σ H s) (q:Q (.bl k) H) (e:k=k'):EP X pins σ Q (.bool k') s:=by
 subst e
 exact⟨.bl k,H,I,rfl,q⟩
theorem op_eq:OpR X (compareOp .Eq) rEq:=by
 intro pins s σ H x y v u Q I rx ry h
 obtain⟨hs,q⟩:=h
 cases x with
 |non =>
  cases rx
  cases y with
  |non=>cases ry;exact PySem.EqNone.eq_none_none (zf1 I q (by simp))
  |bl j=>cases ry;exact PySem.EqNone.eq_none_bool (zf1 I q (by simp))
  |int j=>obtain⟨t',rfl⟩:=ry;exact PySem.EqNone.eq_none_int (zf1 I q (by simp))
  |str j=>obtain⟨t',rfl⟩:=ry;exact PySem.EqNone.eq_none_str (zf1 I q (by simp))
  |_=>exact absurd (show false=true from hs) zbl3
 |bl i =>
  cases rx
  cases y with
  |non=>cases ry;exact PySem.EqNone.eq_bool_none (zf1 I q (by simp))
  |bl j=>cases ry;exact eq_bool (zf1 I q dec_bl)
  |str j=>obtain⟨t',rfl⟩:=ry;exact PySem.EqMixed.eq_bool_str (zf1 I q (by simp))
  |_=>exact absurd (show false=true from hs) zbl3
 |int i =>
  obtain⟨t,rfl⟩:=rx
  cases y with
  |non=>cases ry;exact PySem.EqNone.eq_int_none (zf1 I q (by simp))
  |int j=>obtain⟨t',rfl⟩:=ry;exact eq_int (zf1 I q zbf0)
  |str j=>obtain⟨t',rfl⟩:=ry;exact PySem.EqMixed.eq_int_str (zf1 I q (by simp))
  |_=>exact absurd (show false=true from hs) zbl3
 |str i =>
  obtain⟨t,rfl⟩:=rx
  cases y with
  |non=>cases ry;exact PySem.EqNone.eq_str_none (zf1 I q (by simp))
  |bl j=>cases ry;exact PySem.EqMixed.eq_str_bool (zf1 I q (by simp))
  |int j=>obtain⟨t',rfl⟩:=ry;exact PySem.EqMixed.eq_str_int (zf1 I q (by simp))
  |str j=>obtain⟨t',rfl⟩:=ry;exact eq_str (zf1 I q zbe9)
  |_=>exact absurd (show false=true from hs) zbl3
 |byt i =>
  obtain⟨t,rfl⟩:=rx
  cases y with
  |byt j=>obtain⟨t',rfl⟩:=ry;exact PySem.W.eq_bytes (zf1 I q zbf1)
  |_=>exact absurd (show false=true from hs) zbl3
 |_=>cases y<;>exact absurd (show false=true from hs) zbl3
theorem op_ne:OpR X (compareOp .NotEq) rNe:=by
 intro pins s σ H x y v u Q I rx ry h
 obtain⟨hs,q⟩:=h
 cases x with
 |non =>
  cases rx
  cases y with
  |non=>cases ry;exact PySem.EqNone.ne_none_none (zf1 I q (by simp))
  |bl j=>cases ry;exact PySem.EqNone.ne_none_bool (zf1 I q (by simp))
  |int j=>obtain⟨t',rfl⟩:=ry;exact PySem.EqNone.ne_none_int (zf1 I q (by simp))
  |str j=>obtain⟨t',rfl⟩:=ry;exact PySem.EqNone.ne_none_str (zf1 I q (by simp))
  |_=>exact absurd (show false=true from hs) zbl3
 |bl i =>
  cases rx
  cases y with
  |non=>cases ry;exact PySem.EqNone.ne_bool_none (zf1 I q (by simp))
  |bl j=>cases ry;exact ne_bool (zf1 I q (congrArg not dec_bl))
  |str j=>obtain⟨t',rfl⟩:=ry;exact PySem.EqMixed.ne_bool_str (zf1 I q (by simp))
  |_=>exact absurd (show false=true from hs) zbl3
 |int i =>
  obtain⟨t,rfl⟩:=rx
  cases y with
  |non=>cases ry;exact PySem.EqNone.ne_int_none (zf1 I q (by simp))
  |int j=>obtain⟨t',rfl⟩:=ry;exact ne_int (zf1 I q (congrArg not zbf0))
  |str j=>obtain⟨t',rfl⟩:=ry;exact PySem.EqMixed.ne_int_str (zf1 I q (by simp))
  |_=>exact absurd (show false=true from hs) zbl3
 |str i =>
  obtain⟨t,rfl⟩:=rx
  cases y with
  |non=>cases ry;exact PySem.EqNone.ne_str_none (zf1 I q (by simp))
  |bl j=>cases ry;exact PySem.EqMixed.ne_str_bool (zf1 I q (by simp))
  |int j=>obtain⟨t',rfl⟩:=ry;exact PySem.EqMixed.ne_str_int (zf1 I q (by simp))
  |str j=>obtain⟨t',rfl⟩:=ry;exact ne_str (zf1 I q (congrArg not zbe9))
  |_=>exact absurd (show false=true from hs) zbl3
 |byt i =>
  obtain⟨t,rfl⟩:=rx
  cases y with
  |byt j=>obtain⟨t',rfl⟩:=ry;exact PySem.W.ne_bytes (zf1 I q (congrArg not zbf1))
  |_=>exact absurd (show false=true from hs) zbl3
 |_=>cases y<;>exact absurd (show false=true from hs) zbl3
theorem op_lt:OpR X (compareOp .Lt) (rI0 fun i j=>.bl (decide (i<j))):=opB0 fun _ _ _ _ _ _ _ q=>lt_int q
theorem op_le:OpR X (compareOp .LtE) (rI0 fun i j=>.bl (decide (i≤j))):=opB0 fun _ _ _ _ _ _ _ q=>le_int q
theorem op_gt:OpR X (compareOp .Gt) (rI0 fun i j=>.bl (decide (j<i))):=opB0 fun _ _ _ _ _ _ _ q=>gt_int q
theorem nomark (b:Expr) {op:CmpOp} (h:op≠.In:=by decide) (h2:op≠.NotIn:=by decide):behindInMarks op b=false:=by
 have e1:(op == CmpOp.In)=false:=by cases op<;>first | rfl | exact absurd rfl h
 have e2:(op == CmpOp.NotIn)=false:=by cases op<;>first | rfl | exact absurd rfl h2
 cases b<;>simp [behindInMarks,e1,e2]
def tTest (t:TE):TT:=fun σ H Q=>t σ H fun x H' => ∃k,x=.bl k∧Q k H'
noncomputable def tChain (r r':R2) (ta tb tc:TE):TE:=fun σ H Q=>ta σ H fun x H1=>tb σ H1 fun y H2=>r x y H2 fun z H3 => ∃k,z=.bl k ∧
 (if k=true then tc σ H3 fun w' H4=>r' y w' H4 Q else Q (.bl false) H3)
theorem pe_chain {op op':CmpOp}{r r':R2} (ho:OpR X (compareOp op) r) (ho':OpR X (compareOp op') r') (ha:PE X a ta) (hb:PE X b tb) (hc:PE X c tc)
  (hm:lastMarks [op,op'] [b,c]=false:=by with_unfolding_all rfl):PE X (.Compare a [op,op'] [b,c] pos) (tChain r r' ta tb tc):=by
 intro pins s σ H Q I h
 refine Compare_chain (thn (ha pins s σ H _ I h) fun v s1 ⟨x,H1,I1,r1,q1⟩=>chain_link (thn (hb pins s1 σ H1 _ I1 q1) fun u s2 ⟨y,H2,I2,r2,q2⟩ =>
  thn (ho pins s2 σ H2 x y v u _ I2 r1 r2 q2) fun d s3 ⟨z,H3,I3,r3,k,e,q3⟩=>?_)) hm
 subst e
 cases r3
 refine wpAny_truthy_bool ?_
 cases k with
 |false=>exact ite_ff ⟨.bl false,H3,I3,rfl,q3⟩
 |true=>exact ite_tt (chain_last (thn (hc pins s3 σ H3 _ I3 q3) fun w' s4 ⟨z',H4,I4,r4,q4⟩=>ho' pins s4 σ H4 y z' u w' Q I4 r2 r4 q4))
theorem pt_chain {op op':CmpOp}{r r':R2} (ho:OpR X (compareOp op) r) (ho':OpR X (compareOp op') r') (ha:PE X a ta) (hb:PE X b tb) (hc:PE X c tc)
  (hm:lastMarks [op,op'] [b,c]=false:=by with_unfolding_all rfl):PT X (.Compare a [op,op'] [b,c] pos) (tTest (tChain r r' ta tb tc)):=by
 intro pins s σ H Q I h
 refine isTrue_chain (thn (ha pins s σ H _ I h) fun v s1 ⟨x,H1,I1,r1,q1⟩=>test_link (thn (hb pins s1 σ H1 _ I1 q1) fun u s2 ⟨y,H2,I2,r2,q2⟩ =>
  thn (ho pins s2 σ H2 x y v u _ I2 r1 r2 q2) fun d s3 ⟨z,H3,I3,r3,k,e,q3⟩=>?_)) hm
 subst e
 cases r3
 refine wpAny_truthy_bool ?_
 cases k with
 |false =>
  obtain⟨k',e',q'⟩:=q3
  cases e'
  exact ite_ff ⟨H3,I3,q'⟩
 |true =>
  refine ite_tt (test_last (thn (hc pins s3 σ H3 _ I3 q3) fun w' s4 ⟨z',H4,I4,r4,q4⟩=>thn (ho' pins s4 σ H4 y z' u w' _ I4 r2 r4 q4) fun d' s5 ⟨z2,H5,I5,r5,k2,e2,q5⟩=>?_))
  subst e2
  cases r5
  exact wpAny_truthy_bool ⟨H5,I5,q5⟩
noncomputable def TruV (K:zbj0) (x:V) (H:Hp) (k:Bool):Prop :=
 match x with
 |.non=>k=false
 |.bl b=>k=b
 |.int i=>k=(i != 0)
 |.str y=>y.length≤sizeLine∧k=((y.length:Int) != 0)
 |.byt y=>y.size≤sizeLine∧k=((y.size:Int) != 0)
 |.ref p=>(∃xs,SqL K H p xs∧k=!xs.isEmpty)∨(∃xs,SqT K H p xs∧k=!xs.isEmpty)∨∃kvs,H p=some (.dK kvs)∧k=!kvs.isEmpty
 |_=>False
theorem zaw3 {κ:Type}{kvs:List (κ×V)}{vs:List (κ×Value)} (r:KV kvs vs):(!vs.isEmpty)=!kvs.isEmpty:=by
 cases r<;>rfl
theorem zad1 {xs:List V}{its:List Value} (r:Vals xs its):(!its.toArray.isEmpty)=!xs.isEmpty:=by
 cases r<;>simp
theorem zai5:(sizeLine:Nat)<2 ^ 63:=by rw [sizeLine_eq];decide
theorem tru_ok:TruR X (fun x H Q => ∃k,TruV X.K x H k∧Q k H):=by
 intro pins s σ H x v Q I rx h
 obtain⟨k,e,q⟩:=h
 have hl:=zai5
 have hs:sizeLine=16777216:=sizeLine_eq
 cases x with
 |non =>
  cases rx
  have e':k=false:=e
  subst e'
  exact truthy_none ⟨H,I,q⟩
 |bl b =>
  cases rx
  have e':k=b:=e
  subst e'
  exact wpAny_truthy_bool ⟨H,I,q⟩
 |int i =>
  obtain⟨t,rfl⟩:=rx
  have e':k=(i != 0):=e
  subst e'
  exact PySem.P.truthy_int ⟨H,I,q⟩
 |str y =>
  obtain⟨t,rfl⟩:=rx
  obtain⟨hy,e'⟩:y.length≤sizeLine∧k=((y.length:Int) != 0):=e
  subst e'
  exact PySem.P.truthy_str (by lia) ⟨H,I.tok _,q⟩
 |byt y =>
  obtain⟨t,rfl⟩:=rx
  obtain⟨hy,e'⟩:y.size≤sizeLine∧k=((y.size:Int) != 0):=e
  subst e'
  exact PySem.W.truthy_bytes (by lia) ⟨H,I.tok _,q⟩
 |ref p =>
  cases rx
  have e':(∃xs,SqL X.K H p xs∧k=!xs.isEmpty)∨(∃xs,SqT X.K H p xs∧k=!xs.isEmpty)∨∃kvs,H p=some (.dK kvs)∧k=!kvs.isEmpty:=e
  rcases e' with ⟨xs,hx,e'⟩ | ⟨xs,hx,e'⟩ | ⟨kvs,hx,e'⟩
  ·subst e'
   obtain⟨its,r,pl,hz⟩:=I.list hx
   have hlen:=r.length
   exact wpAny_truthy_list pl.isList (by simp only [zbl4];lia) ⟨H,I.tok _,by rw [zad1 r];exact q⟩
  ·subst e'
   obtain⟨its,r,pl,hz⟩:=I.tuple hx
   have hlen:=r.length
   exact truthy_tuple pl (by simp only [zbl4];lia) ⟨H,I.tok _,by rw [zad1 r];exact q⟩
  ·subst e'
   obtain⟨hz,hS,vs,r,m⟩:kvs.length≤sizeLine∧(p == sysModules)=false∧∃vs,KV kvs vs∧s.heap.DictOf (zh6 X.prog X.w) p vs:=I.hok p _ hx
   have hlen:kvs.length=vs.length:=Paired.length r
   exact wpAny_truthy_dict hS m (by lia) ⟨H,I.tok _,by rw [zaw3 r];exact q⟩
 |_=>exact (show False from e).elim
theorem pt_truth (ha:PE X a ta) (he:∀whole,isTrue a X.env whole=(do let v ← whole;standAt a.pos;holding [v] (truthy v))) :
  PT X a (fun σ H Q=>ta σ H fun x H' => ∃k,TruV X.K x H' k∧Q k H'):=by
 intro pins s σ H Q I h
 exact isTrue_plain (thn (ha pins s σ H _ I h) fun v s1 ⟨x,H1,I1,r1,q1⟩=>tru_ok pins s1 σ H1 x v Q I1 r1 q1) (he _)
theorem zw9 {x:V}{us:List Value} (r:Vals [x] us):∃u,us=[u]∧RelV x u:=by
 cases r with
 |cons r1 r2=>cases r2;exact⟨_,rfl,r1⟩
theorem vals2 {x y:V}{us:List Value} (r:Vals [x,y] us):∃u w',us=[u,w']∧RelV x u∧RelV y w':=by
 cases r with
 |cons r1 r2 =>
  cases r2 with
  |cons r3 r4=>cases r4;exact⟨_,_,rfl,r1,r3⟩
theorem call_abs:zm7 X (.builtin "abs") (fun xs H Q => ∃i,xs=[.int i]∧Q (.int (if i<0 then -i else i)) H):=by
 intro pins s σ H xs us Q I r h
 obtain⟨i,rfl,q⟩:=h
 obtain⟨u,rfl,t,rfl⟩:=zw9 r
 exact call_abs_int fun u tk=>⟨.int (if i<0 then -i else i),H,I.tok _,⟨_,rfl⟩,q⟩
theorem zbh5 (hc:X.calm=true):zm7 X (.builtin "max") (fun xs H Q => ∃i j,xs=[.int i,.int j]∧Q (.int (if j > i then j else i)) H):=by
 intro pins s σ H xs us Q I r h
 obtain⟨i,j,rfl,q⟩:=h
 obtain⟨u,w',rfl,⟨t,rfl⟩,⟨t',rfl⟩⟩:=vals2 r
 refine max_two_ints (I.ok.hd hc) fun h' tk k=>⟨_,H,I.kept k,?_,q⟩
 by_cases hj:j > i
 ·rw [if_pos hj,if_pos hj];exact⟨_,rfl⟩
 ·rw [if_neg hj,if_neg hj];exact⟨_,rfl⟩
theorem zbh3 (hc:X.calm=true):zm7 X (.builtin "min") (fun xs H Q => ∃i j,xs=[.int i,.int j]∧Q (.int (if j<i then j else i)) H):=by
 intro pins s σ H xs us Q I r h
 obtain⟨i,j,rfl,q⟩:=h
 obtain⟨u,w',rfl,⟨t,rfl⟩,⟨t',rfl⟩⟩:=vals2 r
 refine min_two_ints (I.ok.hd hc) fun h' tk k=>⟨_,H,I.kept k,?_,q⟩
 by_cases hj:j<i
 ·rw [if_pos hj,if_pos hj];exact⟨_,rfl⟩
 ·rw [if_neg hj,if_neg hj];exact⟨_,rfl⟩
end
end L2
namespace L2
open PySem.Spec
structure ObjM (h:Heap) (x dx C:Addr) (mA:Str→Option Value):Prop where
 obj:h.get? x=some (zbz4 C dx)
 ns:h.Ns1 dx mA
 ne:dx≠x
theorem zbc0 {h:Heap}{dx:Addr}{mA:Str→Option Value} (n:h.Ns1 dx mA):∃od,h.get? dx=some od∧∀name,zbz9 name od=some (mA name):=by
 obtain⟨o,es,ep,ho,hd,hk,_,hm⟩:=n
 refine⟨o,ho,fun name=>?_⟩
 have e:=hm name
 unfold nsFind findBy at e
 rw [← Array.find?_toList]at e
 unfold zbz9
 rw [hd]
 dsimp only
 split
 ·rename_i y q
  rw [q]at e
  exact congrArg some e
 ·rename_i q
  rw [q]at e
  have a:es.toList.any (·.refKey)=false:=by
   rw [List.any_eq_false]
   intro y hy
   obtain⟨z,t,hkey⟩:=hk y (Array.mem_toList_iff.mp hy)
   simp [DictEntry.refKey,hkey]
  have a' : ¬ es.toList.any (·.refKey)=true:=by rw [a];exact zbl3
  rw [if_neg a']
  exact congrArg some e
theorem ObjM.look {h:Heap}{x dx C:Addr}{mA:Str→Option Value} (I:ObjM h x dx C mA):∃od,PySem.W.InstAt h x (zbz4 C dx) C (some od)∧∀name,zbz9 name od=some (mA name) :=
 let ⟨od,ho,hl⟩:=zbc0 I.ns
 ⟨od,⟨I.obj,rfl,rfl,ho⟩,hl⟩
section
variable {prog:Program}{w:World}{A:Around}{E:Value→zbk7→Prop}{s:zbk7}{K:zbj0}{x dx C f:Addr}{mA:Str→Option Value}{name:Str}{v:Value}
theorem get_map {expr:Bool}{Q:Value→zbk7→Prop} (X:K.In s.heap) (I:ObjM s.heap x dx C mA) (hg:zcc4 K C name=true) (hh:zcb5 K C=true)
  (ha:zbt8 K (.ref C) name=some none) (hv:mA name=some v) (hv':PySem.W.handedIn v=true) (h:Q v { s with toks:=s.toks+1 }) :
  wpAny (model prog w) A (getAttr (.ref x) name expr) Q E s:=by
 obtain⟨od,J,hl⟩:=I.look
 exact PySem.W.get_value X J (PySem.W.plainGet_of hg).1 (PySem.W.findObj_own hh ha rfl (by rw [hl,hv])) hv' h
end
theorem RelO.some_of {v:V}{o:Option Value} (r:RelO (some v) o):∃u,o=some u∧RelV v u:=by
 cases o with
 |none=>exact (show False from r).elim
 |some u=>exact⟨u,rfl,r⟩
structure Cls (K:zbj0) (C:Addr):Prop where
 pg:zcc4 K C Str.empty=true
 hd:zcb5 K C=true
 po:PySem.W.plainOver K C=true
 sa:zbt8 K (.ref C) "__setattr__"=some (some (.builtin "object.__setattr__"))
structure Con (K:zbj0) (C:Addr) (f:Str) (v:V) (u:Value):Prop where
 at_:zbt8 K (.ref C) f=some (some u)
 rel:RelV v u
 get:zcb6 K u "__get__"=some none
 cp:PySem.W.copiedNames.contains f=false
structure Meth (K:zbj0) (C:Addr) (m:Str) (f:Addr):Prop where
 at_:zbt8 K (.ref C) m=some (some (.ref f))
 fn:PySem.W.isFn K (.ref f)=true
 kp:zbo8 K (.ref f)=true
section
variable {X:Cx}{pins:List (Addr×Obj)}{σ:St}{H:Hp}{s:zbk7}{A:Around}{E:Value→zbk7→Prop}{Q:Value→zbk7→Prop}{c:Value}{b:Bool}
inductive TyOf (K:zbj0) (H:Hp):V→Value→Prop where
 |non:TyOf K H .non (.type "NoneType")
 |bl (x:Bool):TyOf K H (.bl x) (.type "bool")
 |int (i:Int):TyOf K H (.int i) (.type "int")
 |str (x:Str):TyOf K H (.str x) (.type "str")
 |flt (x:UInt64):TyOf K H (.flt x) (.type "float")
 |lst {a:Addr}{xs:List V} (e:H a=some (.lst xs)):TyOf K H (.ref a) (.type "list")
 |frz {a:Addr}{o:Obj}{xs:List V} (e:H a=some (.frz o (.lst xs))):TyOf K H (.ref a) (.type "list")
 |tup {a:Addr}{xs:List V} (e:H a=some (.tup xs)):TyOf K H (.ref a) (.type "tuple")
 |dK {a:Addr}{kvs:List (Key×V)} (e:H a=some (.dK kvs)):TyOf K H (.ref a) (.type "dict")
 |dT {a:Addr}{kvs:List (List Key×V)} (e:H a=some (.dT kvs)):TyOf K H (.ref a) (.type "dict")
 |ins {a C dx:Addr}{fs:List (Str×V)} (e:H a=some (.ins C dx fs)) (cl:Cls K C) (ha:zbt8 K (.ref C) "__class__"=some (some (.builtin "object.__class__")))
   (hn:zcb6 K (.builtin "object.__class__") "__get__"=some (some (.builtin "getset_descriptor.__get__"))) (htk:PySem.W.takesIn K (.builtin "object.__class__")=some true)
   (hm:PySem.W.mroIn K C (.type "object")=some true):TyOf K H (.ref a) (.ref C)
end
end L2
namespace L2
open PySem.Spec
structure Room (k:Nat) (A:Around):Prop where
 hd:A.handled=none
 dp:A.depth+3*k+5<recursionLimit
 un:A.units+16*k+200<cLine
theorem Room.mono {j k:Nat}{A:Around} (r:Room k A) (h:j≤k):Room j A:=⟨r.hd,by have:=r.dp;lia,by have:=r.un;lia⟩
theorem Room.deeper {k:Nat}{A:Around} (r:Room (k+1) A) (env:Env):Room k (A.deeper env) :=
 ⟨r.hd,by have:=r.dp;show A.depth+1+3*k+5<_;lia,by have:=r.un;show A.units+3+16*k+200<_;lia⟩
theorem Room.depth {k:Nat}{A:Around} (r:Room k A):A.depth<recursionLimit:=by have:=r.dp;lia
theorem Room.units {k:Nat}{A:Around} (r:Room k A):A.units+64<cLine:=by have:=r.un;lia
def tNil:TA:=fun _ H Q=>Q [] H
def tCons (ta:TE) (tr:TA):TA:=fun σ H Q=>ta σ H fun x H1=>tr σ H1 fun xs H2=>Q (x::xs) H2
section
variable {X:Cx}{e:Expr}{es:List Expr}{te:TE}{t:TA}{pos:Pos}
theorem zp0:PA X [] tNil:=fun _ _ _ _ H Q I h=>Calls.spliced_nil ⟨[],H,I,.nil,h⟩
theorem zj2 (ha:PE X e te) (hr:PA X es t) (hs:zbl2 (e::es) X.env=(false,eval e X.env)::zbl2 es X.env:=by rfl):PA X (e::es) (tCons te t):=by
 intro pos pins s σ H Q I h
 rw [hs]
 show wpAny _ _ (spliced ((false,eval e X.env)::zbs5 pos (zbl2 es X.env))) _ _ s
 refine Calls.spliced_cons (thn (ha pins s σ H _ I h) fun u s1 ⟨x,H1,I1,r1,q1⟩=>?_)
 exact thn (hr pos pins s1 σ H1 _ I1 q1) fun us s2 ⟨xs,H2,I2,r2,q2⟩=>⟨x::xs,H2,I2,.cons r1 r2,q2⟩
def tTup (t:TA):TE:=fun σ H Q=>t σ H fun xs H1=>xs.length≤sizeLine∧∀p,H1 p=none→Q (.ref p) (upd H1 p (.tup xs))
def tLst (t:TA):TE:=fun σ H Q=>t σ H fun xs H1=>xs.length≤sizeLine∧∀p,H1 p=none→Q (.ref p) (upd H1 p (.lst xs))
theorem pe_tup {x1} (h:PA X es t):PE X (.Tuple es x1 pos) (tTup t):=by
 intro pins s σ H Q I hq
 refine wpAny_Tuple_spliced (thn (h pos pins s σ H _ I hq) fun us s1 ⟨xs,H1,I1,r,z,q⟩=>⟨by rw [← r.length];exact z,?_⟩)
 have hf:H1 s1.heap.objs.size=none:=I1.hok.fresh (zbl1 _)
 refine⟨.ref s1.heap.objs.size,upd H1 s1.heap.objs.size (.tup xs),I1.laid (t':=s1.toks) (fun b u e=>zbk0 _ e) (zbl1 _) ?_,rfl,q _ hf⟩
 exact⟨z,us,r,⟨_,zbm7 _ rfl,rfl,_,rfl⟩⟩
theorem pe_lst (h:PA X es t):PE X (.List es pos) (tLst t):=by
 intro pins s σ H Q I hq
 refine wpAny_List_spliced (thn (h pos pins s σ H _ I hq) fun us s1 ⟨xs,H1,I1,r,z,q⟩=>⟨by rw [← r.length];exact z,?_⟩)
 have hf:H1 s1.heap.objs.size=none:=I1.hok.fresh (zbl1 _)
 refine⟨.ref s1.heap.objs.size,upd H1 s1.heap.objs.size (.lst xs),I1.laid (t':=s1.toks) (fun b u e=>zbk0 _ e) (zbl1 _) ?_,rfl,q _ hf⟩
 exact⟨z,us,0,r,zbm7 _ rfl⟩
end
abbrev Sp:=List V→Hp→VK→XK→Prop
abbrev CXT:=List Env→Hp→zbk7→XK→Value→zbk7→Prop
structure Env0 (P:Program) (w:World) (K:zbj0) (mg:Str→Option Value) (base:BHeap) (A:Around) (outer:List Env) (s:zbk7) (H:Hp):Prop where
 frames:A.frames=some outer
 mod:Mod K mg base
 bs:∀b o,base.get? b=some o→s.heap.get? b=some o∧H b=none
 bsz:base.objs.size≤s.heap.objs.size
 funs:s.heap.FunFrames base outer
 frf:∀b∈frs outer,H b=none
 hok:HOk P w H s.heap
 bare:AllBare s.gens
 tabs:∀p∈base.tabs,H p.1=some (.tbl p.2)
noncomputable def CE (outer:List Env) (P:Program) (w:World) (H:Hp) (s:zbk7) (Q:VK) (u:Value) (s':zbk7):Prop :=
 ∃v H',s'.os=s.os∧AllBare s'.gens∧Un (frs outer) [] H H' s.heap s'.heap∧HOk P w H' s'.heap∧RelV v u∧Q v H'
noncomputable def CR (CX:CXT) (outer:List Env) (P:Program) (w:World) (H:Hp) (s:zbk7) (Q:VK) (E:XK) (r:Result) (s':zbk7):Prop :=
 match r with
 |.ok (.ret u)=>CE outer P w H s Q u s'
 |.ok _=>False
 |.error e=>CX outer H s E e s'
structure FnOk (P:Program) (w:World) (K:zbj0) (mg:Str→Option Value) (base:BHeap) (CX:CXT) (k:Nat) (f:Addr) (fd:FuncData) (ps:List Str) (sp:Sp):Prop where
 len:∀vs H Q E,sp vs H Q E→vs.length=ps.length
 run:∀(A:Around) (outer:List Env) (s:zbk7) (H:Hp) (args:Args) (us:List Value) (vs:List V) (Q:VK) (E:XK),Room k A→Env0 P w K mg base A outer s H→BindsTo s fd args (ps.zip us)→Vals vs us→sp vs H Q E →
  codeAny (model P w) A (.call (.ref f) args) (CR CX outer P w H s Q E) s
section
variable {X:Cx}{pins:List (Addr×Obj)}{σ:St}{H:Hp}{s s':zbk7}
theorem Inv.env0 (I:Inv X pins σ H s):Env0 X.prog X.w X.K X.mg X.base X.A X.stack s H :=
 ⟨I.ok.frames,I.ok.mod,I.bs,zbk3 I.ok.bsz I.sz,I.stack,I.stkFree,I.hok,I.bare,fun p hp=>I.base.tbls _ _ (I.ok.tabs p hp)⟩
theorem Inv.after {Q:VK}{u:Value} (I:Inv X pins σ H s) (h:CE X.stack X.prog X.w H s Q u s'):EP X pins σ Q u s':=by
 obtain⟨v,H',os,bare,un,hok,r,q⟩:=h
 obtain⟨hh,g,d,t,os'⟩:=s'
 obtain rfl:os'=s.os:=os
 exact⟨v,H',I.call (h':=hh) (g':=g) (d':=d) (t':=t) (ch:=[]) un hok bare (fun b z=>absurd z (by simp)),r,q⟩
end
def tCall (sp:Sp) (dvs:List V) (E:XK) (t:TA):TE:=fun σ H Q=>t σ H fun vs H1=>sp (vs++dvs) H1 Q E
noncomputable def Binds (K:zbj0) (fd:FuncData) (ps:List Str) (ds:List Value):Prop :=
 ∀(s:zbk7) (us:List Value),K.In s.heap→(us++ds).length=ps.length→BindsTo s fd ⟨us,[]⟩ (ps.zip (us++ds))
theorem Binds.all {K:zbj0}{fd:FuncData}{ps:List Str} (h:∀us:List Value,us.length=ps.length→bindArgs fd ⟨us,[]⟩=pure (ps.zip us)):Binds K fd ps []:=fun s us _ hl=>by
 rw [zbu6]at hl ⊢
 exact .of_eq (h us hl)
noncomputable def zbi7 (CX:CXT) (X:Cx) (E:XK):Prop := ∀(pins:List (Addr×Obj)) (σ:St) (H:Hp) (s:zbk7) (e:Value) (s':zbk7),Inv X pins σ H s→CX X.stack H s E e s'→X.xe e s'
section
variable {X:Cx}{CX:CXT}{k:Nat}{f C:Addr}{fd:FuncData}{ps:List Str}{sp:Sp}{dvs:List V}{ds:List Value}{E:XK}{x m:Str}{p pos apos:Pos}{e o:Expr}{es:List Expr}{ta:TE}{t:TA}
theorem run_fn {pins:List (Addr×Obj)}{σ:St}{H:Hp}{s:zbk7}{Q:VK}{us:List Value}{vs:List V} (F:FnOk X.prog X.w X.K X.mg X.base CX k f fd ps sp) (hr:Room k X.A) (hb:Binds X.K fd ps ds) (hd:Vals dvs ds) (hx:zbi7 CX X E)
  (I:Inv X pins σ H s) (r:Vals vs us) (h:sp (vs++dvs) H Q E):wpAny (model X.prog X.w) X.A (call (.ref f) us) (EP X pins σ Q) X.xe s:=by
 have r2:Vals (vs++dvs) (us++ds):=r.append hd
 have hl:(us++ds).length=ps.length:=by rw [← r2.length];exact F.len _ _ _ _ h
 refine wpAny_call (codeAny_mono (F.run X.A X.stack s H ⟨us,[]⟩ (us++ds) (vs++dvs) Q E hr I.env0 (hb s us I.kIn hl) r2 h) fun r s' hq=>?_)
 cases r with
 |error e=>exact hx pins σ H s e s' I hq
 |ok fl =>
  cases fl with
  |ret u=>exact I.after hq
  |next=>exact False.elim hq
  |brk=>exact False.elim hq
  |cont=>exact False.elim hq
theorem pe_call (F:FnOk X.prog X.w X.K X.mg X.base CX k f fd ps sp) (hr:Room k X.A) (hg:Gl X x) (hm:X.mg x=some (.ref f)) (hk:zbo8 X.K (.ref f)=true) (hb:Binds X.K fd ps ds) (hd:Vals dvs ds) (hx:zbi7 CX X E)
  (ha:PA X (e::es) t) (hdb:(x ==("__debug__":Str))=false:=by decide) (he:zbl2 (e::es) X.env=(false,eval e X.env)::zbl2 es X.env:=by rfl) (hpl:(zbs5 pos (zbl2 es X.env)).any (·.1)=false:=by rfl) :
  PE X (.Call (.Name x p) (e::es) [] pos) (tCall sp dvs E t):=by
 intro pins s σ H Q I h
 refine wpAny_Call_Name_kw (ld_glob I hg hm ?_ hdb)
 refine PySem.W.callWith_K (h₀:=X.base) I.ok.mod.kin hk (thn (ha pos pins s σ H _ I h) fun us s1 ⟨vs,H1,I1,r,q⟩=>⟨I1.kIn,?_⟩) he hpl
 exact run_fn F hr hb hd hx I1 r q
structure Mk (K:zbj0) (C f:Addr):Prop where
 makes:PySem.W.makesIn K C=true
 init:zbt8 K (.ref C) "__init__"=some (some (.ref f))
 fn:PySem.W.isFn K (.ref f)=true
 kp:zbo8 K (.ref C)=true
end
section
variable {X:Cx}{CX:CXT}{k:Nat}{f C:Addr}{fd:FuncData}{ps ks:List Str}{sp:Sp}{E:XK}{x m:Str}{p pos apos kpos:Pos}{e o:Expr}{es:List Expr}{kws:List Keyword}{te ta:TE}{t tk:TA}{nm:Option Str}
structure KBinds (K:zbj0) (fd:FuncData) (ps ks:List Str) (g:List Value→List Value→List Value) (gV:List V→List V→List V):Prop where
 to:∀(s:zbk7) (us ws:List Value),K.In s.heap→(g us ws).length=ps.length→BindsTo s fd ⟨us,ks.zip ws⟩ (ps.zip (g us ws))
 rel:∀ {vs:List V}{us:List Value}{zs:List V}{ws:List Value},Vals vs us→Vals zs ws→Vals (gV vs zs) (g us ws)
variable {g:List Value→List Value→List Value}{gV:List V→List V→List V}
end
structure FnScope (N P:List Str) (sc:Scope):Prop where
 kind:sc.kind=.function
 co:sc.isCoroutine=false
 gen:sc.isGenerator=false
 nd:N.Nodup
 pre:N.take P.length=P
 par:∀x∈P,sc.names.lookup x=some .local∨sc.names.lookup x=some .cell
 nofree:∀y∈sc.names,y.2≠.free
theorem zak9 {kindOf:Str→Option NameKind}{x:Str}:∀ {binds:List (Str×Value)}{m:Str→Option Value},(∀v,(x,v)∉binds)→bindL kindOf binds m x=m x
 |[],_,_=>rfl
 |(n,v)::r,m,h=>by
  unfold bindL
  rw [zak9 fun w hw=>h w (zbj2 _ hw)]
  split
  ·have:x≠n:=by rintro rfl;exact h v zbj7
   simp [this]
  ·rfl
theorem zal1 {kindOf:Str→Option NameKind}{x:Str}:∀ {binds:List (Str×Value)}{m:Str→Option Value},(∀v,(x,v)∉binds)→bindC kindOf binds m x=m x
 |[],_,_=>rfl
 |(n,v)::r,m,h=>by
  unfold bindC
  rw [zal1 fun w hw=>h w (zbj2 _ hw)]
  split
  ·rfl
  ·have:x≠n:=by rintro rfl;exact h v zbj7
   simp [this]
theorem zal0 {kindOf:Str→Option NameKind}{x:Str}{v:Value}:∀ {P:List Str}{vs:List Value}{i:Nat}{m:Str→Option Value},P.Nodup→P[i]?=some x→vs[i]?=some v→kindOf x=some .local →
  bindL kindOf (P.zip vs) m x=some v
 |[],_,_,_,_,h,_,_=>by simp at h
 |_::_,[],_,_,_,_,h,_=>by simp at h
 |p::P,w::vs,0,m,nd,h1,h2,hk=>by
  simp at h1 h2;subst h1;subst h2
  show bindL kindOf ((p,w)::P.zip vs) m p=_
  unfold bindL
  rw [zak9 fun v hv=>(zbl6.mp nd).1 (zbz5 hv).1,if_pos hk]
  simp
 |p::P,w::vs,i+1,m,nd,h1,h2,hk=>by
  show bindL kindOf ((p,w)::P.zip vs) m x=_
  unfold bindL
  exact zal0 (i:=i) (zbl6.mp nd).2 (by simpa using h1) (by simpa using h2) hk
theorem zal2 {kindOf:Str→Option NameKind}{x:Str}{v:Value}:∀ {P:List Str}{vs:List Value}{i:Nat}{m:Str→Option Value},P.Nodup→P[i]?=some x→vs[i]?=some v→kindOf x≠some .local →
  bindC kindOf (P.zip vs) m x=some v
 |[],_,_,_,_,h,_,_=>by simp at h
 |_::_,[],_,_,_,_,h,_=>by simp at h
 |p::P,w::vs,0,m,nd,h1,h2,hk=>by
  simp at h1 h2;subst h1;subst h2
  show bindC kindOf ((p,w)::P.zip vs) m p=_
  unfold bindC
  rw [zal1 fun v hv=>(zbl6.mp nd).1 (zbz5 hv).1,if_neg hk]
  simp
 |p::P,w::vs,i+1,m,nd,h1,h2,hk=>by
  show bindC kindOf ((p,w)::P.zip vs) m x=_
  unfold bindC
  exact zal2 (i:=i) (zbl6.mp nd).2 (by simpa using h1) (by simpa using h2) hk
def start (N:List Str) (vs:List V):St:=vs.map some++zbj8 (N.length - vs.length) none
noncomputable def cxOf (CX:CXT) (P:Program) (w:World) (K:zbj0) (mg:Str→Option Value) (base:BHeap) (N:List Str) (qual:Str) (scope:Scope) (f:Addr) (cd:Value) (A:Around) (outer:List Env) (s:zbk7) (H:Hp) (E:XK):Cx where
 prog:=P
 w:=w
 K:=K
 mg:=mg
 base:=base
 A:=A.deeper (envOfC qual scope s.heap.objs.size f cd)
 N:=N
 s₀:=s
 H₀:=H
 env:=envOfC qual scope s.heap.objs.size f cd
 outer:=outer
 stack:=envOfC qual scope s.heap.objs.size f cd::outer
 ex:=[]
 calm:=true
 fn:=fun _=>true
 pn:=[]
 xe:=fun e s'=>wpAny (model P w) (A.deeper (envOfC qual scope s.heap.objs.size f cd)) (leaving (envOfC qual scope s.heap.objs.size f cd) e) (fun _ s''=>CX outer H s E e s'') (fun e' s''=>CX outer H s E e' s'') s'
theorem zat3 {sc:Scope}{n:Nat}{x:Str} (h:sc.names.lookup x=some .cell):∃c,(cellsFrom n sc.names []).lookup x=some c:=by
 have q:=zby1 sc.names n [] (.inl h)
 exact Option.isSome_iff_exists.mp q
theorem zbd5 {CX:CXT}{P:Program}{w:World}{K:zbj0}{mg:Str→Option Value}{base:BHeap}{N ps:List Str}{qual:Str}{scope:Scope}{f:Addr}{cd:Value}{A:Around}{outer:List Env}{s s1:zbk7}{H:Hp}{E:XK}{us:List Value}{vs:List V}
  (S:FnScope N ps scope) (hd:A.handled=none) (e0:Env0 P w K mg base A outer s H) (hl:vs.length=ps.length) (r:Vals vs us)
  (x:InCallC s s.heap.objs.size (bindL (envOfC qual scope s.heap.objs.size f cd).kindOf (ps.zip us) fun _=>none) (cellsFrom (s.heap.objs.size+1) scope.names []) (bindC (envOfC qual scope s.heap.objs.size f cd).kindOf (ps.zip us) fun _=>none) s1) :
  Inv (cxOf CX P w K mg base N qual scope f cd A outer s H E) [] (start N vs) H s1:=by
 have hpl:ps.length≤N.length:=by have:=congrArg List.length S.pre;rw [zbs2]at this;lia
 obtain⟨h1,tk,rfl,hk⟩:=x.done
 have noA:∀b:Addr,b∉(cxOf CX P w K mg base N qual scope f cd A outer s H E).ex:=fun b z=>absurd (show b∈([]:List Addr) from z) (by simp)
 refine⟨⟨e0.mod,S.kind,rfl,rfl,zbl1 _,fun y z c h1 h2=>?_,fun y hy=>?_,fun y c _ h=>?_,fun _=>hd,Around.frames_deeper e0.frames,.inr ⟨rfl,rfl⟩,fun b z=>absurd z (noA b),e0.bs,e0.bsz,fun b _ _=>noA b,fun b z=>absurd z (noA b),e0.funs,e0.frf,e0.tabs⟩,
  rfl,e0.bare,Un.kept hk,⟨_,x.toInCall.ns,fun i y v h1 h2 h3=>?_⟩,fun y c h=>⟨_,x.cell y c h⟩,e0.hok.fresh (zbl1 _),fun y c h=>?_,fun p hp=>absurd (show p∈([]:List (Addr×Obj)) from hp) (by simp),e0.hok.kept hk,?_⟩
 ·exact name_of_addr x.apart (PySem.mem_of_lookup h1) (PySem.mem_of_lookup h2)
 ·have hy:scope.names.lookup y=some .cell∨scope.names.lookup y=some .free:=hy
  rcases hy with hy | hy
  ·exact zat3 hy
  ·exact absurd rfl (S.nofree _ (PySem.mem_of_lookup hy))
 ·exact zbx0 (x.above y c (PySem.mem_of_lookup h))
 ·have hi:i<vs.length:=by
   unfold start at h2
   by_cases hi:i<vs.length
   ·exact hi
   ·rw [zbo9 (by simpa using hi)]at h2
    rw [zbq5]at h2
    split at h2<;>cases h2
  have ha:vs[i]?=some v:=by
   unfold start at h2
   rw [zbp2 (by simpa using hi),zbo4]at h2
   cases e:vs[i]? with
   |none=>rw [e]at h2;cases h2
   |some a=>rw [e]at h2;cases h2;rfl
  obtain⟨u,hu,rv⟩:=r.get ha
  have hp:ps[i]?=some y:=by
   rw [← S.pre,List.getElem?_take_of_lt (by lia)];exact h1
  have ndP:ps.Nodup:=by rw [← S.pre];exact S.nd.sublist (List.take_sublist _ _)
  refine⟨u,rv,?_⟩
  rcases S.par y (zbt5 hp) with k | k
  ·exact .inl ⟨k,zal0 ndP hp hu k⟩
  ·obtain⟨c,e⟩:=zat3 (n:=s.heap.objs.size+1) k
   refine .inr ⟨.inl k,c,e,?_⟩
   have q:=x.cell y c e
   rw [zal2 ndP hp hu (by show scope.names.lookup y≠_;rw [k];decide)]at q
   exact q
 ·exact e0.hok.fresh (zbx0 (x.above y c (PySem.mem_of_lookup h)))
 ·unfold start
  show _=N.length
  rw [zbl8,zbl5,zbn0]
  lia
theorem fn_of {CX:CXT}{P:Program}{w:World}{K:zbj0}{mg:Str→Option Value}{base:BHeap}{k:Nat}{f:Addr}{name qual:Str}{params:Arguments}{body:List Stmt}{scope:Scope}{dV kV doc pm cdv ct oc:Value}{an od:Option Addr}
  {osl:Array (Option Value)}{N ps:List Str}{sp:Sp} (lk:K.lookup f=some ⟨oc,od,.func (zbq2 name qual params body scope dV kV doc pm an cdv ct),osl⟩) (hcd:zbx1 K cdv qual=true) (S:FnScope N ps scope)
  (len:∀vs H Q E,sp vs H Q E→vs.length=ps.length)
  (hbody:∀(A:Around) (outer:List Env) (s:zbk7) (H:Hp) (vs:List V) (Q:VK) (E:XK),Room k (A.deeper (envOfC qual scope s.heap.objs.size f cdv))→sp vs H Q E →
   ∃t,PSs (cxOf CX P w K mg base N qual scope f cdv A outer s H E) body t∧t { nx:=fun _ H'=>Q .non H',rt:=Q } (start N vs) H) :
  FnOk P w K mg base CX (k+1) f (zbq2 name qual params body scope dV kV doc pm an cdv ct) ps sp:=by
 refine⟨len,fun A outer s H args us vs Q E hr e0 hb r hsp=>?_⟩
 have hl:=len _ _ _ _ hsp
 have KX:K.In s.heap:=e0.mod.kin.keeps fun b o e=>(e0.bs b o e).1
 have lim:s.heap.NoLimit:=e0.mod.nolimit.keeps fun b o e=>(e0.bs b o e).1
 have hkind:∀y∈ps.zip us,scope.names.lookup y.1=some .local∨(scope.names.lookup y.1=some .cell∧((cellsFrom (s.heap.objs.size+1) scope.names []).lookup y.1).isSome=true):=fun ⟨n,v⟩ hy=>by
  rcases S.par n (zbz5 hy).1 with q | q
  ·exact .inl q
  ·exact .inr ⟨q,zby1 _ _ _ (.inl q)⟩
 refine codeAny_call_function hr.depth (KX _ _ lk) rfl S.co S.gen rfl (PySem.W.codeRec_of KX hcd) (hb _ _ _ _ ?_)
 refine wpAny_newFunctionEnv_cells S.kind hkind fun env he s1 x=>?_
 subst he
 refine⟨lim.keeps x.toInCall.keep,codeAny_func ?_⟩
 obtain⟨t,ht,hq⟩:=hbody A outer s H vs Q E (hr.deeper _) hsp
 have I:Inv (cxOf CX P w K mg base N qual scope f cdv A outer s H E) [] (start N vs) H s1:=zbd5 S hr.hd e0 hl r x
 refine wpAny_mono (ht [] s1 (start N vs) H _ I hq) (fun fl s' hs=>?_) fun e s' hs=>hs
 have fin:∀ {σ':St}{H':Hp}{v:V}{u:Value},Inv (cxOf CX P w K mg base N qual scope f cdv A outer s H E) [] σ' H' s'→RelV v u→Q v H'→CE outer P w H s Q u s' :=
  fun {σ' H' v u} J rv q=>⟨v,H',J.os,J.bare,J.base,J.hok,rv,q⟩
 cases fl with
 |ret u =>
  obtain⟨v,σ',H',J,rv,q⟩:=hs
  exact fin J rv q
 |next =>
  obtain⟨σ',H',J,q⟩:=hs
  exact fin (v:=V.non) (u:=Value.none) J rfl q
 |brk =>
  obtain⟨_,_,_,q⟩:=hs
  exact False.elim q
 |cont =>
  obtain⟨_,_,_,q⟩:=hs
  exact False.elim q
end L2
namespace L2
open PySem.Spec
section
variable {X:Cx}{x:Str}{p pos:Pos}{e:Expr}{es:List Expr}{t:TA}{id T:String}{r:List V→Hp→VK→Prop}
def tCB (r:List V→Hp→VK→Prop) (t:TA):TE:=fun σ H Q=>t σ H fun vs H1=>r vs H1 Q
theorem zar7 (hc:zm7 X (.builtin id) r) (hg:Gl X x) (hm:X.mg x=none) (hv:bootBuiltins x=some (.builtin id)) (ha:PA X (e::es) t) (hn:x≠"__name__":=by decide) (hdb:(x ==("__debug__":Str))=false:=by decide)
  (he:zbl2 (e::es) X.env=(false,eval e X.env)::zbl2 es X.env:=by rfl) (hpl:(zbs5 pos (zbl2 es X.env)).any (·.1)=false:=by rfl):PE X (.Call (.Name x p) (e::es) [] pos) (tCB r t):=by
 intro pins s σ H Q I h
 refine wpAny_Call_Name_kw (zp1 I hg hm hv ?_ hn hdb)
 exact PyProof.Rows.callWith_builtin1 (thn (ha pos pins s σ H _ I h) fun us s1 ⟨vs,H1,I1,r1,q1⟩=>hc pins s1 σ H1 vs us Q I1 r1 q1) he hpl
theorem zba4 (hc:zm7 X (.type T) r) (hg:Gl X x) (hm:X.mg x=none) (hv:bootBuiltins x=some (.type T)) (ha:PA X (e::es) t) (hn:x≠"__name__":=by decide) (hdb:(x ==("__debug__":Str))=false:=by decide)
  (he:zbl2 (e::es) X.env=(false,eval e X.env)::zbl2 es X.env:=by rfl) (hpl:(zbs5 pos (zbl2 es X.env)).any (·.1)=false:=by rfl):PE X (.Call (.Name x p) (e::es) [] pos) (tCB r t):=by
 intro pins s σ H Q I h
 refine wpAny_Call_Name_kw (zp1 I hg hm hv ?_ hn hdb)
 exact PyProof.Rows.callWith_type1 (thn (ha pos pins s σ H _ I h) fun us s1 ⟨vs,H1,I1,r1,q1⟩=>hc pins s1 σ H1 vs us Q I1 r1 q1) he hpl
end
end L2
namespace HT
section
variable {prog:Program}{w:World}{A:Around}{E:Value→zbk7→Prop}{s:zbk7}
def sIx (n d:Nat):Option Int→Nat
 |none=>d
 |some v=>if v<0 then (v+(n:Int)).toNat else min v.toNat n
theorem sIx_none (n d:Nat):sIx n d none=d:=rfl
theorem sIx_nat (n d k:Nat):sIx n d (some (k:Int))=min k n:=by
 show (if (k:Int)<0 then ((k:Int)+(n:Int)).toNat else min (k:Int).toNat n)=min k n
 rw [if_neg (by lia),zbu9]
end
end HT
namespace L2
open PySem.Spec
abbrev TO:=St→Hp→(Option Int→Hp→Prop)→Prop
noncomputable def PO (X:Cx) (e:Option Expr) (t:TO):Prop :=
 ∀(pins:List (Addr×Obj)) (s:zbk7) (σ:St) (H:Hp) (Q:Option Int→Hp→Prop),Inv X pins σ H s→t σ H Q →
  wpAny (model X.prog X.w) X.A (evalPart e X.env) (fun u s' => ∃o H',Inv X pins σ H' s'∧IsPart u o∧Q o H') X.xe s
def tNoPart:TO:=fun _ H Q=>Q none H
def tPart (t:TE):TO:=fun σ H Q=>t σ H fun x H1 => ∃i,x=.int i∧Q (some i) H1
theorem zn3 {ns:List Int}:∀ {us:List Value},Vals (ns.map V.int) us→IntsAre us ns:=by
 induction ns with
 |nil=>intro us r;rw [zcc5]at r;cases r;exact .nil
 |cons n ns ih =>
  intro us r
  rw [zbk4]at r
  cases r with
  |cons r1 r2 =>
   obtain⟨t,e⟩:=r1
   subst e
   exact .cons n t (ih r2)
section
variable {X:Cx}{e:Expr}{te:TE}{lo hi:Option Expr}{tl th:TO}{pos p2:Pos}
theorem po_none:PO X none tNoPart:=by
 intro pins s σ H Q I h
 rw [evalPart_none]
 exact zbm0 ⟨none,H,I,.none,h⟩
theorem po_some (h:PE X e te):PO X (some e) (tPart te):=by
 intro pins s σ H Q I hw
 rw [evalPart_some]
 refine thn (h pins s σ H _ I hw) fun u s1 ⟨x,H1,I1,r1,q1⟩=>?_
 obtain⟨i,rfl,q⟩:=q1
 obtain⟨t,rfl⟩:=r1
 exact⟨some i,H1,I1,.int i t,q⟩
noncomputable def SlR (X:Cx) (r:V→Option Int→Option Int→Hp→VK→Prop):Prop :=
 ∀(pins:List (Addr×Obj)) (s:zbk7) (σ:St) (H:Hp) (x:V) (v vl vu:Value) (lo hi:Option Int) (sl:Addr) (Q:VK),Inv X pins σ H s→RelV x v→s.heap.IsSliceOf sl vl vu .none→IsPart vl lo→IsPart vu hi→r x lo hi H Q →
  ∃T id,typeLookup (.type T) "__getitem__"=pure (some (.builtin id))∧s.TypeIs v T∧wpAny (model X.prog X.w) X.A (getItem v (.ref sl)) (EP X pins σ Q) X.xe s
noncomputable def tSl (r:V→Option Int→Option Int→Hp→VK→Prop) (te:TE) (tl th:TO):TE:=fun σ H Q=>te σ H fun x H1=>tl σ H1 fun l H2=>th σ H2 fun u H3=>r x l u H3 Q
theorem pe_slice {r:V→Option Int→Option Int→Hp→VK→Prop} (hr:SlR X r) (he:PE X e te) (hl:PO X lo tl) (hu:PO X hi th):PE X (.Subscript e (.Slice lo hi none p2) pos) (tSl r te tl th):=by
 intro pins s σ H Q I h
 refine Subscript_ (thn (he pins s σ H _ I h) fun v s1 ⟨x,H1,I1,r1,q1⟩=>?_)
 refine wpAny_Slice (thn (hl pins s1 σ H1 _ I1 q1) fun vl s2 ⟨l,H2,I2,pl,q2⟩=>thn (hu pins s2 σ H2 _ I2 q2) fun vu s3 ⟨u,H3,I3,pu,q3⟩=>?_)
 rw [evalPart_none]
 refine zbm0 ?_
 have I4:Inv X pins σ H3 { s3 with heap:=s3.heap.push { cls:=.type "slice",data:=.fields #[vl,vu,.none] } }:=I3.kept (t':=s3.toks) fun b ob q=>zbk0 _ q
 obtain⟨T,id,hT,ht,hg⟩:=hr pins { s3 with heap:=s3.heap.push { cls:=.type "slice",data:=.fields #[vl,vu,.none] } } σ H3 x v vl vu l u s3.heap.objs.size Q I4 r1 (Heap.IsSliceOf.new ..) pl pu q3
 show wpAny (model X.prog X.w) X.A (subscriptTail e (.Slice lo hi none p2) v (.ref s3.heap.objs.size)) (EP X pins σ Q) X.xe { s3 with heap:=s3.heap.push { cls:=.type "slice",data:=.fields #[vl,vu,.none] } }
 exact tail_any (ops:=[.ref s3.heap.objs.size,v]) ht hT hg (by with_unfolding_all rfl)
noncomputable def cutV (xs:List V) (lo hi:Option Int):List V:=(xs.drop (HT.sIx xs.length 0 lo)).take (HT.sIx xs.length xs.length hi - HT.sIx xs.length 0 lo)
theorem zap4 (xs:List V) (lo hi:Option Int):(cutV xs lo hi).length≤xs.length:=by
 unfold cutV
 rw [zbs2,List.length_drop]
 lia
end
end L2
namespace L2
open PySem.Spec
noncomputable def ixN (n:Nat) (i:Int):Option Nat:=if 0≤i then (if i<n then some i.toNat else none) else if -(n:Int)≤i then some (i+n).toNat else none
def atI {α:Type} (xs:List α) (i:Int):Option α:=(ixN xs.length i).bind fun j=>xs[j]?
theorem zbd4 {n:Nat}{i:Int}{j:Nat} (h:ixN n i=some j):seqIndex? i n=some j∧j<n ∧ -(n:Int)≤i∧i<n:=by
 unfold ixN at h
 by_cases h0:0≤i
 ·rw [if_pos h0]at h
  by_cases h1:i<n
  ·rw [if_pos h1]at h
   have e:i.toNat=j:=Option.some.inj h
   exact⟨by rw [seqIndex_of h0 h1,e],by lia,by lia,h1⟩
  ·rw [if_neg h1]at h;cases h
 ·rw [if_neg h0]at h
  by_cases h1 : -(n:Int)≤i
  ·rw [if_pos h1]at h
   have e:(i+n).toNat=j:=Option.some.inj h
   exact⟨by rw [seqIndex_neg (by lia) h1,e],by lia,h1,by lia⟩
  ·rw [if_neg h1]at h;cases h
theorem zbi4 {α:Type}{xs:List α}{i:Int}{v:α} (h:atI xs i=some v):∃j,seqIndex? i xs.length=some j∧xs[j]?=some v∧j<xs.length ∧ -(xs.length:Int)≤i∧i<xs.length:=by
 unfold atI at h
 cases e:ixN xs.length i with
 |none=>rw [e]at h;cases h
 |some j =>
  rw [e]at h
  obtain⟨h1,h2,h3,h4⟩:=zbd4 e
  exact⟨j,h1,h,h2,h3,h4⟩
def zbi6 (b:Expr):Prop := ∀o i,subscripted b false o i=operate [o,i] (getItem o i)
noncomputable def IxR (X:Cx) (r:R2):Prop :=
 ∀(value slice:Expr) (pins:List (Addr×Obj)) (s:zbk7) (σ:St) (H:Hp) (x y:V) (v u:Value) (Q:VK),Inv X pins σ H s→RelV x v→RelV y u→r x y H Q →
  subscripted slice false v u=operate [v,u] (getItem v u)→wpAny (model X.prog X.w) X.A (subscriptTail value slice v u) (EP X pins σ Q) X.xe s
noncomputable def MtR (X:Cx) (id:String) (r:V→List V→Hp→VK→Prop):Prop :=
 ∀(pins:List (Addr×Obj)) (s:zbk7) (σ:St) (H:Hp) (x:V) (xs:List V) (v:Value) (us:List Value) (Q:VK),Inv X pins σ H s→RelV x v→Vals xs us→r x xs H Q →
  wpAny (model X.prog X.w) X.A (call (.builtin id) (v::us)) (EP X pins σ Q) X.xe s
section
variable {X:Cx}{a b:Expr}{ta tb:TE}{pos:Pos}
theorem IxR.or {r r':R2} (h:IxR X r) (h':IxR X r'):IxR X (fun x y H Q=>r x y H Q∨r' x y H Q):=by
 intro value slice pins s σ H x y v u Q I rx ry q hs
 rcases q with q | q
 ·exact h value slice pins s σ H x y v u Q I rx ry q hs
 ·exact h' value slice pins s σ H x y v u Q I rx ry q hs
theorem pe_ix {r:R2} (hr:IxR X r) (ha:PE X a ta) (hb:PE X b tb) (hs:zbi6 b):PE X (.Subscript a b pos) (tOp r ta tb):=by
 intro pins s σ H Q I h
 exact Subscript_ (binT ha hb I h fun v u s2 x y H2 I2 rx ry q=>hr a b pins s2 σ H2 x y v u Q I2 rx ry q (hs _ _))
def rIxL (K:zbj0):R2:=fun x y H Q => ∃p xs i v,x=.ref p∧y=.int i∧SqL K H p xs∧atI xs i=some v∧Q v H
def rIxT (K:zbj0):R2:=fun x y H Q => ∃p xs i v,x=.ref p∧y=.int i∧SqT K H p xs∧atI xs i=some v∧Q v H
theorem ix_list:IxR X (rIxL X.K):=by
 intro value slice pins s σ H x y v u Q I rx ry h hs
 obtain⟨p,xs,i,z,rfl,rfl,hq,he,q⟩:=h
 cases rx
 obtain⟨t,rfl⟩:=ry
 obtain⟨its,r,pl,hz⟩:=I.list hq
 obtain⟨j,h1,h2,h3,h4,h5⟩:=zbi4 he
 obtain⟨w,ew,rw'⟩:=r.get h2
 have hl:=r.length
 have hn:=zai5
 have fin:EP X pins σ Q w s:=⟨z,H,I,rw',q⟩
 by_cases h0:0≤i
 ·have hj:i.toNat=j:=by
   rw [seqIndex_of h0 h5]at h1
   exact Option.some.inj h1
  exact item_listR pl.isList h0 (by lia) (by rw [hj];simpa using ew) fin hs
 ·have hj:(i+(its.toArray.size:Int)).toNat=j:=by
   rw [seqIndex_neg (by lia) h4]at h1
   rw [zbl4, ← hl]
   exact Option.some.inj h1
  exact subscriptTail_builtinR (x:=w) pl.isList.typeIs slot_list_getitem.lookup
   (wpAny_getItem_list_neg (Q:=fun r s'=>r=w∧EP X pins σ Q r s') pl.isList (by lia) (by rw [zbl4]<;>lia) (by lia) (by rw [hj];simpa using ew) ⟨rfl,fin⟩) hs
theorem ix_tup:IxR X (rIxT X.K):=by
 intro value slice pins s σ H x y v u Q I rx ry h hs
 obtain⟨p,xs,i,z,rfl,rfl,hq,he,q⟩:=h
 cases rx
 obtain⟨t,rfl⟩:=ry
 obtain⟨its,r,pl,hz⟩:=I.tuple hq
 obtain⟨j,h1,h2,h3,h4,h5⟩:=zbi4 he
 obtain⟨w,ew,rw'⟩:=r.get h2
 have hl:=r.length
 have hn:=zai5
 have fin:EP X pins σ Q w s:=⟨z,H,I,rw',q⟩
 exact subscriptTail_builtinR (x:=w) pl.typeIs slot_tuple_getitem.lookup
  (getItem_tuple (j:=j) (Q:=fun r s'=>r=w∧EP X pins σ Q r s') pl (by lia) (by lia) (by rw [zbl4, ← hl];exact h1) (by simpa using ew) ⟨rfl,fin⟩) hs
theorem zav7 (its:List Value) (n j:Nat) (u:Value):Obj.mapSeq (·.setIfInBounds j u) { cls:=.type "list",data:=.seq its.toArray n }={ cls:=.type "list",data:=.seq (its.set j u).toArray n }:=by
 simp [Obj.mapSeq]
theorem Inv.lst {pins:List (Addr×Obj)}{σ:St}{H:Hp}{s:zbk7}{p:Addr}{xs:List V} (I:Inv X pins σ H s) (h:H p=some (.lst xs)) :
  ∃(its:List Value) (n:Nat),Vals xs its∧s.heap.get? p=some { cls:=.type "list",data:=.seq its.toArray n }∧xs.length≤sizeLine:=by
 obtain⟨z,its,n,r,e⟩:=I.hok p _ h
 exact⟨its,n,r,e,z⟩
theorem Inv.lstUpd {pins:List (Addr×Obj)}{σ:St}{H:Hp}{s:zbk7}{p:Addr}{xs ys:List V}{its its':List Value}{n n':Nat}{f:Obj→Obj} (I:Inv X pins σ H s) (h:H p=some (.lst xs))
  (ho:s.heap.get? p=some { cls:=.type "list",data:=.seq its.toArray n }) (hf:f { cls:=.type "list",data:=.seq its.toArray n }={ cls:=.type "list",data:=.seq its'.toArray n' }) (r:Vals ys its') (hz:ys.length≤sizeLine) (t:Nat) :
  Inv X pins σ (upd H p (.lst ys)) { s with heap:=s.heap.update p f,toks:=t }:=by
 have e:(s.heap.update p f).get? p=some { cls:=.type "list",data:=.seq its'.toArray n' }:=by
  rw [zbz1 f ho (by rw [hf]<;>rfl),hf]
 refine I.write (x:=p) (e:=p) (by rw [h];trivial) (.inl rfl) (fun b u hb q=>(zbu7 _ _ (Ne.symm hb)).trans q) ⟨_,e⟩ ?_
 exact⟨hz,its',n',r,e⟩
noncomputable def rSetL:V→V→V→Hp→(Hp→Prop)→Prop:=fun o i v H Q => ∃p xs k j,o=.ref p∧i=.int k∧H p=some (.lst xs)∧ixN xs.length k=some j∧Q (upd H p (.lst (xs.set j v)))
theorem set_list:PSet X rSetL:=by
 intro pins s σ H o i v ov iv u Q I ro ri rv h
 obtain⟨p,xs,k,j,rfl,rfl,hp,hj,q⟩:=h
 cases ro
 obtain⟨t,rfl⟩:=ri
 obtain⟨its,n,r,ho,hz⟩:=I.lst hp
 obtain⟨h1,h2,h3,h4⟩:=zbd4 hj
 have hl:=r.length
 have hn:=zai5
 have I':Inv X pins σ (upd H p (.lst (xs.set j v))) { s with heap:=s.heap.update p (Obj.mapSeq (·.setIfInBounds j u)) } :=
  I.lstUpd hp ho (zav7 its n j u) (r.set rv j) (by rw [List.length_set];exact hz) s.toks
 by_cases h0:0≤k
 ·have hk:k.toNat=j:=by
   rw [seqIndex_of h0 h4]at h1
   exact Option.some.inj h1
  exact PySem.W.ki_setAt ho h0 (by lia) (by rw [zbl4, ← hl];exact h4) (by rw [hk];exact⟨_,I',q⟩)
 ·have hk:(k+(its.toArray.size:Int)).toNat=j:=by
   rw [seqIndex_neg (by lia) h3]at h1
   rw [zbl4, ← hl]
   exact Option.some.inj h1
  exact PySem.W.ki_setBack ho (by lia) (by rw [zbl4, ← hl];exact h3) (by lia) (by rw [hk];exact⟨_,I',q⟩)
theorem zag8 (lo hi:Option Int) (n:Nat):(sliceBounds lo hi none n).1=((HT.sIx n 0 lo:Nat):Int)∧(sliceBounds lo hi none n).2.1=((HT.sIx n n hi:Nat):Int)∧(sliceBounds lo hi none n).2.2=1:=by
 refine⟨?_,?_,rfl⟩
 ·cases lo with
  |none=>simp [sliceBounds,HT.sIx]
  |some i =>
   simp only [sliceBounds,HT.sIx,zcc6,show (1:Int) > 0 by decide,if_true]
   by_cases h:i<0
   ·simp only [h,if_true]<;>lia
   ·simp only [h,if_false]<;>lia
 ·cases hi with
  |none=>simp [sliceBounds,HT.sIx]
  |some i =>
   simp only [sliceBounds,HT.sIx,zcc6,show (1:Int) > 0 by decide,if_true]
   by_cases h:i<0
   ·simp only [h,if_true]<;>lia
   ·simp only [h,if_false]<;>lia
theorem zad6 (its:List Value) (lo hi:Option Int):slicePick its.toArray lo hi none=((its.drop (HT.sIx its.length 0 lo)).take (HT.sIx its.length its.length hi - HT.sIx its.length 0 lo)).toArray:=by
 obtain⟨h1,h2,h3⟩:=zag8 lo hi its.toArray.size
 unfold slicePick
 rw [h1,h2,h3]
 simp only [sliceRange_one,pick_run,zbl4]<;>rfl
noncomputable def rSlL (K:zbj0):V→Option Int→Option Int→Hp→VK→Prop:=fun x lo hi H Q => ∃a xs,x=.ref a∧SqL K H a xs∧∀p,H p=none→Q (.ref p) (upd H p (.lst (cutV xs lo hi)))
theorem sl_list:SlR X (rSlL X.K):=by
 intro pins s σ H x v vl vu lo hi sl Q I rx hs pl pu h
 obtain⟨a,xs,rfl,hx,q⟩:=h
 cases rx
 obtain⟨its,r,ht,hz⟩:=I.list hx
 have hlen:=r.length
 refine⟨"list",_,slot_list_getitem.lookup,ht.isList.typeIs,?_⟩
 refine wpAny_getItem_list_slice ht.isList hs pl pu .none (by simp) ?_ (by rw [zbl4]<;>lia)
 rw [zad6, ← hlen]
 refine⟨.ref s.heap.objs.size,_,I.laid (t':=s.toks) (o:=.lst (cutV xs lo hi)) (fun b ob q=>zbk0 _ q) (zbl1 _) ?_,rfl,q _ (I.hok.fresh (zbl1 _))⟩
 exact⟨zbk3 (zap4 xs lo hi) hz,_,0,(r.drop (HT.sIx xs.length 0 lo)).take (HT.sIx xs.length xs.length hi - HT.sIx xs.length 0 lo),zbm7 _ rfl⟩
def zu3:V→Bool
 |.non=>true
 |.bl _=>true
 |.int _=>true
 |.str _=>true
 |_=>false
noncomputable def eqV:V→V→Bool
 |.non,.non=>true
 |.bl a,.bl b=>a == b
 |.bl a,.int b=>(if a then 1 else 0) == b
 |.int a,.bl b=>a ==(if b then 1 else 0)
 |.int a,.int b=>a == b
 |.str a,.str b=>a == b
 |_,_=>false
theorem zbe4 {A:Around}{s:zbk7}{y x:V}{u v:Value} (ry:RelV y u) (rx:RelV x v) (fy:zu3 y=true) (fx:zu3 x=true):SeqAt.EqAt A s u v (eqV y x):=by
 cases y with
 |non =>
  cases ry
  cases x with
  |non=>cases rx;exact SeqAt.EqAt.same _
  |bl b=>cases rx;exact SeqAt.EqAt.none_bool b
  |int b=>obtain⟨t,rfl⟩:=rx;exact SeqAt.EqAt.none_int b t
  |str b=>obtain⟨t,rfl⟩:=rx;exact SeqAt.EqAt.none_str b t
  |_=>exact absurd (show false=true from fx) zbl3
 |bl a =>
  cases ry
  cases x with
  |non=>cases rx;exact SeqAt.EqAt.bool_none a
  |bl b=>cases rx;exact SeqAt.EqAt.bool_bool a b
  |int b=>obtain⟨t,rfl⟩:=rx;exact SeqAt.EqAt.bool_int a b t
  |str b=>obtain⟨t,rfl⟩:=rx;exact SeqAt.EqAt.bool_str a b t
  |_=>exact absurd (show false=true from fx) zbl3
 |int a =>
  obtain⟨t',rfl⟩:=ry
  cases x with
  |non=>cases rx;exact SeqAt.EqAt.int_none a t'
  |bl b=>cases rx;exact SeqAt.EqAt.int_bool a t' b
  |int b=>obtain⟨t,rfl⟩:=rx;exact SeqAt.EqAt.int_int a t' b t
  |str b=>obtain⟨t,rfl⟩:=rx;exact SeqAt.EqAt.int_str a t' b t
  |_=>exact absurd (show false=true from fx) zbl3
 |str a =>
  obtain⟨t',rfl⟩:=ry
  cases x with
  |non=>cases rx;exact SeqAt.EqAt.str_none a t'
  |bl b=>cases rx;exact SeqAt.EqAt.str_bool a t' b
  |int b=>obtain⟨t,rfl⟩:=rx;exact SeqAt.EqAt.str_int a t' b t
  |str b=>obtain⟨t,rfl⟩:=rx;exact SeqAt.EqAt.str_str a t' b t
  |_=>exact absurd (show false=true from fx) zbl3
 |_=>exact absurd (show false=true from fy) zbl3
noncomputable def eqU (x:V) (u:Value):Bool:=match u with
 |.none=>eqV .non x
 |.bool b=>eqV (.bl b) x
 |.int i _=>eqV (.int i) x
 |.str z _=>eqV (.str z) x
 |_=>false
theorem eqU_of {x y:V}{u:Value} (r:RelV y u) (f:zu3 y=true):eqU x u=eqV y x:=by
 cases y with
 |non=>cases r;rfl
 |bl b=>cases r;rfl
 |int i=>obtain⟨t,rfl⟩:=r;rfl
 |str z=>obtain⟨t,rfl⟩:=r;rfl
 |_=>exact absurd (show false=true from f) zbl3
theorem zaq1 {x:V}:∀ {xs:List V}{us:List Value},Vals xs us→xs.all zu3=true→us.any (eqU x)=xs.any fun y=>eqV y x
 |_,_,.nil,_=>rfl
 |y::xs,u::us,.cons r t,f=>by
  rw [zbn4,zbj5]at f
  rw [zbq6,zbq6,eqU_of r f.1,zaq1 t f.2]
theorem zae6 {A:Around}{s:zbk7}{x:V}{v:Value} (rx:RelV x v) (fx:zu3 x=true):∀ {xs:List V}{us:List Value},Vals xs us→xs.all zu3=true→∀u∈us,SeqAt.EqAt A s u v (eqU x u)
 |_,_,.nil,_=>fun u hu=>by cases hu
 |y::xs,u::us,.cons r t,f=>fun u' hu=>by
  rw [zbn4,zbj5]at f
  rcases zbj9.mp hu with rfl | hu
  ·rw [eqU_of r f.1];exact zbe4 r rx f.1 fx
  ·exact zae6 rx fx t f.2 u' hu
def inV (x:V) (xs:List V):Bool:=xs.any fun y=>eqV y x
noncomputable def rIn (K:zbj0) (neg:Bool):R2:=fun x y H Q => ∃p xs,y=.ref p∧(SqL K H p xs∨SqT K H p xs)∧zu3 x=true∧xs.all zu3=true∧Q (.bl (if neg then !inV x xs else inV x xs)) H
theorem zah7:OpR X (compareOp .In) (rIn X.K false):=by
 intro pins s σ H x y v u Q I rx ry h
 obtain⟨p,xs,rfl,hq,fx,fs,q⟩:=h
 cases ry
 rcases hq with hq | hq
 ·obtain⟨its,r,pl,hz⟩:=I.list hq
  refine SeqAt.in_listAt (eqU x) pl.isList (fun w hw=>zae6 rx fx r fs w (by simpa using hw)) ⟨.bl _,H,I,rfl,?_⟩
  rw [show its.toArray.any (eqU x)=its.any (eqU x) by simp,zaq1 r fs]
  exact q
 ·obtain⟨its,r,pl,hz⟩:=I.tuple hq
  refine SeqAt.in_tupleAt (eqU x) pl (fun w hw=>zae6 rx fx r fs w (by simpa using hw)) ⟨.bl _,H,I,rfl,?_⟩
  rw [show its.toArray.any (eqU x)=its.any (eqU x) by simp,zaq1 r fs]
  exact q
theorem zak7:zm7 X (.builtin "len") (fun xs H Q => ∃p ys,xs=[.ref p]∧(SqL X.K H p ys∨SqT X.K H p ys)∧Q (.int ys.length) H):=by
 intro pins s σ H xs us Q I r h
 obtain⟨p,ys,rfl,hq,q⟩:=h
 obtain⟨u,rfl,rx⟩:=zw9 r
 cases rx
 have hn:=zai5
 rcases hq with hq | hq
 ·obtain⟨its,r',pl,hz⟩:=I.list hq
  have hlen:=r'.length
  exact Calls.call_len_list pl.isList (by simp only [zbl4]<;>lia) ⟨.int ys.length,H,I.tok _,⟨s.toks+1,by rw [zbl4,hlen]⟩,q⟩
 ·obtain⟨its,r',pl,hz⟩:=I.tuple hq
  have hlen:=r'.length
  exact len_tuple pl (by simp only [zbl4]<;>lia) ⟨.int ys.length,H,I.tok _,⟨s.toks+1,by rw [zbl4,hlen]⟩,q⟩
theorem zak6:zm7 X (.type "list") (fun xs H Q => ∃p ys,xs=[.ref p]∧(SqL X.K H p ys∨SqT X.K H p ys)∧∀l,H l=none→Q (.ref l) (upd H l (.lst ys))):=by
 intro pins s σ H xs us Q I r h
 obtain⟨p,ys,rfl,hq,q⟩:=h
 obtain⟨u,rfl,rx⟩:=zw9 r
 cases rx
 have fin:∀(its:List Value),Vals ys its→ys.length≤sizeLine→∀(h':Heap) (c':Nat),(∀b o',s.heap.get? b=some o'→h'.get? b=some o') →
   h'.get? s.heap.objs.size=some { cls:=.type "list",dict:=none,data:=.seq its.toArray c',slots := #[] }→EP X pins σ Q (.ref s.heap.objs.size) { s with heap:=h' }:=fun its r' hz h' c' kp e =>
  ⟨.ref s.heap.objs.size,_,I.laid (t':=s.toks) kp (zbl1 _) (show ObjOk X.prog X.w _ h' _ (.lst ys) from ⟨hz,its,c',r',e⟩),rfl,q _ (I.hok.fresh (zbl1 _))⟩
 rcases hq with hq | hq
 ·obtain⟨its,r',pl,hz⟩:=I.list hq
  have hlen:=r'.length
  obtain⟨o,ho,hc,n,hd⟩:=pl.isList
  exact call_list_seq p (.inl rfl) ho hc hd (fun h' c' kp e=>fin its r' hz h' c' kp e) (by simp only [zbl4]<;>lia)
 ·obtain⟨its,r',pl,hz⟩:=I.tuple hq
  have hlen:=r'.length
  obtain⟨o,ho,hc,n,hd⟩:=pl
  exact call_list_seq p (.inr rfl) ho hc hd (fun h' c' kp e=>fin its r' hz h' c' kp e) (by simp only [zbl4]<;>lia)
noncomputable def tyV (K:zbj0) (T:String) (x:V) (H:Hp):Prop:=match x with
 |.str _=>T = "str"
 |.int _=>T = "int"
 |.ref p=>(T = "list"∧∃xs,SqL K H p xs)∨(T = "tuple"∧∃o,K.lookup p=some o∧o.cls=.type "tuple"∧o.dict=none) ∨
   (T = "dict"∧((∃kvs,H p=some (.dK kvs))∨∃kvs,H p=some (.dT kvs)))∨(T = "set"∧∃S n,H p=some (.set S n))
 |_=>False
theorem tyV_is {pins:List (Addr×Obj)}{σ:St}{H:Hp}{s:zbk7}{T:String}{x:V}{v:Value} (I:Inv X pins σ H s) (r:RelV x v) (ty:tyV X.K T x H) :
  s.TypeIs v T∧∀a,v=.ref a→∃ob,s.heap.get? a=some ob∧ob.dict=none:=by
 cases x with
 |str z =>
  obtain⟨t,rfl⟩:=r
  cases (show T = "str" from ty)
  exact⟨typeIs_str s z t,fun _ e=>nomatch e⟩
 |int i =>
  obtain⟨t,rfl⟩:=r
  cases (show T = "int" from ty)
  exact⟨typeIs_int s i t,fun _ e=>nomatch e⟩
 |ref p =>
  cases r
  rcases ty with ⟨rfl,xs,hq⟩ | ⟨rfl,o,hk,hc,hd⟩ | ⟨rfl,hk⟩ | ⟨rfl,S,n,hk⟩
  ·obtain⟨its,_,pl,_⟩:=I.list hq
   refine⟨pl.isList.typeIs,fun a e=>?_⟩
   cases e
   obtain⟨o,n,e,c,hd,_⟩:=pl
   exact⟨o,e,hd⟩
  ·refine⟨⟨o,I.kIn p o hk,hc⟩,fun a e=>?_⟩
   cases e
   exact⟨o,I.kIn _ o hk,hd⟩
  ·have z:∃o,s.heap.get? p=some o∧o.ExactDict:=by
    rcases hk with ⟨kvs,hk⟩ | ⟨kvs,hk⟩
    ·obtain⟨_,_,_,_,o,_,_,e,ex,_⟩:=I.hok p _ hk
     exact⟨o,e,ex⟩
    ·obtain⟨_,_,_,_,o,_,_,e,ex,_⟩:=I.hok p _ hk
     exact⟨o,e,ex⟩
   obtain⟨o,e,ex⟩:=z
   refine⟨⟨o,e,ex.1⟩,fun a e2=>?_⟩
   cases e2
   exact⟨o,e,ex.2.1⟩
  ·obtain⟨o,_,_,_,e,ex,_⟩:=I.hok p _ hk
   refine⟨⟨o,e,ex.1⟩,fun a e2=>?_⟩
   cases e2
   exact⟨o,e,ex.2.1⟩
 |_=>exact False.elim ty
noncomputable def tBM (K:zbj0) (T:String) (r:V→List V→Hp→VK→Prop) (to:TE) (t:TA):TE:=fun σ H Q=>to σ H fun x H1=>tyV K T x H1∧t σ H1 fun xs H2=>r x xs H2 Q
variable {o e:Expr}{es:List Expr}{to:TE}{t:TA}{name:Str}{apos cpos:Pos}{T id:String}{r:V→List V→Hp→VK→Prop}
theorem pe_bm (pa:PlainAttrs T) (slot:Slot T name id) (hty:typeOf (.builtin id)=pure (.type "method_descriptor")) (hm:MtR X id r) (ho:PE X o to) (ha:PA X (e::es) t)
  (hbase:attributeBase o name X.env (eval o X.env)=eval o X.env:=by rfl)
  (hfew:((zbs5 cpos (zbl2 (e::es) X.env)).all (fun x=>!x.1)&&(backToKw cpos (keywordEach [] X.env)).all (fun x=>x.1.isSome)
   && decide ((e::es).length+([]:List Keyword).length+(if ([]:List Keyword).isEmpty then 0 else 1)<30))=true:=by rfl)
  (hline:(apos.endLine == cpos.line)=true:=by rfl) (hs:zbl2 (e::es) X.env=(false,eval e X.env)::zbl2 es X.env:=by rfl) (hplain:(zbs5 cpos (zbl2 es X.env)).any (·.1)=false:=by rfl) :
  PE X (.Call (.Attribute o name apos) (e::es) [] cpos) (tBM X.K T r to t):=by
 intro pins s σ H Q I h
 refine wpAny_Call_method_late hbase hfew hline rfl (thn (ho pins s σ H _ I h) fun v s1 ⟨x,H1,I1,r1,ty,q1⟩=>?_)
 obtain⟨h1,h2⟩:=tyV_is I1 r1 ty
 refine⟨T,id,pa,slot,hty,h1,h2,?_⟩
 have hA:=ha cpos pins s1 σ H1 _ I1 q1
 rw [hs]at hA ⊢
 refine Calls.callWith_builtin (by show (false||(zbs5 cpos (zbl2 es X.env)).any (·.1))=false;rw [hplain]<;>rfl) (Calls.evalArgs_plain ?_)
 exact thn hA fun us s2 ⟨vs,H2,I2,r2,q2⟩=>hm pins s2 σ H2 x vs v us Q I2 r1 r2 q2
end
end L2
namespace L2
open PySem.Spec
noncomputable def MtM (X:Cx) (id:String) (r:V→List V→Hp→VK→Prop):Prop :=
 ∀(pins:List (Addr×Obj)) (s:zbk7) (σ:St) (H:Hp) (x:V) (xs:List V) (v:Value) (us:List Value) (Q:VK),Inv X pins σ H s→RelV x v→Vals xs us→r x xs H Q →
  wpAny (model X.prog X.w) X.A (call (.builtin id) (v::us)) (EP X pins σ Q) X.xe s
theorem Vals.one:∀ {x:V}{us:List Value},Vals [x] us→∃u,us=[u]∧RelV x u
 |_,_,.cons r .nil=>⟨_,rfl,r⟩
theorem Vals.two:∀ {x y:V}{us:List Value},Vals [x,y] us→∃u v,us=[u,v]∧RelV x u∧RelV y v
 |_,_,_,.cons r (.cons q .nil)=>⟨_,_,rfl,r,q⟩
theorem Vals.reverse {xs:List V}{us:List Value} (h:Vals xs us):Vals xs.reverse us.reverse:=by
 induction h with
 |nil=>exact .nil
 |cons r t ih=>rw [zbv0,zbv0];exact Vals.append ih (.cons r .nil)
theorem Vals.rep {xs:List V}{us:List Value} (h:Vals xs us):∀k:Nat,Vals (zbj8 k xs).flatten (zbj8 k us).flatten
 |0=>.nil
 |k+1=>by
  rw [zbp3,zbp3,zbt2,zbt2]
  exact Vals.append h (Vals.rep h k)
theorem zaj4 (its:List Value):∀(k:Nat) (acc:List Value),
  zch5 (fun x1 x2=>x1++x2) acc.toArray (zbj8 k its.toArray)=(acc++(zbj8 k its).flatten).toArray
 |0,acc=>by simp
 |k+1,acc=>by
  have e:acc.toArray++its.toArray=(acc++its).toArray:=by simp
  have e2:(acc++its)++(zbj8 k its).flatten=acc++(zbj8 (k+1) its).flatten:=by
   rw [zbp3,zbt2,zbx6]
  rw [← e2, ← zaj4 its k (acc++its), ← e,zbp3,zbr6]
section
variable {X:Cx}{pins:List (Addr×Obj)}{σ:St}{H:Hp}{s:zbk7}{l b:Addr}{xs ys zs:List V}
theorem Inv.lset {its its':List Value}{n:Nat}{f:Array Value→Array Value}{t':Nat} (I:Inv X pins σ H s) (hH:H l=some (.lst xs))
  (e:s.heap.get? l=some { cls:=.type "list",data:=.seq its.toArray n }) (hf:f its.toArray=its'.toArray) (hv:Vals ys its') (hz:ys.length≤sizeLine) :
  Inv X pins σ (upd H l (.lst ys)) { s with heap:=s.heap.update l (Obj.mapSeq f),toks:=t' }:=by
 have q:=PySem.IsL.update e f
 rw [hf]at q
 refine I.write (x:=l) (e:=l) (by rw [hH];exact trivial) (.inl rfl) (fun b' u hb hu=>(zbu7 s.heap (Obj.mapSeq f) (Ne.symm hb)).trans hu) ⟨_,q⟩ ?_
 exact⟨hz,its',_,hv,q⟩
theorem Inv.lnew {its:List Value}{t':Nat} (I:Inv X pins σ H s) (hv:Vals ys its) (hz:ys.length≤sizeLine) :
  Inv X pins σ (upd H s.heap.objs.size (.lst ys)) { s with heap:=s.heap.push { cls:=.type "list",data:=.seq its.toArray },toks:=t' } :=
 I.laid (fun _ _ q=>zbk0 _ q) (zbl1 _) ⟨hz,its,0,hv,zbm7 _ rfl⟩
theorem Inv.fresh (I:Inv X pins σ H s):H s.heap.objs.size=none:=I.hok.fresh (zbl1 _)
theorem Inv.lstM (I:Inv X pins σ H s) (hH:H l=some (.lst xs)):xs.length≤sizeLine∧∃(its:List Value) (n:Nat),Vals xs its∧xs.length=its.length∧s.heap.get? l=some { cls:=.type "list",data:=.seq its.toArray n }:=by
 obtain⟨z,its,n,r,e⟩:=I.hok l _ hH
 exact⟨z,its,n,r,r.length,e⟩
theorem notLongL {n:Nat} (h:n≤sizeLine):Builtin.List.listTooLong n=false:=by
 unfold Builtin.List.listTooLong
 exact decide_eq_false (by lia)
end
section
variable {X:Cx}
noncomputable def rAppend:V→List V→Hp→VK→Prop:=fun x vs H Q => ∃l xs y,x=.ref l∧vs=[y]∧H l=some (.lst xs)∧xs.length<sizeLine∧Q .non (upd H l (.lst (xs++[y])))
theorem zz9:MtM X "list.append" rAppend:=by
 intro pins s σ H x vs v us Q I rx rv h
 obtain⟨l,xs,y,rfl,rfl,hH,hz,q⟩:=h
 cases rx
 obtain⟨u,rfl,ru⟩:=rv.one
 obtain⟨z,its,n,r,hl,e⟩:=I.lstM hH
 refine call_meets F.slot_list_append ⟨_,e,rfl⟩ F.entry_list_append (F.args_list_append_2 _ _) (PySem.list_append l its.toArray n u (by rw [zbl4];lia)) ⟨e,?_⟩
 refine⟨.non,_,I.lset (its':=its++[u]) hH e (by simp) (r.append (.cons ru .nil)) ?_,rfl,q⟩
 rw [zbl8,zbn8]
 lia
noncomputable def rRep:R2:=fun x y H Q => ∃l k xs,x=.ref l∧y=.int k∧H l=some (.lst xs) ∧ -(2 ^ 63)≤k∧k<2 ^ 63∧xs.length*k.toNat≤sizeLine ∧
 ∀p,H p=none→Q (.ref p) (upd H p (.lst (zbj8 k.toNat xs).flatten))
theorem len_rep {α:Type} (xs:List α) (k:Nat):(zbj8 k xs).flatten.length=k*xs.length:=by
 induction k with
 |zero=>simp
 |succ k ih=>rw [zbp3,zbt2,zbl8,ih,Nat.succ_mul,Nat.add_comm]
theorem op_rep:OpR X (binaryOp .Mult) rRep:=by
 intro pins s σ H x y v u Q I rx ry h
 obtain⟨l,k,xs,rfl,rfl,hH,h1,h2,hz,q⟩:=h
 cases rx
 obtain⟨t,rfl⟩:=ry
 obtain⟨z,its,n,r,hl,e⟩:=I.lstM hH
 have hlen:its.toArray.size*k.toNat≤sizeLine:=by rw [zbl4, ← hl];exact hz
 have hcap : ¬ its.toArray.size*k.toNat >(2 ^ 63 - 1) / 8:=by
  have:(sizeLine:Nat)≤(2 ^ 63 - 1) / 8:=by decide
  lia
 have hfit : ¬ (!Builtin.List.listFitsIndex k)=true:=by
  rw [fitsIndex_both h1 h2]
  exact zbl3
 have hlong : ¬ Builtin.List.listTooLong (its.toArray.size*k.toNat)=true:=by
  rw [notLongL hlen]
  exact zbl3
 have hnew:zch5 (fun x1 x2=>x1++x2) #[] (zbj8 (if its.toArray.isEmpty=true then 0 else k.toNat) its.toArray)=(zbj8 k.toNat its).flatten.toArray:=by
  have f0:∀m:Nat,zch5 (fun x1 x2=>x1++x2) #[] (zbj8 m its.toArray)=(zbj8 m its).flatten.toArray:=fun m=>by
   have:=zaj4 its m []
   rw [List.nil_append]at this
   exact this
  rw [f0]
  cases its with
  |nil=>simp
  |cons a r'=>rw [if_neg (by simp)]
 refine wpAny_binaryOp_repeat_ref (T := "list") (U := "int") (by decide) ⟨_,e,rfl⟩ (fun s'=>typeIs_int s' k t) noFill_list_mul F.fills_int_mul F.slot_int_rmul repeat_list F.slot_int_index.lookup
  (call_meets F.slot_int_rmul (typeIs_int s k t) F.entry_int_rmul (F.args_int_rmul_2 _ _) (int___rmul___int_list k t l its.toArray n)
   ⟨e,rfl,⟨_,e,rfl⟩,call_meets F.slot_list_mul ⟨_,e,rfl⟩ F.entry_list_mul (F.args_list_mul_2 _ _) (AutoListH.list___mul___list_int_3 l its.toArray n k t hfit hcap hlong) ⟨e,?_⟩⟩)
 rw [hnew]
 exact⟨.ref _,_,I.lnew (t':=s.toks) (r.rep k.toNat) (by rw [len_rep,zbt6];exact hz),rfl,q _ I.fresh⟩
end
end L2
namespace Att
open PySem.W PySem.Calls
theorem zaa1 {P:Params}{h:Heap}:∀(ns:List Int) (vs:List Value),WellAll P h vs (ns.map WData.int)→IntsAre vs ns:=by
 intro ns
 induction ns with
 |nil =>
  intro vs w
  rw [zcc5]at w
  cases w
  exact .nil
 |cons n ns ih =>
  intro vs w
  rw [zbk4]at w
  cases w with
  |cons a b =>
   cases a
   exact .cons _ _ (ih _ b)
theorem script_of {l:OpenLaw}{n:Nat} (hn:l.most=some n) {P:Params}{h:Heap}{args:List WData}{vals:List Value}
  (hpre:l.row.toRowW.claim.pre args=true) (hwl:WellAll P h vals args) :
  ∃a vs ns,vals=[Value.ref a]∧args=[WData.list (ns.map WData.int)]∧h.get? a=some { cls:=.type "list",data:=.seq vs.toArray }∧IntsAre vs ns∧ns.length≤n:=by
 have hsh:WShape.hasAll [] args [.list .int]=true:=(pre_splitW hpre).1
 have hc:l.pre.holds [] { args:=args }=true:=(pre_splitW hpre).2
 obtain⟨d,r,rfl,h1,h2⟩:=hasAllW_cons hsh
 obtain rfl:=hasAllW_nil h2
 obtain⟨xs,rfl,h3⟩:=hasW_list h1
 obtain⟨ns,rfl⟩:=items_int h3
 have hlen:ns.length≤n:=by
  unfold OpenLaw.pre at hc
  have h4:(WTm.not (.lt (.lit (.int (n:Int))) (.len (.arg 0)))).holds [] { args:=[.list (ns.map .int)] }=true:=by
   have h4:=(holds_andW hc).1
   rw [hn]at h4
   exact h4
  have h5:=condW_of h4 (w_not (w_lt w_lit (w_len_list (w_arg rfl))))
  rw [zbl5]at h5
  refine Nat.le_of_not_lt fun q=>?_
  have q':(n:Int)<((ns.length:Nat):Int):=by lia
  first
   |(rw [decide_eq_true q']at h5;exact absurd h5 (by decide))
   |(simp at h5;lia)
 cases hwl with
 |cons w1 w2 =>
  cases w2
  cases w1 with
  |list ho hall=>exact⟨_,_,ns,rfl,rfl,ho,zaa1 ns _ hall,hlen⟩
theorem post_true (l:OpenLaw) (args:List WData):l.row.toRowW.claim.post args (.bool true) args=true :=
 postW_of (r:=l.row.toRowW) (X:=(true == true))
  (show WShape.has [] (.bool true) .bool=true by first | rfl | decide | simp [WShape.has,WShape.arms,WShape.armsAll])
  (show (WTm.eq .res (.lit (.bool true))).value [] { args:=args,res:=some (.bool true),after:=args }=some (.bool (true == true)) from w_eq_bool (w_res rfl) w_lit) rfl
end Att
namespace L2
open PySem.Spec
theorem zag4:∀ {vs:List Value}{ns:List Int},IntsAre vs ns→Vals (ns.map V.int) vs
 |_,_,.nil=>.nil
 |_,_,.cons n t h=>.cons ⟨t,rfl⟩ (zag4 h)
noncomputable def zm4 (s:Stmt):Arguments:=match s with
 |.FunctionDef _ a _ _ _ _ _ _ _ _=>a
 |_=>{ posonlyargs:=[],args:=[],vararg:=none,kwonlyargs:=[],kw_defaults:=[],kwarg:=none,defaults:=[] }
def zk7 (s:Stmt):List Stmt:=match s with
 |.FunctionDef _ _ b _ _ _ _ _ _ _=>b
 |_=>[]
noncomputable def zb8 (s:Stmt):Scope:=match s with
 |.FunctionDef _ _ _ _ _ _ sc _ _ _=>sc
 |_=>{ kind:=.function,names:=[],isGenerator:=false,isCoroutine:=false }
abbrev CX0:CXT:=fun _ _ _ _ _ _=>False
abbrev E0:XK:=fun _ _ _=>False
theorem pass0 {X:Cx}:zbi7 CX0 X E0:=fun _ _ _ _ _ _ _ h=>h.elim
structure Fun (K:zbj0) (x qual:Str) (st:Stmt) (f:Addr) (fd:FuncData):Prop where
 ex:∃(oc:Value) (od:Option Addr) (kV doc pm:Value) (an:Option Addr) (cdv ct:Value) (osl:Array (Option Value)),
  fd=zbq2 x qual (zm4 st) (zk7 st) (zb8 st) .none kV doc pm an cdv ct∧K.lookup f=some ⟨oc,od,.func fd,osl⟩∧zbx1 K cdv qual=true
 kp:zbo8 K (.ref f)=true
section
variable {P:Program}{w:World}{K:zbj0}{mg:Str→Option Value}{base:BHeap}
theorem Fun.ok {x qual:Str}{st:Stmt}{f:Addr}{fd:FuncData}{N ps:List Str}{k:Nat}{sp:Sp} (F:Fun K x qual st f fd) (S:FnScope N ps (zb8 st)) (len:∀vs H Q E,sp vs H Q E→vs.length=ps.length)
  (hbody:∀(cdv:Value) (A:Around) (outer:List Env) (s:zbk7) (H:Hp) (vs:List V) (Q:VK) (E:XK),Room k (A.deeper (envOfC qual (zb8 st) s.heap.objs.size f cdv))→sp vs H Q E →
   ∃t,PSs (cxOf CX0 P w K mg base N qual (zb8 st) f cdv A outer s H E).nox (zk7 st) t∧t { nx:=fun _ H'=>Q .non H',rt:=Q } (start N vs) H):FnOk P w K mg base CX0 (k+1) f fd ps sp:=by
 obtain⟨oc,od,kV,doc,pm,an,cdv,ct,osl,rfl,lk,hcd⟩:=F.ex
 refine fn_of lk hcd S len fun A outer s H vs Q E hr hsp=>?_
 obtain⟨t,h,q⟩:=hbody cdv A outer s H vs Q E hr hsp
 exact⟨t,h.nox,q⟩
theorem Fun.binds {x qual:Str}{st:Stmt}{f:Addr}{fd:FuncData}{ps:List Str} (F:Fun K x qual st f fd)
  (h:∀(kV doc pm:Value) (an:Option Addr) (cdv ct:Value) (us:List Value),us.length=ps.length→bindArgs (zbq2 x qual (zm4 st) (zk7 st) (zb8 st) .none kV doc pm an cdv ct) ⟨us,[]⟩=pure (ps.zip us)):Binds K fd ps []:=by
 obtain⟨oc,od,kV,doc,pm,an,cdv,ct,osl,rfl,lk,hcd⟩:=F.ex
 exact .all (h kV doc pm an cdv ct)
theorem fun_mk {x qual:Str}{st:Stmt}{f:Addr}{oc:Value}{od an:Option Addr}{osl:Array (Option Value)}{kV doc pm cdv ct:Value} (l:K.lookup f=some ⟨oc,od,.func (zbq2 x qual (zm4 st) (zk7 st) (zb8 st) .none kV doc pm an cdv ct),osl⟩)
  (c:zbx1 K cdv qual=true) (k:zbo8 K (.ref f)=true):Fun K x qual st f (zbq2 x qual (zm4 st) (zk7 st) (zb8 st) .none kV doc pm an cdv ct):=⟨⟨oc,od,kV,doc,pm,an,cdv,ct,osl,rfl,l,c⟩,k⟩
end
theorem iteF {A B:Prop} (h:B):if false=true then A else B:=by
 rw [if_neg zbl3]
 exact h
theorem iteT {A B:Prop} (h:A):if true=true then A else B:=by
 rw [if_pos rfl]
 exact h
def Same (H H':Hp):Prop := ∀b o,H b=some o→H' b=some o
theorem Same.refl (H:Hp):Same H H:=fun _ _ h=>h
theorem Same.trans {H H1 H2:Hp} (a:Same H H1) (b:Same H1 H2):Same H H2:=fun c o h=>b c o (a c o h)
theorem Same.free {H H':Hp} (e:Same H H') {l:Addr} (h:H' l=Option.none):H l=Option.none:=by
 cases q:H l with
 |none=>rfl
 |some o =>
  rw [e l o q]at h
  cases h
theorem Same.seq {K:zbj0}{H H':Hp}{a:Addr}{xs:List V} (e:Same H H') (h:SqL K H a xs):SqL K H' a xs:=by
 rcases h with (h | ⟨o,h⟩) |h
 ·exact .inl (.inl (e _ _ h))
 ·exact .inl (.inr ⟨o,e _ _ h⟩)
 ·exact .inr h
end L2
set_option maxHeartbeats 4000000
namespace L2
open PySem.Spec
section
variable {κ:Type} [DecidableEq κ]
def valV (kvs:List (κ×V)) (k:κ):Option V:=(kvs.find? fun kv=>decide (kv.1=k)).map (·.2)
noncomputable def putK (kvs:List (κ×V)) (k:κ) (v:V):List (κ×V) :=
 if (kvs.any fun kv=>decide (kv.1=k))=true then kvs.map (fun kv=>if kv.1=k then (kv.1,v) else kv) else kvs++[(k,v)]
def dropK (kvs:List (κ×V)) (k:κ):List (κ×V):=kvs.filter fun kv=>decide (kv.1≠k)
theorem zs3 {p:κ×V}{r:List (κ×V)}{k:κ} (e:p.1=k):valV (p::r) k=some p.2:=by simp [valV,zbt0,e]
theorem zs4 {p:κ×V}{r:List (κ×V)}{k:κ} (e : ¬ p.1=k):valV (p::r) k=valV r k:=by simp [valV,zbt0,e]
theorem zx8 (k:κ):∀kvs:List (κ×V),(kvs.any fun kv=>decide (kv.1=k))=(valV kvs k).isSome
 |[]=>rfl
 |p::r=>by
  rw [zbq6]
  by_cases e:p.1=k
  ·simp only [zs3 e,decide_eq_true e,zbx2,zca4]
  ·rw [zs4 e,decide_eq_false e,zcb1];exact zx8 k r
theorem zo4 (kvs:List (κ×V)) (k:κ) (v:V):(putK kvs k v).length≤kvs.length+1:=by
 unfold putK
 split
 ·rw [zbl5];lia
 ·rw [zbl8,zbm4,List.length_nil];lia
theorem RelO.isSome_eq {o:Option V}{u:Option Value} (r:RelO o u):o.isSome=u.isSome:=by
 cases o with
 |none=>cases u with
  |none=>rfl
  |some _=>exact (show False from r).elim
 |some _=>cases u with
  |none=>exact (show False from r).elim
  |some _=>rfl
theorem RelO.getD {o:Option V}{u:Option Value}{d:V}{d':Value} (r:RelO o u) (rd:RelV d d'):RelV (o.getD d) (u.getD d'):=by
 cases o with
 |none=>cases u with
  |none=>exact rd
  |some _=>exact (show False from r).elim
 |some _=>cases u with
  |none=>exact (show False from r).elim
  |some _=>exact r
theorem KV.val {kvs:List (κ×V)}{vs:List (κ×Value)} (r:KV kvs vs) (k:κ):RelO (valV kvs k) (valueAt vs k):=by
 unfold KV at r
 induction r with
 |nil=>exact True.intro
 |@cons p q ps qs h t ih =>
  obtain⟨h1,h2⟩:=h
  by_cases e:p.1=k
  ·have e':q.1=k:=h1.symm.trans e
   have b:valueAt (q::qs) k=some q.2:=by simp [valueAt,zbt0,e']
   rw [zs3 e,b];exact h2
  ·have e' : ¬ q.1=k:=fun z=>e (h1.trans z)
   have b:valueAt (q::qs) k=valueAt qs k:=by simp [valueAt,zbt0,e']
   rw [zs4 e,b];exact ih
theorem KV.any {kvs:List (κ×V)}{vs:List (κ×Value)} (r:KV kvs vs) (k:κ):(kvs.any fun kv=>decide (kv.1=k))=vs.any fun kv=>decide (kv.1=k):=by
 unfold KV at r
 induction r with
 |nil=>rfl
 |cons h t ih=>rw [zbq6,zbq6,ih,h.1]
theorem KV.repl {kvs:List (κ×V)}{vs:List (κ×Value)} (r:KV kvs vs) (k:κ) {y:V}{u:Value} (ry:RelV y u) :
  KV (kvs.map fun kv=>if kv.1=k then (kv.1,y) else kv) (vs.map fun kv=>if kv.1=k then (kv.1,u) else kv):=by
 unfold KV at r ⊢
 induction r with
 |nil=>exact .nil
 |@cons p q ps qs h t ih =>
  rw [zbk4,zbk4]
  refine .cons ?_ ih
  obtain⟨h1,h2⟩:=h
  by_cases e:p.1=k
  ·rw [if_pos e,if_pos (h1.symm.trans e)];exact⟨h1,ry⟩
  ·rw [if_neg e,if_neg (fun z=>e (h1.trans z))];exact⟨h1,h2⟩
theorem KV.put {kvs:List (κ×V)}{vs:List (κ×Value)} (r:KV kvs vs) (k:κ) {y:V}{u:Value} (ry:RelV y u):KV (putK kvs k y) (stored vs k u):=by
 unfold putK stored
 rw [r.any k]
 by_cases e:(vs.any fun kv=>decide (kv.1=k))=true
 ·rw [if_pos e,if_pos e];exact r.repl k ry
 ·rw [if_neg e,if_neg e];exact Paired.snoc r ⟨rfl,ry⟩
theorem KV.drop {kvs:List (κ×V)}{vs:List (κ×Value)} (r:KV kvs vs) (k:κ):KV (dropK kvs k) (without vs k):=by
 unfold KV at r ⊢
 unfold dropK without
 induction r with
 |nil=>exact .nil
 |@cons p q ps qs h t ih =>
  obtain⟨h1,h2⟩:=h
  rw [zcc7,zcc7]
  by_cases e:p.1=k
  ·have a : ¬ decide (p.1≠k)=true:=by simp [e]
   have b : ¬ decide (q.1≠k)=true:=by simp [h1.symm.trans e]
   rw [if_neg a,if_neg b];exact ih
  ·have e' : ¬ q.1=k:=fun z=>e (h1.trans z)
   have a:decide (p.1≠k)=true:=by simp [e]
   have b:decide (q.1≠k)=true:=by simp [e']
   rw [if_pos a,if_pos b];exact .cons ⟨h1,h2⟩ ih
theorem KV.length {kvs:List (κ×V)}{vs:List (κ×Value)} (r:KV kvs vs):kvs.length=vs.length:=Paired.length r
end
theorem zbd0 {P:Program}{w:World}{k:Key}{u:Value} (r:RelV (kV k) u):(zh6 P w).is k u=true:=by
 cases k with
 |inl i=>obtain⟨t,e⟩:=(show ∃t,u=Value.int i t from r);subst e;exact zao3 P w i t
 |inr x=>obtain⟨t,e⟩:=(show ∃t,u=Value.str x t from r);subst e;exact zao2 P w x t
theorem zai9 {P:Program}{w:World}:∀ {ks:List Key}{us:List Value},Vals (ks.map kV) us→ItemsAre (zh6 P w) ks us
 |[],_,r=>by rw [zcc5]at r;cases r;exact .nil
 |k::ks,_,r=>by
  rw [zbk4]at r
  cases r with
  |cons h t=>exact .cons (zbd0 h) (zai9 t)
noncomputable abbrev KT (H:Hp):List (List Key×V)→List (List Key×Addr×Value)→Prop:=Paired fun p q=>p.1=q.1∧H q.2.1=some (.tup (p.1.map kV))∧RelV p.2 q.2.2
theorem KT.val {H:Hp}{kvs:List (List Key×V)}{xs:List (List Key×Addr×Value)} (r:KT H kvs xs) (k:List Key):RelO (valV kvs k) ((atKey xs k).map (·.2)):=by
 induction r with
 |nil=>exact True.intro
 |@cons p q ps qs h t ih =>
  obtain⟨h1,_,h2⟩:=h
  by_cases e:p.1=k
  ·have e':q.1=k:=h1.symm.trans e
   have b:atKey (q::qs) k=some q.2:=by simp [atKey,zbt0,e']
   rw [zs3 e,b];exact h2
  ·have e' : ¬ q.1=k:=fun z=>e (h1.trans z)
   have b:atKey (q::qs) k=atKey qs k:=by simp [atKey,zbt0,e']
   rw [zs4 e,b];exact ih
theorem KT.repl {H:Hp}{kvs:List (List Key×V)}{xs:List (List Key×Addr×Value)} (r:KT H kvs xs) (k:List Key) {y:V}{u:Value} (ry:RelV y u) :
  KT H (kvs.map fun kv=>if kv.1=k then (kv.1,y) else kv) (xs.map (putAt k u)):=by
 induction r with
 |nil=>exact .nil
 |@cons p q ps qs h t ih =>
  rw [zbk4,zbk4]
  refine .cons ?_ ih
  obtain⟨h1,h2,h3⟩:=h
  unfold putAt
  by_cases e:p.1=k
  ·rw [if_pos e,if_pos (h1.symm.trans e)];exact⟨h1,h2,ry⟩
  ·rw [if_neg e,if_neg (fun z=>e (h1.trans z))];exact⟨h1,h2,h3⟩
theorem KT.put {H:Hp}{kvs:List (List Key×V)}{xs:List (List Key×Addr×Value)} (r:KT H kvs xs) (k:List Key) {b:Addr}{y:V}{u:Value} (hb:H b=some (.tup (k.map kV))) (ry:RelV y u) :
  KT H (putK kvs k y) (storedH xs k b u):=by
 have e:(kvs.any fun kv=>decide (kv.1=k))=(atKey xs k).isSome:=by
  rw [zx8,(r.val k).isSome_eq,zcb7]
 unfold putK storedH
 rw [e]
 by_cases q:(atKey xs k).isSome=true
 ·rw [if_pos q,if_pos q];exact r.repl k ry
 ·rw [if_neg q,if_neg q];exact Paired.snoc r ⟨rfl,hb,ry⟩
theorem KT.keeps {H H':Hp}{kvs:List (List Key×V)}{xs:List (List Key×Addr×Value)} (r:KT H kvs xs) (ht:∀b ys,H b=some (.tup ys)→H' b=some (.tup ys)):KT H' kvs xs :=
 Paired.mapP r fun _ _ z=>⟨z.1,ht _ _ z.2.1,z.2.2⟩
section
variable {P:Program}{w:World}{H:Hp}{h:Heap}{a:Addr}
theorem rd_of {u:HO} (ok:HOk P w H h) (e:Rd H a u):ObjOk P w H h a u:=e.ok ok
theorem zaw7 {kvs:List (Key×V)} (ok:HOk P w H h) (e:Rd H a (.dK kvs)):kvs.length≤sizeLine∧(a == sysModules)=false∧∃vs,KV kvs vs∧h.DictOf (zh6 P w) a vs :=
 show ObjOk P w H h a (.dK kvs) from rd_of ok e
theorem dk_of {kvs:List (Key×V)} (ok:HOk P w H h) (e:H a=some (.dK kvs)):kvs.length≤sizeLine∧(a == sysModules)=false∧∃vs,KV kvs vs∧h.DictOf (zh6 P w) a vs:=zaw7 ok (.inl e)
theorem key_of {ks:List Key} (ok:HOk P w H h) (e:H a=some (.tup (ks.map kV))):(tupleKind (zh6 P w)).is h ks a:=by
 obtain⟨_,its,r,o,h1,h2,n,h3⟩:=(show ObjOk P w H h a (.tup (ks.map kV)) from ok a _ e)
 exact⟨o,its.toArray,n,h1,h2,h3,by simpa using zai9 r⟩
theorem zbe6 {kvs:List (List Key×V)} (ok:HOk P w H h) (e:Rd H a (.dT kvs)):kvs.length≤sizeLine∧(a == sysModules)=false ∧
  ∃xs,KT H kvs xs∧h.DictOfH (tupleKind (zh6 P w)) a xs:=by
 obtain⟨z,y,xs,r,o,es,ep,h1,h2,h3,h4,h5⟩:=(show ObjOk P w H h a (.dT kvs) from rd_of ok e)
 refine⟨z,y,xs,r,o,es,ep,h1,h2,h3,h4,fun x hx=>?_,h5⟩
 have all:∀ {l:List (List Key×V)}{m:List (List Key×Addr×Value)},KT H l m→∀x∈m,(tupleKind (zh6 P w)).is h x.1 x.2.1:=by
  intro l m q
  induction q with
  |nil=>intro x hx;exact nomatch hx
  |@cons p q ps qs hq t ih =>
   intro x hx
   rcases zbj9.mp hx with e | hx
   ·subst e
    exact key_of ok (by rw [← hq.1];exact hq.2.1)
   ·exact ih x hx
 exact all r x hx
theorem dt_of {kvs:List (List Key×V)} (ok:HOk P w H h) (e:H a=some (.dT kvs)):kvs.length≤sizeLine∧(a == sysModules)=false ∧
  ∃xs,KT H kvs xs∧h.DictOfH (tupleKind (zh6 P w)) a xs:=zbe6 ok (.inl e)
end
noncomputable def DGet (H:Hp) (a:Addr) (y:V) (r:Option V):Prop :=
 (∃kvs k,Rd H a (.dK kvs)∧y=kV k∧r=valV kvs k)∨∃kvs k b,Rd H a (.dT kvs)∧y=.ref b∧H b=some (.tup (k.map kV))∧r=valV kvs k
noncomputable def DPut (H:Hp) (a:Addr) (y v:V) (H':Hp):Prop :=
 (∃kvs k,H a=some (.dK kvs)∧y=kV k∧kvs.length<sizeLine∧H'=upd H a (.dK (putK kvs k v))) ∨
 ∃kvs k b,H a=some (.dT kvs)∧y=.ref b∧H b=some (.tup (k.map kV))∧kvs.length<sizeLine∧H'=upd H a (.dT (putK kvs k v))
theorem DGet.k {H:Hp}{a:Addr}{kvs:List (Key×V)}{k:Key} (e:H a=some (.dK kvs)):DGet H a (kV k) (valV kvs k):=.inl ⟨kvs,k,.inl e,rfl,rfl⟩
theorem DPut.k {H:Hp}{a:Addr}{kvs:List (Key×V)}{k:Key}{v:V} (e:H a=some (.dK kvs)) (hl:kvs.length<sizeLine):DPut H a (kV k) v (upd H a (.dK (putK kvs k v))):=.inl ⟨kvs,k,e,rfl,hl,rfl⟩
section
variable {X:Cx}{pins:List (Addr×Obj)}{σ:St}{H:Hp}{s:zbk7}{a:Addr}{y v:V}{u r:Value}{o:Option V}{A:Around}{E:Value→zbk7→Prop}
theorem Inv.big (I:Inv X pins σ H s):sysModules<s.heap.objs.size:=by
 have h:mainGlobals<s.heap.objs.size:=(I.mod.glob.keeps I.bk).lt
 exact zbv6 (by decide) h
theorem zbf3 {Q:Value→zbk7→Prop} (hu:A.units+1<cLine) (I:Inv X pins σ H s) (g:DGet H a y (some v)) (ry:RelV y u) (h:∀w' s',Inv X pins σ H s'→RelV v w'→Q w' s') :
  wpAny (model X.prog X.w) A (getItem (.ref a) u) Q E s:=by
 rcases g with ⟨kvs,k,e,ey,l⟩ | ⟨kvs,k,b,e,ey,eb,l⟩
 ·subst ey
  obtain⟨z,hd,vs,rel,dd⟩:=zaw7 I.hok e
  obtain⟨w',hw,rw'⟩:=RelO.some_of (v:=v) (o:=valueAt vs k) (by rw [l];exact rel.val k)
  exact wpAny_getItem_of (zbd0 ry) dd.mapOf hw (h w' _ (I.tok _) rw')
 ·subst ey
  cases (show u=Value.ref b from ry)
  obtain⟨z,hd,xs,rel,dd⟩:=zbe6 I.hok e
  obtain⟨w',hw,rw'⟩:=RelO.some_of (v:=v) (o:=(atKey xs k).map (·.2)) (by rw [l];exact rel.val k)
  obtain⟨p,hp,hp2⟩:=Option.map_eq_some_iff.mp hw
  refine wpAny_getItem_heap (tupleKind_room_in1 hu) (key_of I.hok eb) dd hp ?_
  rw [hp2]
  exact h w' _ (I.tok _) rw'
theorem d_notIn {Q:Value→zbk7→Prop} (hu:A.units+1<cLine) (I:Inv X pins σ H s) (g:DGet H a y o) (ry:RelV y u) (h:∀s',Inv X pins σ H s'→Q (.bool (!o.isSome)) s') :
  wpAny (model X.prog X.w) A (compareOp .NotIn u (.ref a)) Q E s:=by
 rcases g with ⟨kvs,k,e,ey,l⟩ | ⟨kvs,k,b,e,ey,eb,l⟩
 ·subst ey
  obtain⟨z,hd,vs,rel,dd⟩:=zaw7 I.hok e
  refine wpAny_notIn_of (zbd0 ry) hd dd.mapOf ?_
  rw [← (rel.val k).isSome_eq, ← l]
  exact h _ (I.tok _)
 ·subst ey
  cases (show u=Value.ref b from ry)
  obtain⟨z,hd,xs,rel,dd⟩:=zbe6 I.hok e
  refine wpAny_notIn_heap (tupleKind_room_in1 hu) (key_of I.hok eb) hd dd ?_
  have q:=(rel.val k).isSome_eq
  rw [zcb7]at q
  rw [← q, ← l]
  exact h _ (I.tok _)
theorem zaf4 {h':Heap}{t':Nat}{ob:HO} (I:Inv X pins σ H s) (mu:Mut (H a)) (hs:Heap.SameBut a s.heap h') (he:∃q,h'.get? a=some q) (new:ObjOk X.prog X.w (upd H a ob) h' a ob) :
  Inv X pins σ (upd H a ob) { s with heap:=h',toks:=t' } :=
 I.write (x:=a) (e:=a) mu (.inl rfl) (fun b q hb z=>(hs.2 b hb).trans z) he new
theorem zbe8 {P:Program}{w:World}{H':Hp}{h':Heap}{kvs:List (Key×V)}{vs:List (Key×Value)} (z:kvs.length≤sizeLine) (hd:(a == sysModules)=false) (rel:KV kvs vs) (dd:h'.DictOf (zh6 P w) a vs) :
  ObjOk P w H' h' a (.dK kvs):=⟨z,hd,vs,rel,dd⟩
theorem zbf2 {H':Hp}{Q:Unit→zbk7→Prop} (hu:A.units+1<cLine) (I:Inv X pins σ H s) (g:DPut H a y v H') (ry:RelV y u) (rv:RelV v r) (h:∀s',Inv X pins σ H' s'→Q () s') :
  wpAny (model X.prog X.w) A (setItem (.ref a) u r) Q E s:=by
 rcases g with ⟨kvs,k,e,ey,l,eH⟩ | ⟨kvs,k,b,e,ey,eb,l,eH⟩
 ·subst ey eH
  obtain⟨z,hd,vs,rel,dd⟩:=dk_of I.hok e
  have hz:vs.length≤sizeLine:=by rw [← rel.length];exact z
  have hl:(putK kvs k v).length≤sizeLine:=by have:=zo4 kvs k v;lia
  refine wpAny_setItem_pairs (hsz:=hz) (zbd0 ry) dd fun h' dd' hs=>h _ ?_
  have he:∃q,h'.get? a=some q:=let ⟨q,_,_,hq,_⟩:=dd';⟨q,hq⟩
  exact zaf4 I (by rw [e];exact True.intro) hs he (zbe8 hl hd (rel.put k rv) dd')
 ·subst ey eH
  cases (show u=Value.ref b from ry)
  obtain⟨z,hd,xs,rel,dd⟩:=dt_of I.hok e
  have hz:xs.length≤sizeLine:=by rw [← Paired.length rel];exact z
  have hl:(putK kvs k v).length≤sizeLine:=by have:=zo4 kvs k v;lia
  refine wpAny_setItem_heap (hsz:=hz) (tupleKind_room_in1 hu) (key_of I.hok eb) dd fun h' dd' hs=>h _ ?_
  obtain⟨q,es,ep,hq,h2,h3,h4,_,h5⟩:=dd'
  refine zaf4 I (by rw [e];exact True.intro) hs ⟨q,hq⟩ ⟨hl,hd,_,(rel.put k eb rv).keeps fun c ys ec=>?_,q,es,ep,hq,h2,h3,h4,h5⟩
  rw [zc9 (ne_of ec e (fun z=>nomatch z))]
  exact ec
end
section
variable {X:Cx}{pins:List (Addr×Obj)}{σ:St}{H:Hp}{s:zbk7}{a:Addr}{kvs:List (Key×V)}{k:Key}{u:Value}{A:Around}{E:Value→zbk7→Prop}
theorem d_len {Q:Value→zbk7→Prop} (I:Inv X pins σ H s) (e:Rd H a (.dK kvs)) (h:∀t s',Inv X pins σ H s'→Q (.int kvs.length t) s'):wpAny (model X.prog X.w) A (call (.builtin "len") [.ref a]) Q E s:=by
 obtain⟨z,hd,vs,rel,dd⟩:=zaw7 I.hok e
 refine call_len_dict hd dd (by rw [← rel.length];rw [sizeLine_eq]at z;lia) ?_
 rw [← rel.length]
 exact h _ _ (I.tok _)
end
def NoSl (i:Expr):Prop := ∀ov iv,subscripted i false ov iv=operate [ov,iv] (getItem ov iv)
theorem subD_of {prog:Program}{w:World}{A:Around}{E:Value→zbk7→Prop}{s:zbk7}{env:Env}{value slice:Expr}{pos:Pos}{T id:String}{Q:Value→zbk7→Prop}
  (hl:typeLookup (.type T) "__getitem__"=pure (some (.builtin id))) (hs:NoSl slice)
  (h:wpAny (model prog w) A (eval value env) (fun o s₁=>wpAny (model prog w) A (eval slice env) (fun i s₂=>s₂.TypeIs o T∧wpAny (model prog w) A (getItem o i) Q E s₂) E s₁) E s) :
  wpAny (model prog w) A (eval (.Subscript value slice pos) env) Q E s:=by
 refine Subscript_ (wpAny_mono h (fun o s₁ h₁=>wpAny_mono h₁ (fun i s₂ h₂=>?_) fun _ _ x=>x) fun _ _ x=>x)
 obtain⟨hT,h₂⟩:=h₂
 unfold subscriptTail
 refine zbk2 ?_
 rw [getitemInPython_of_ne hT.not_modules]
 refine zbk2 (wpAny_specialOf hT hl ?_)
 have fin:wpAny (model prog w) A (subscripted slice false o i) (fun r s₃=>wpAny (model prog w) A (letTemporaryGo value o r >>= fun _=>pure r) Q E s₃) E s₂:=by
  rw [hs o i]
  exact wpAny_operating (wpAny_mono h₂ (fun r s₃ h₃=>zbk2 (wpAny_letTemporaryGo (zbm0 h₃))) fun _ _ x=>x)
 first
  |exact zbm0 (zbk2 fin)
  |exact zbk2 (zbm0 (zbk2 fin))
  |exact zbk2 fin
theorem zap0 {X:Cx}{pins:List (Addr×Obj)}{σ:St}{H:Hp}{s:zbk7}{a:Addr}{y:V}{o:Option V} (I:Inv X pins σ H s) (g:DGet H a y o):s.TypeIs (.ref a) "dict":=by
 rcases g with ⟨kvs,k,e,_,_⟩ | ⟨kvs,k,b,e,_,_,_⟩
 ·obtain⟨_,_,vs,_,dd⟩:=zaw7 I.hok e
  exact dd.typeIs
 ·obtain⟨_,_,xs,_,dd⟩:=zbe6 I.hok e
  exact dd.typeIs
def tDGet (td ty:TE):TE:=fun σ H Q=>td σ H fun x H1=>ty σ H1 fun y H2 => ∃a v,x=.ref a∧DGet H2 a y (some v)∧Q v H2
noncomputable def sDPut (td ty tv:TE):TS:=fun D σ H=>tv σ H fun v H1=>td σ H1 fun x H2=>ty σ H2 fun y H3 => ∃a H4,x=.ref a∧DPut H3 a y v H4∧D.nx σ H4
section
variable {X:Cx}{o i e value:Expr}{pos pos' tpos:Pos}{td ty tv:TE}
theorem pe_dget (hu:X.A.units+1<cLine) (ho:PE X o td) (hi:PE X i ty) (hs:NoSl i):PE X (.Subscript o i pos) (tDGet td ty):=by
 intro pins s σ H Q I h
 refine subD_of PySem.F.slot_dict_getitem.lookup hs (thn (ho pins s σ H _ I h) fun u s1 ⟨x,H1,I1,rx,q1⟩=>thn (hi pins s1 σ H1 _ I1 q1) fun iv s2 ⟨y,H2,I2,ry,a,v,ex,g,q2⟩=>?_)
 subst ex
 obtain rfl:u=Value.ref a:=rx
 exact⟨zap0 I2 g,zbf3 hu I2 g ry fun w' s3 I3 rw'=>⟨v,H2,I3,rw',q2⟩⟩
theorem zaz5 (hu:X.A.units+1<cLine) (ho:PE X o td) (hi:PE X i ty) (hv:PE X value tv) (hs:swapsWith value (some (.Subscript o i pos')) pos.line X.env=pure false) :
  PS X (.Assign [.Subscript o i pos'] value pos) (sDPut td ty tv):=by
 intro pins s σ H D I h
 refine wpAny_Assign_Subscript (thn (hv pins s σ H _ I h) fun r s1 ⟨v,H1,I1,rv,q1⟩=>thn (ho pins s1 σ H1 _ I1 q1) fun u s2 ⟨x,H2,I2,rx,q2⟩=>thn (hi pins s2 σ H2 _ I2 q2) fun iv s3 ⟨y,H3,I3,ry,a,H4,ex,g,q3⟩=>?_) hs
 subst ex
 obtain rfl:u=Value.ref a:=rx
 exact zbf2 hu I3 g ry rv fun s4 I4=>⟨σ,H4,I4,q3⟩
end
theorem zaf3 {P:Program}{w:World}{H:Hp} (h:Heap) (hb:sysModules<h.objs.size):ObjOk P w H (h.push { cls:=.type "dict",data:=.dict #[] }) h.objs.size (.dK []) :=
 ⟨zbw4 _,beq_eq_false_iff_ne.mpr (Ne.symm (zbl7 hb)),[],.nil,Heap.DictOf.new h⟩
def tDNewK:TE:=fun _ H Q => ∀p,H p=none→Q (.ref p) (upd H p (.dK []))
section
variable {X:Cx}{pos:Pos}
theorem pe_dnewK:PE X (.Dict [] [] pos) tDNewK:=fun pins s σ H Q I h =>
 wpAny_Dict_empty ⟨.ref s.heap.objs.size,_,I.laid (a:=s.heap.objs.size) (o:=.dK []) (t':=s.toks) (fun _ _ q=>zbk0 _ q) (zbl1 _) (zaf3 s.heap I.big),rfl,h _ (I.hok.fresh (zbl1 _))⟩
end
def zw4 (kvs more:List (Key×V)):List (Key×V):=more.foldl (fun acc kv=>putK acc kv.1 kv.2) kvs
theorem KV.merge:∀ {more:List (Key×V)}{rs:List (Key×Value)}{kvs:List (Key×V)}{vs:List (Key×Value)},KV more rs→KV kvs vs→KV (zw4 kvs more) (merged vs rs):=by
 intro more rs kvs vs r
 unfold KV at r
 induction r generalizing kvs vs with
 |nil=>intro q;exact q
 |@cons p q ps qs h t ih =>
  intro r0
  have e:KV (putK kvs p.1 p.2) (stored vs q.1 q.2):=by
   have:=r0.put p.1 h.2
   rw [← h.1];exact this
  exact ih e
theorem zt8:∀(more kvs:List (Key×V)),(zw4 kvs more).length≤kvs.length+more.length
 |[],kvs=>by show kvs.length≤kvs.length+0;lia
 |p::r,kvs=>by
  have h1:=zt8 r (putK kvs p.1 p.2)
  have h2:=zo4 kvs p.1 p.2
  show (zw4 (putK kvs p.1 p.2) r).length≤_
  rw [zbm4];lia
structure M1 (X:Cx) (o:Expr) (m:Str) (apos:Pos) (e:Expr) (cpos:Pos):Prop where
 base:attributeBase o m X.env (eval o X.env)=eval o X.env
 few:((zbs5 cpos (zbl2 [e] X.env)).all (fun x=>!x.1)&&(backToKw cpos (keywordEach [] X.env)).all (fun x=>x.1.isSome)
  && decide (([e]:List Expr).length+([]:List Keyword).length+(if ([]:List Keyword).isEmpty then 0 else 1)<30))=true
 line:(apos.endLine == cpos.line)=true
 trees:zbs5 cpos (zbl2 [e] X.env)=[(false,eval e X.env)]
structure M2 (X:Cx) (o:Expr) (m:Str) (apos:Pos) (e f:Expr) (cpos:Pos):Prop where
 base:attributeBase o m X.env (eval o X.env)=eval o X.env
 few:((zbs5 cpos (zbl2 [e,f] X.env)).all (fun x=>!x.1)&&(backToKw cpos (keywordEach [] X.env)).all (fun x=>x.1.isSome)
  && decide (([e,f]:List Expr).length+([]:List Keyword).length+(if ([]:List Keyword).isEmpty then 0 else 1)<30))=true
 line:(apos.endLine == cpos.line)=true
 trees:zbs5 cpos (zbl2 [e,f] X.env)=[(false,eval e X.env),(false,eval f X.env)]
def IsD (H:Hp) (a:Addr):Prop:=(∃kvs,Rd H a (.dK kvs))∨∃kvs,Rd H a (.dT kvs)
theorem isD_at {X:Cx}{pins:List (Addr×Obj)}{σ:St}{H:Hp}{s:zbk7}{a:Addr} (I:Inv X pins σ H s) (d:IsD H a) :
  s.TypeIs (.ref a) "dict"∧(∀b,Value.ref a=.ref b→∃ob,s.heap.get? b=some ob∧ob.dict=none)∧(a == sysModules)=false:=by
 rcases d with ⟨kvs,e⟩ | ⟨kvs,e⟩
 ·obtain⟨_,hd,vs,_,dd⟩:=zaw7 I.hok e
  refine⟨dd.typeIs,fun b q=>?_,hd⟩
  cases q
  obtain⟨ob,_,_,h1,h2,_⟩:=dd
  exact⟨ob,h1,h2.2.1⟩
 ·obtain⟨_,hd,xs,_,dd⟩:=zbe6 I.hok e
  refine⟨dd.typeIs,fun b q=>?_,hd⟩
  cases q
  obtain⟨ob,_,_,h1,h2,_⟩:=dd
  exact⟨ob,h1,h2.2.1⟩
end L2
namespace L2
open PySem.Spec
section
variable {X:Cx}
theorem zbh7:zm7 X (.builtin "len") (fun xs H Q => ∃a kvs,xs=[V.ref a]∧H a=some (.dK kvs)∧Q (.int kvs.length) H):=by
 intro pins s σ H xs us Q I r h
 obtain⟨a,kvs,rfl,ha,q⟩:=h
 obtain⟨u,rfl,ru⟩:=zw9 r
 cases ru
 exact d_len I (.inl ha) fun t s' I'=>⟨.int kvs.length,H,I',⟨t,rfl⟩,q⟩
end
end L2
namespace DL
open PySem.Spec L2
inductive D where
 |non | bl (b:Bool) |int (i:Int) |str (x:Str) |tup (xs:List D) |lst (xs:List D) |dct (ks:List Key) (ds:List D) |pdc (ps:List (Int×Int))
def mkKV (ks:List Key) (vs:List V):List (Key×V):=ks.zip vs
def pkv (ps:List (Int×Int)):List (List Key×V):=ps.map fun q=>([Sum.inl q.1,Sum.inl q.2],V.bl true)
mutual
inductive Rep (K:zbj0) (H:Hp):D→V→Prop
 |non:Rep K H .non .non
 |bl (b:Bool):Rep K H (.bl b) (.bl b)
 |int (i:Int):Rep K H (.int i) (.int i)
 |str (x:Str):Rep K H (.str x) (.str x)
 |tup {ds:List D}{p:Addr}{vs:List V}:SqT K H p vs→Reps K H ds vs→Rep K H (.tup ds) (.ref p)
 |lst {ds:List D}{p:Addr}{vs:List V}:SqL K H p vs→Reps K H ds vs→Rep K H (.lst ds) (.ref p)
 |dct {ks:List Key}{ds:List D}{p:Addr}{vs:List V}:ks.length=vs.length→H p=some (.dK (mkKV ks vs))→Reps K H ds vs→Rep K H (.dct ks ds) (.ref p)
 |pdc {ps:List (Int×Int)}{p:Addr}:H p=some (.dT (pkv ps))→Rep K H (.pdc ps) (.ref p)
inductive Reps (K:zbj0) (H:Hp):List D→List V→Prop
 |nil:Reps K H [] []
 |cons {d:D}{v:V}{ds:List D}{vs:List V}:Rep K H d v→Reps K H ds vs→Reps K H (d::ds) (v::vs)
end
theorem SqL.mono {K:zbj0}{H H':Hp}{a:Addr}{xs:List V} (e:Same H H') (h:SqL K H a xs):SqL K H' a xs:=e.seq h
theorem SqT.mono {K:zbj0}{H H':Hp}{a:Addr}{xs:List V} (e:Same H H') (h:SqT K H a xs):SqT K H' a xs:=by
 rcases h with (h | ⟨o,h⟩) |h
 ·exact .inl (.inl (e _ _ h))
 ·exact .inl (.inr ⟨o,e _ _ h⟩)
 ·exact .inr h
mutual
theorem Rep.mono {K:zbj0}{H H':Hp} (e:Same H H'):∀ {d:D}{v:V},Rep K H d v→Rep K H' d v
 |_,_,.non=>.non
 |_,_,.bl b=>.bl b
 |_,_,.int i=>.int i
 |_,_,.str x=>.str x
 |_,_,.tup h r=>.tup (SqT.mono e h) (Reps.mono e r)
 |_,_,.lst h r=>.lst (SqL.mono e h) (Reps.mono e r)
 |_,_,.dct l h r=>.dct l (e _ _ h) (Reps.mono e r)
 |_,_,.pdc h=>.pdc (e _ _ h)
theorem Reps.mono {K:zbj0}{H H':Hp} (e:Same H H'):∀ {ds:List D}{vs:List V},Reps K H ds vs→Reps K H' ds vs
 |_,_,.nil=>.nil
 |_,_,.cons h r=>.cons (Rep.mono e h) (Reps.mono e r)
end
theorem Reps.length {K:zbj0}{H:Hp}:∀ {ds:List D}{vs:List V},Reps K H ds vs→vs.length=ds.length
 |_,_,.nil=>rfl
 |_,_,.cons _ r=>by simp [Reps.length r]
theorem Reps.get {K:zbj0}{H:Hp}:∀ {ds:List D}{vs:List V},Reps K H ds vs→∀ {i:Nat}{d:D},ds[i]?=some d→∃v,vs[i]?=some v∧Rep K H d v
 |_,_,.nil,i,d,e=>by simp at e
 |_,_,.cons (v:=v) h r,0,d,e=>by simp at e;subst e;exact⟨v,rfl,h⟩
 |_,_,.cons h r,i+1,d,e=>by
  obtain⟨v,a,b⟩:=Reps.get r (i:=i) (d:=d) (by simpa using e)
  exact⟨v,by simpa using a,b⟩
theorem Reps.getV {K:zbj0}{H:Hp}:∀ {ds:List D}{vs:List V},Reps K H ds vs→∀ {i:Nat}{v:V},vs[i]?=some v→∃d,ds[i]?=some d∧Rep K H d v
 |_,_,.nil,i,d,e=>by simp at e
 |_,_,.cons (d:=d) h r,0,v,e=>by simp at e;subst e;exact⟨d,rfl,h⟩
 |_,_,.cons h r,i+1,v,e=>by
  obtain⟨d,a,b⟩:=Reps.getV r (i:=i) (v:=v) (by simpa using e)
  exact⟨d,by simpa using a,b⟩
theorem Reps.app {K:zbj0}{H:Hp}:∀ {ds:List D}{vs:List V}{es:List D}{us:List V},Reps K H ds vs→Reps K H es us→Reps K H (ds++es) (vs++us)
 |_,_,_,_,.nil,r=>r
 |_,_,_,_,.cons h r,q=>.cons h (Reps.app r q)
theorem Reps.set {K:zbj0}{H:Hp}{d:D}{v:V} (h:Rep K H d v):∀ {ds:List D}{vs:List V} (i:Nat),Reps K H ds vs→Reps K H (ds.set i d) (vs.set i v)
 |_,_,_,.nil=>.nil
 |_,_,0,.cons _ r=>.cons h r
 |_,_,i+1,.cons q r=>.cons q (Reps.set h i r)
theorem Reps.take {K:zbj0}{H:Hp}:∀ {ds:List D}{vs:List V} (n:Nat),Reps K H ds vs→Reps K H (ds.take n) (vs.take n)
 |_,_,0,_=>by simp;exact .nil
 |_,_,n+1,.nil=>by simp;exact .nil
 |_,_,n+1,.cons h r=>by simpa using .cons h (Reps.take n r)
theorem Reps.drop {K:zbj0}{H:Hp}:∀ {ds:List D}{vs:List V} (n:Nat),Reps K H ds vs→Reps K H (ds.drop n) (vs.drop n)
 |_,_,0,r=>by simpa using r
 |_,_,n+1,.nil=>by simp;exact .nil
 |_,_,n+1,.cons h r=>by simpa using Reps.drop n r
theorem Reps.one {K:zbj0}{H:Hp}{d:D}{v:V} (h:Rep K H d v):Reps K H [d] [v]:=.cons h .nil
theorem Reps.ints {K:zbj0}{H:Hp}:∀ns:List Int,Reps K H (ns.map D.int) (ns.map V.int)
 |[]=>.nil
 |n::ns=>.cons (.int n) (Reps.ints ns)
mutual
def flat:D→Bool
 |.lst _=>false
 |.dct _ _=>false
 |.pdc _=>false
 |.tup xs=>flats xs
 |_=>true
def flats:List D→Bool
 |[]=>true
 |d::ds=>flat d&&flats ds
end
def hide (P:List Addr) (H:Hp):Hp:=fun a=>if a∈P then none else H a
theorem zb7 (P:List Addr) (H:Hp):Same (hide P H) H:=fun b o e=>by
 unfold hide at e
 split at e
 ·cases e
 ·exact e
theorem zd0 {P:List Addr}{H:Hp}{a:Addr}{o:HO} (h:H a=some o) (n:a∉P):hide P H a=some o:=by
 unfold hide;rw [if_neg n];exact h
theorem zl8 {P:List Addr}{H:Hp}{a:Addr}{o:HO} (h:hide P H a=some o):a∉P∧H a=some o:=by
 unfold hide at h
 split at h
 ·cases h
 ·exact⟨by assumption,h⟩
theorem hide_nil (H:Hp):hide [] H=H:=by funext a;simp [hide]
theorem zb3 {P P':List Addr} (H:Hp) (h:∀a∈P',a∈P):Same (hide P H) (hide P' H):=fun b o e=>by
 obtain⟨n,e⟩:=zl8 e
 exact zd0 e fun z=>n (h b z)
def mutO:HO→Bool
 |.lst _=>true
 |.dK _=>true
 |.dT _=>true
 |_=>false
abbrev MO:={o:HO // mutO o=true}
def mL (vs:List V):MO:=⟨.lst vs,rfl⟩
def mD (kvs:List (Key×V)):MO:=⟨.dK kvs,rfl⟩
def mT (kvs:List (List Key×V)):MO:=⟨.dT kvs,rfl⟩
def Lists (H:Hp) (P:List Addr):Prop := ∀p∈P,∃o:MO,H p=some o.1
theorem Lists.mono {H H':Hp}{P:List Addr} (h:Lists H P) (e:Same H H'):Lists H' P:=fun p hp=>let ⟨vs,q⟩:=h p hp;⟨vs,e _ _ q⟩
theorem SqT.hid {K:zbj0}{H:Hp}{P:List Addr}{a:Addr}{xs:List V} (m:Lists H P) (h:SqT K H a xs):SqT K (hide P H) a xs:=by
 rcases h with (h | ⟨o,h⟩) |h
 ·exact .inl (.inl (zd0 h fun z=>by obtain⟨⟨vs,w⟩,q⟩:=m _ z;rw [q]at h;cases h;cases w))
 ·exact .inl (.inr ⟨o,zd0 h fun z=>by obtain⟨⟨vs,w⟩,q⟩:=m _ z;rw [q]at h;cases h;cases w⟩)
 ·exact .inr h
mutual
theorem Rep.hid {K:zbj0}{H:Hp}{P:List Addr} (m:Lists H P):∀ {d:D}{v:V},flat d=true→Rep K H d v→Rep K (hide P H) d v
 |_,_,_,.non=>.non
 |_,_,_,.bl b=>.bl b
 |_,_,_,.int i=>.int i
 |_,_,_,.str x=>.str x
 |_,_,f,.tup h r=>.tup (SqT.hid m h) (Reps.hid m (by simpa [flat] using f) r)
 |_,_,f,.lst h r=>by simp [flat]at f
 |_,_,f,.dct _ h r=>by simp [flat]at f
 |_,_,f,.pdc h=>by simp [flat]at f
theorem Reps.hid {K:zbj0}{H:Hp}{P:List Addr} (m:Lists H P):∀ {ds:List D}{vs:List V},flats ds=true→Reps K H ds vs→Reps K (hide P H) ds vs
 |_,_,_,.nil=>.nil
 |_,_,f,.cons h r=>by
  simp [flats]at f
  exact .cons (Rep.hid m f.1 h) (Reps.hid m f.2 r)
end
mutual
inductive RepD (K:zbj0) (H0 H:Hp):D→V→List Addr→Prop
 |flat {d:D}{v:V}:flat d=true→Rep K H0 d v→RepD K H0 H d v []
 |tup {ds:List D}{p:Addr}{vs:List V}{B:List Addr}:SqT K H0 p vs→RepDs K H0 H ds vs B→RepD K H0 H (.tup ds) (.ref p) B
 |lst {ds:List D}{p:Addr}{vs:List V}{B:List Addr}:H p=some (.lst vs)→RepDs K H0 H ds vs B→RepD K H0 H (.lst ds) (.ref p) (p::B)
 |dct {ks:List Key}{ds:List D}{p:Addr}{vs:List V}{B:List Addr}:ks.length=vs.length→H p=some (.dK (mkKV ks vs))→RepDs K H0 H ds vs B→RepD K H0 H (.dct ks ds) (.ref p) (p::B)
 |pdc {ps:List (Int×Int)}{p:Addr}:H p=some (.dT (pkv ps))→RepD K H0 H (.pdc ps) (.ref p) [p]
inductive RepDs (K:zbj0) (H0 H:Hp):List D→List V→List Addr→Prop
 |nil:RepDs K H0 H [] [] []
 |cons {d:D}{v:V}{ds:List D}{vs:List V}{B C:List Addr}:RepD K H0 H d v B→RepDs K H0 H ds vs C→RepDs K H0 H (d::ds) (v::vs) (B++C)
end
mutual
theorem RepD.mono {K:zbj0}{H0 H H0' H':Hp} (e:Same H0 H0'):∀ {d:D}{v:V}{B:List Addr},RepD K H0 H d v B→(∀p∈B,∀o,H p=some o→H' p=some o)→RepD K H0' H' d v B
 |_,_,_,.flat f r,_=>.flat f (Rep.mono e r)
 |_,_,_,.tup h r,k=>.tup (SqT.mono e h) (RepDs.mono e r k)
 |_,_,_,.lst h r,k=>.lst (k _ (zbj7 ..) _ h) (RepDs.mono e r fun p hp=>k p (zbj2 _ hp))
 |_,_,_,.dct l h r,k=>.dct l (k _ (zbj7 ..) _ h) (RepDs.mono e r fun p hp=>k p (zbj2 _ hp))
 |_,_,_,.pdc h,k=>.pdc (k _ (zbj7 ..) _ h)
theorem RepDs.mono {K:zbj0}{H0 H H0' H':Hp} (e:Same H0 H0'):∀ {ds:List D}{vs:List V}{B:List Addr},RepDs K H0 H ds vs B→(∀p∈B,∀o,H p=some o→H' p=some o)→RepDs K H0' H' ds vs B
 |_,_,_,.nil,_=>.nil
 |_,_,_,.cons h r,k=>.cons (RepD.mono e h fun p hp=>k p (zbj1 _ hp)) (RepDs.mono e r fun p hp=>k p (zbi9 _ hp))
end
mutual
theorem RepD.rep {K:zbj0}{H0 H H1:Hp} (e:Same H0 H1):∀ {d:D}{v:V}{B:List Addr},RepD K H0 H d v B→(∀p∈B,∀o,H p=some o→H1 p=some o)→Rep K H1 d v
 |_,_,_,.flat f r,_=>Rep.mono e r
 |_,_,_,.tup h r,k=>.tup (SqT.mono e h) (RepDs.rep e r k)
 |_,_,_,.lst h r,k=>.lst (SqL.of (k _ (zbj7 ..) _ h)) (RepDs.rep e r fun p hp=>k p (zbj2 _ hp))
 |_,_,_,.dct l h r,k=>.dct l (k _ (zbj7 ..) _ h) (RepDs.rep e r fun p hp=>k p (zbj2 _ hp))
 |_,_,_,.pdc h,k=>.pdc (k _ (zbj7 ..) _ h)
theorem RepDs.rep {K:zbj0}{H0 H H1:Hp} (e:Same H0 H1):∀ {ds:List D}{vs:List V}{B:List Addr},RepDs K H0 H ds vs B→(∀p∈B,∀o,H p=some o→H1 p=some o)→Reps K H1 ds vs
 |_,_,_,.nil,_=>.nil
 |_,_,_,.cons h r,k=>.cons (RepD.rep e h fun p hp=>k p (zbj1 _ hp)) (RepDs.rep e r fun p hp=>k p (zbi9 _ hp))
end
mutual
theorem RepD.lists {K:zbj0}{H0 H:Hp}:∀ {d:D}{v:V}{B:List Addr},RepD K H0 H d v B→Lists H B
 |_,_,_,.flat f r=>fun p hp=>by cases hp
 |_,_,_,.tup h r=>RepDs.lists r
 |_,_,_,.lst h r=>fun p hp=>by
  rcases zbj9.mp hp with rfl | hp
  ·exact⟨mL _,h⟩
  ·exact RepDs.lists r p hp
 |_,_,_,.dct _ h r=>fun p hp=>by
  rcases zbj9.mp hp with rfl | hp
  ·exact⟨mD _,h⟩
  ·exact RepDs.lists r p hp
 |_,_,_,.pdc h=>fun p hp=>by
  rw [zbk6]at hp
  subst hp
  exact⟨mT _,h⟩
theorem RepDs.lists {K:zbj0}{H0 H:Hp}:∀ {ds:List D}{vs:List V}{B:List Addr},RepDs K H0 H ds vs B→Lists H B
 |_,_,_,.nil=>fun p hp=>by cases hp
 |_,_,_,.cons h r=>fun p hp=>(zbj4.mp hp).elim (RepD.lists h p) (RepDs.lists r p)
end
mutual
theorem RepD.hid {K:zbj0}{H0 H:Hp}{P:List Addr} (m:Lists H P) (e:Same H0 H):∀ {d:D}{v:V}{B:List Addr},RepD K H0 H d v B→RepD K (hide P H) H d v B
 |_,_,_,.flat f r=>.flat f (Rep.hid m f (Rep.mono e r))
 |_,_,_,.tup h r=>.tup (SqT.hid m (SqT.mono e h)) (RepDs.hid m e r)
 |_,_,_,.lst h r=>.lst h (RepDs.hid m e r)
 |_,_,_,.dct l h r=>.dct l h (RepDs.hid m e r)
 |_,_,_,.pdc h=>.pdc h
theorem RepDs.hid {K:zbj0}{H0 H:Hp}{P:List Addr} (m:Lists H P) (e:Same H0 H):∀ {ds:List D}{vs:List V}{B:List Addr},RepDs K H0 H ds vs B→RepDs K (hide P H) H ds vs B
 |_,_,_,.nil=>.nil
 |_,_,_,.cons h r=>.cons (RepD.hid m e h) (RepDs.hid m e r)
end
theorem RepDs.of_flat {K:zbj0}{H0 H:Hp}:∀ {ds:List D}{vs:List V},flats ds=true→Reps K H0 ds vs→RepDs K H0 H ds vs []
 |_,_,_,.nil=>.nil
 |_,_,f,.cons h r=>by
  simp [flats]at f
  exact .cons (B:=[]) (C:=[]) (.flat f.1 h) (RepDs.of_flat f.2 r)
theorem Lists.app {H:Hp}{P Q:List Addr} (h:Lists H P) (k:Lists H Q):Lists H (P++Q):=fun p hp=>(zbj4.mp hp).elim (h p) (k p)
inductive Ev where
 |cl (d:D) |tm (d:D) |nw (xs:List D) |dn (d:D)
def Ev.d:Ev→D
 |.cl d=>d
 |.tm d=>d
 |.nw xs=>.lst xs
 |.dn d=>d
noncomputable def RepEv (K:zbj0) (F A:List Addr) (H H':Hp):Ev→V→Prop
 |.cl d,v=>Rep K (hide (A++F) H') d v
 |.tm d,v=>Rep K (hide F H') d v
 |.nw xs,v => ∃p vs,v=.ref p∧H p=none∧H' p=some (.lst vs)∧Reps K (hide (p ::(A++F)) H') xs vs
 |.dn d,v => ∃B,B.Nodup∧(∀b∈B,H b=none)∧RepD K (hide (B++(A++F)) H') H' d v B
theorem zb6 {P:List Addr}{H H':Hp} (e:Same H H'):Same (hide P H) (hide P H'):=fun b o h=>by
 obtain⟨n,h⟩:=zl8 h
 exact zd0 (e _ _ h) n
theorem RepEv.mono {K:zbj0}{F A:List Addr}{H H1 H2:Hp}{r:Ev}{v:V} (h:RepEv K F A H H1 r v) (e:Same H1 H2):RepEv K F A H H2 r v:=by
 cases r with
 |cl d=>exact Rep.mono (zb6 e) h
 |tm d=>exact Rep.mono (zb6 e) h
 |nw xs =>
  obtain⟨p,vs,rfl,h1,h2,h3⟩:=h
  exact⟨p,vs,rfl,h1,e _ _ h2,Reps.mono (zb6 e) h3⟩
 |dn d =>
  obtain⟨B,h1,h2,h3⟩:=h
  exact⟨B,h1,h2,RepD.mono (zb6 e) h3 fun p _ o q=>e _ _ q⟩
theorem RepEv.back {K:zbj0}{F A:List Addr}{H0 H H1:Hp}{r:Ev}{v:V} (h:RepEv K F A H H1 r v) (e:Same H0 H):RepEv K F A H0 H1 r v:=by
 cases r with
 |cl d=>exact h
 |tm d=>exact h
 |nw xs =>
  obtain⟨p,vs,rfl,h1,h2,h3⟩:=h
  refine⟨p,vs,rfl,?_,h2,h3⟩
  cases q:H0 p with
  |none=>rfl
  |some o=>rw [e _ _ q]at h1;cases h1
 |dn d =>
  obtain⟨B,h1,h2,h3⟩:=h
  exact⟨B,h1,fun b hb=>Same.free e (h2 b hb),h3⟩
theorem RepEv.full {K:zbj0}{F A:List Addr}{H H':Hp}{r:Ev}{v:V} (h:RepEv K F A H H' r v):Rep K H' r.d v:=by
 cases r with
 |cl d=>exact Rep.mono (zb7 _ _) h
 |tm d=>exact Rep.mono (zb7 _ _) h
 |nw xs =>
  obtain⟨p,vs,rfl,h1,h2,h3⟩:=h
  exact .lst (SqL.of h2) (Reps.mono (zb7 _ _) h3)
 |dn d =>
  obtain⟨B,h1,h2,h3⟩:=h
  exact h3.rep (zb7 _ _) fun _ _ _ q=>q
theorem zd6 {H:Hp}{P:List Addr}{p:Addr} (m:Lists H P) (h:H p=none):p∉P:=fun z=>by
 obtain⟨vs,q⟩:=m _ z
 rw [q]at h;cases h
theorem RepEv.cleanF {K:zbj0}{F A:List Addr}{H H':Hp}{r:Ev}{v:V} (m:Lists H (A++F)) (h:RepEv K F A H H' r v):Rep K (hide F H') r.d v:=by
 cases r with
 |cl d=>exact Rep.mono (zb3 H' fun a z=>zbi9 _ z) h
 |tm d=>exact h
 |nw xs =>
  obtain⟨p,vs,rfl,h1,h2,h3⟩:=h
  have n:p∉F:=fun z=>zd6 m h1 (zbi9 _ z)
  exact .lst (SqL.of (zd0 h2 n)) (Reps.mono (zb3 H' fun a z=>zbj2 _ (zbi9 _ z)) h3)
 |dn d =>
  obtain⟨B,h1,h2,h3⟩:=h
  refine h3.rep (zb3 H' fun a z=>zbi9 _ (zbi9 _ z)) fun b hb o q=>zd0 q fun z=>?_
  exact zd6 m (h2 b hb) (zbi9 _ z)
def Ev.ok:Ev→Bool
 |.cl _=>true
 |.tm d=>flat d
 |.nw _=>true
 |.dn _=>true
theorem RepEv.clean {K:zbj0}{F A:List Addr}{H H':Hp}{r:Ev}{v:V} (m:Lists H (A++F)) (e:Same H H') (h:RepEv K F A H H' r v) (c:r.ok=true):Rep K (hide (A++F) H') r.d v:=by
 cases r with
 |cl d=>exact h
 |tm d =>
  have m':Lists H' (A++F):=m.mono e
  exact Rep.hid m' c (Rep.mono (zb7 _ _) h)
 |nw xs =>
  obtain⟨p,vs,rfl,h1,h2,h3⟩:=h
  have n:p∉A++F:=zd6 m h1
  exact .lst (SqL.of (zd0 h2 n)) (Reps.mono (zb3 H' fun a z=>zbj2 _ z) h3)
 |dn d =>
  obtain⟨B,h1,h2,h3⟩:=h
  exact h3.rep (zb3 H' fun a z=>zbi9 _ z) fun b hb o q=>zd0 q fun z=>zd6 m (h2 b hb) z
inductive Sl where
 |no | val (d:D) |own (xs:List D) |dp (d:D)
abbrev Th:=List Sl
inductive RSl (K:zbj0) (H0 H:Hp):Th→L2.St→List Addr→Prop
 |nil:RSl K H0 H [] [] []
 |no {x:Option V}{t:Th}{σ:L2.St}{A:List Addr}:RSl K H0 H t σ A→RSl K H0 H (.no::t) (x::σ) A
 |val {d:D}{v:V}{t:Th}{σ:L2.St}{A:List Addr}:Rep K H0 d v→RSl K H0 H t σ A→RSl K H0 H (.val d::t) (some v::σ) A
 |own {p:Addr}{vs:List V}{ds:List D}{t:Th}{σ:L2.St}{A:List Addr}:H p=some (.lst vs)→Reps K H0 ds vs→RSl K H0 H t σ A→RSl K H0 H (.own ds::t) (some (.ref p)::σ) (p::A)
 |dp {d:D}{v:V}{B:List Addr}{t:Th}{σ:L2.St}{A:List Addr}:RepD K H0 H d v B→RSl K H0 H t σ A→RSl K H0 H (.dp d::t) (some v::σ) (B++A)
structure RS (K:zbj0) (F:List Addr) (H:Hp) (A:List Addr) (t:Th) (σ:L2.St):Prop where
 mu:Lists H (A++F)
 nd:A.Nodup
 dj:∀p∈A,p∉F
 rel:RSl K (hide (A++F) H) H t σ A
theorem RSl.mono {K:zbj0}{H0 H H0' H':Hp} (e0:Same H0 H0'):∀ {t:Th}{σ:L2.St}{A:List Addr},RSl K H0 H t σ A→(∀p∈A,∀o,H p=some o→H' p=some o)→RSl K H0' H' t σ A:=by
 intro _ _ _ h
 induction h with
 |nil =>
  intro w0
  exact .nil
 |@no _ _ _ _ r ih =>
  intro e
  exact .no (ih e)
 |@val _ _ _ _ _ h r ih =>
  intro e
  exact .val (Rep.mono e0 h) (ih e)
 |@own _ _ _ _ _ _ h1 h2 r ih =>
  intro e
  exact .own (e _ (zbj7 ..) _ h1) (Reps.mono e0 h2) (ih fun p hp=>e p (zbj2 _ hp))
 |@dp _ _ _ _ _ _ h r ih =>
  intro e
  exact .dp (RepD.mono e0 h fun p hp=>e p (zbj1 _ hp)) (ih fun p hp=>e p (zbi9 _ hp))
theorem RS.grow {K:zbj0}{F A:List Addr}{H H':Hp}{t:Th}{σ:L2.St} (h:RS K F H A t σ) (e:Same H H'):RS K F H' A t σ :=
 ⟨h.mu.mono e,h.nd,h.dj,h.rel.mono (zb6 e) fun p _ o q=>e _ _ q⟩
theorem RSl.getVal {K:zbj0}{H0 H:Hp}:∀ {t:Th}{σ:L2.St}{A:List Addr},RSl K H0 H t σ A→∀ {i:Nat}{d:D},t[i]?=some (.val d)→∃v,σ[i]?=some (some v)∧Rep K H0 d v:=by
 intro _ _ _ h
 induction h with
 |nil =>
  intro i d e
  simp at e
 |@no _ _ _ _ r ih =>
  intro i d e
  cases i with
  |zero =>
   simp at e
  |succ i =>
   simpa using ih (i:=i) (by simpa using e)
 |@val _ v _ _ _ h r ih =>
  intro i d e
  cases i with
  |zero =>
   simp at e;subst e;exact⟨v,rfl,h⟩
  |succ i =>
   simpa using ih (i:=i) (by simpa using e)
 |@own _ _ _ _ _ _ _ _ r ih =>
  intro i d e
  cases i with
  |zero =>
   simp at e
  |succ i =>
   simpa using ih (i:=i) (by simpa using e)
 |@dp _ _ _ _ _ _ _ r ih =>
  intro i d e
  cases i with
  |zero =>
   simp at e
  |succ i =>
   simpa using ih (i:=i) (by simpa using e)
theorem RSl.getOwn {K:zbj0}{H0 H:Hp}:∀ {t:Th}{σ:L2.St}{A:List Addr},RSl K H0 H t σ A→∀ {i:Nat}{ds:List D},t[i]?=some (.own ds)→∃p vs,σ[i]?=some (some (.ref p))∧p∈A∧H p=some (.lst vs)∧Reps K H0 ds vs:=by
 intro _ _ _ h
 induction h with
 |nil =>
  intro i d e
  simp at e
 |@no _ _ _ _ r ih =>
  intro i d e
  cases i with
  |zero =>
   simp at e
  |succ i =>
   simpa using ih (i:=i) (by simpa using e)
 |@val _ v _ _ _ h r ih =>
  intro i d e
  cases i with
  |zero =>
   simp at e
  |succ i =>
   simpa using ih (i:=i) (by simpa using e)
 |@own p vs _ _ _ _ h1 h2 r ih =>
  intro i d e
  cases i with
  |zero =>
   simp at e;subst e;exact⟨p,vs,rfl,zbj7 ..,h1,h2⟩
  |succ i =>
   obtain⟨p,vs,a,b,c,f⟩:=ih (i:=i) (ds:=d) (by simpa using e)
   exact⟨p,vs,by simpa using a,zbj2 _ b,c,f⟩
 |@dp _ _ _ _ _ _ _ r ih =>
  intro i d e
  cases i with
  |zero =>
   simp at e
  |succ i =>
   obtain⟨p,vs,a,b,c,f⟩:=ih (i:=i) (ds:=d) (by simpa using e)
   exact⟨p,vs,by simpa using a,zbi9 _ b,c,f⟩
theorem RSl.getDp {K:zbj0}{H0 H:Hp}:∀ {t:Th}{σ:L2.St}{A:List Addr},RSl K H0 H t σ A→A.Nodup→∀ {i:Nat}{d:D},t[i]?=some (.dp d)→∃v B,σ[i]?=some (some v)∧(∀b∈B,b∈A)∧B.Nodup∧RepD K H0 H d v B:=by
 intro _ _ _ h
 induction h with
 |nil =>
  intro n i d e
  simp at e
 |@no _ _ _ _ r ih =>
  intro n i d e
  cases i with
  |zero =>
   simp at e
  |succ i =>
   simpa using ih n (i:=i) (by simpa using e)
 |@val _ v _ _ _ h r ih =>
  intro n i d e
  cases i with
  |zero =>
   simp at e
  |succ i =>
   simpa using ih n (i:=i) (by simpa using e)
 |@own _ _ _ _ _ _ _ _ r ih =>
  intro n i d e
  cases i with
  |zero =>
   simp at e
  |succ i =>
   obtain⟨v,B,a,b,n',c⟩:=ih (zbl6.mp n).2 (i:=i) (d:=d) (by simpa using e)
   exact⟨v,B,by simpa using a,fun x hx=>zbj2 _ (b x hx),n',c⟩
 |@dp _ v B _ _ _ h r ih =>
  intro n i d e
  cases i with
  |zero =>
   simp at e;subst e;exact⟨v,B,rfl,fun x hx=>zbj1 _ hx,(zbl0.mp n).1,h⟩
  |succ i =>
   obtain⟨v,B,a,b,n',c⟩:=ih (zbl0.mp n).2.1 (i:=i) (d:=d) (by simpa using e)
   exact⟨v,B,by simpa using a,fun x hx=>zbi9 _ (b x hx),n',c⟩
structure Gr (A:List Addr) (H:Hp) (A':List Addr) (H':Hp):Prop where
 kp:∀b o,b∉A→H b=some o→H' b=some o
 al:∀b∈A,H' b≠none
 nw:∀b∈A',b∈A∨H b=none
theorem Gr.refl {A:List Addr}{H:Hp} (m:Lists H A):Gr A H A H:=⟨fun _ _ _ h=>h,fun b hb=>by obtain⟨vs,q⟩:=m b hb;rw [q];simp,fun b h=>.inl h⟩
theorem Gr.of_same {A:List Addr}{H H':Hp} (m:Lists H A) (e:Same H H'):Gr A H A H':=⟨fun _ _ _ h=>e _ _ h,fun b hb=>by obtain⟨vs,q⟩:=m b hb;rw [e _ _ q];simp,fun b h=>.inl h⟩
theorem Gr.trans {A A1 A2:List Addr}{H H1 H2:Hp} (a:Gr A H A1 H1) (b:Gr A1 H1 A2 H2):Gr A H A2 H2 where
 kp:=fun x o n h=>b.kp x o (fun z=>by rcases a.nw x z with q | q;exact n q;rw [q]at h;cases h) (a.kp x o n h)
 al:=fun x hx=>by
  by_cases z:x∈A1
  ·exact b.al x z
  ·have:=a.al x hx
   cases q:H1 x with
   |none=>exact absurd q this
   |some o=>rw [b.kp x o z q];simp
 nw:=fun x hx=>by
  rcases b.nw x hx with q | q
  ·exact a.nw x q
  ·by_cases z:x∈A
   ·exact .inl z
   ·refine .inr ?_
    cases w:H x with
    |none=>rfl
    |some o=>rw [a.kp x o z w]at q;cases q
theorem Gr.same {F A A':List Addr}{H H':Hp} (g:Gr A H A' H'):Same (hide (A++F) H) (hide (A'++F) H'):=fun b o h=>by
 obtain⟨n,h⟩:=zl8 h
 have n1:b∉A:=fun z=>n (zbj1 _ z)
 refine zd0 (g.kp b o n1 h) fun z=>?_
 rcases zbj4.mp z with z | z
 ·rcases g.nw b z with q | q
  ·exact n1 q
  ·rw [q]at h;cases h
 ·exact n (zbi9 _ z)
end DL
namespace DL
open PySem.Spec L2
abbrev DE:=Th→Option Ev
noncomputable def dE (K:zbj0) (F:List Addr) (f:DE):TE:=fun σ H Q => ∃A t r,RS K F H A t σ∧f t=some r∧∀v H',Same H H'→RepEv K F A H H' r v→Q v H'
theorem PE.imp {X:Cx}{e:Expr}{t t':TE} (h:PE X e t) (i:∀σ H Q,t' σ H Q→t σ H Q):PE X e t':=fun pins s σ H Q I q=>h pins s σ H Q I (i σ H Q q)
section
variable {X:Cx}{F:List Addr}{a b c:Expr}{fa fb fc:DE}{pos:Pos}
noncomputable def dVar (i:Nat):DE:=fun t=>match t[i]? with
 |some (.val d)=>some (.cl d)
 |some (.own xs)=>some (.tm (.lst xs))
 |some (.dp d)=>some (.tm d)
 |_=>none
theorem za1 (i:Nat) {x:Str} (hN:X.N[i]?=some x:=by rfl) (hv:Vis X.env.scope x:=by first | exact Or.inl rfl | exact Or.inr (Or.inl rfl) |exact Or.inr (Or.inr rfl)) (hd:(x ==("__debug__":Str))=false:=by decide)
  (hcd:(x ==("__classdict__":Str))=false:=by decide):PE X (.Name x pos) (dE X.K F (dVar i)):=by
 refine PE.imp (zt4 (i:=i) hN hv hd hcd) ?_
 rintro σ H Q ⟨A,t,r,R,e,h⟩
 unfold dVar at e
 split at e
 ·rename_i d q
  cases e
  obtain⟨v,h1,h2⟩:=R.rel.getVal q
  exact⟨v,h1,h v H (Same.refl H) h2⟩
 ·rename_i ds q
  cases e
  obtain⟨p,vs,h1,h2,h3,h4⟩:=R.rel.getOwn q
  refine⟨_,h1,h _ H (Same.refl H) ?_⟩
  exact .lst (SqL.of (zd0 h3 (R.dj p h2))) (Reps.mono (zb3 H fun a z=>zbi9 _ z) h4)
 ·rename_i d q
  cases e
  obtain⟨v,B,h1,h2,h0,h3⟩:=R.rel.getDp R.nd q
  refine⟨_,h1,h _ H (Same.refl H) ?_⟩
  exact h3.rep (zb3 H fun a z=>zbi9 _ z) fun b hb o w=>zd0 w (R.dj b (h2 b hb))
 ·cases e
def dC (d:D):DE:=fun _=>some (.cl d)
theorem za3 {i j pos}:PE X (.Constant (.int i) j pos) (dE X.K F (dC (.int i))):=PE.imp pe_int fun σ H Q ⟨A,t,r,R,e,h⟩=>by cases e;exact h _ H (Same.refl H) (.int i)
theorem zg6 {b j pos}:PE X (.Constant (.bool b) j pos) (dE X.K F (dC (.bl b))):=PE.imp pe_bl fun σ H Q ⟨A,t,r,R,e,h⟩=>by cases e;exact h _ H (Same.refl H) (.bl b)
noncomputable def OpD (X:Cx) (F:List Addr) (f:Value→Value→Sem Value) (k:Ev→Ev→Option Ev):Prop :=
 ∀(pins:List (Addr×Obj)) (s:zbk7) (σ:L2.St) (H0 H:Hp) (A:List Addr) (x y:V) (v u:Value) (Q:VK) (r1 r2 r:Ev),Inv X pins σ H s→Lists H0 (A++F)→Same H0 H→RelV x v→RelV y u →
  RepEv X.K F A H0 H r1 x→RepEv X.K F A H0 H r2 y→k r1 r2=some r→(∀z H',Same H H'→RepEv X.K F A H0 H' r z→Q z H')→wpAny (model X.prog X.w) X.A (f v u) (EP X pins σ Q) X.xe s
def d2 (k:Ev→Ev→Option Ev) (fa fb:DE):DE:=fun t=>(fa t).bind fun r1=>(fb t).bind fun r2=>k r1 r2
theorem two {k:Ev→Ev→Option Ev}{σ:L2.St}{H:Hp}{Q:VK} (h:dE X.K F (d2 k fa fb) σ H Q):∃A t r1 r2 r,RS X.K F H A t σ∧fa t=some r1∧fb t=some r2∧k r1 r2=some r ∧
  (∀v H',Same H H'→RepEv X.K F A H H' r v→Q v H')∧dE X.K F fa σ H fun x H1=>dE X.K F fb σ H1 fun y H2=>Same H H2∧RepEv X.K F A H H2 r1 x∧RepEv X.K F A H H2 r2 y:=by
 obtain⟨A,t,r,R,e,h⟩:=h
 unfold d2 at e
 cases e1:fa t with
 |none=>rw [e1]at e;cases e
 |some r1 =>
  cases e2:fb t with
  |none=>rw [e1,e2]at e;cases e
  |some r2 =>
   rw [e1,e2]at e
   exact⟨A,t,r1,r2,r,R,e1,e2,e,h,A,t,r1,R,e1,fun x H1 g1 q1=>⟨A,t,r2,R.grow g1,e2,fun y H2 g2 q2=>⟨g1.trans g2,q1.mono g2,q2.back g1⟩⟩⟩
theorem za7 {op:Operator}{k:Ev→Ev→Option Ev} (ho:OpD X F (binaryOp op) k) (ha:PE X a (dE X.K F fa)) (hb:PE X b (dE X.K F fb)):PE X (.BinOp a op b pos) (dE X.K F (d2 k fa fb)):=by
 intro pins s σ H Q I h
 obtain⟨A,t,r1,r2,r,R,e1,e2,e,h,w⟩:=two h
 refine wpAny_BinOp (bin ha hb I w fun v u s2 x y H2 I2 rx ry q=>?_)
 obtain⟨g,q1,q2⟩:=q
 exact ho pins s2 σ H H2 A x y v u Q r1 r2 r I2 R.mu g rx ry q1 q2 e fun z H' g'=>h z H' (g.trans g')
theorem zr6 {op:CmpOp}{k:Ev→Ev→Option Ev} (ho:OpD X F (compareOp op) k) (ha:PE X a (dE X.K F fa)) (hb:PE X b (dE X.K F fb)) (hm:behindInMarks op b=false:=by first | exact nomark _ | (with_unfolding_all rfl)) :
  PE X (.Compare a [op] [b] pos) (dE X.K F (d2 k fa fb)):=by
 intro pins s σ H Q I h
 obtain⟨A,t,r1,r2,r,R,e1,e2,e,h,w⟩:=two h
 refine wpAny_Compare1 (bin ha hb I w fun v u s2 x y H2 I2 rx ry q=>?_) hm
 obtain⟨g,q1,q2⟩:=q
 exact ho pins s2 σ H H2 A x y v u Q r1 r2 r I2 R.mu g rx ry q1 q2 e fun z H' g'=>h z H' (g.trans g')
noncomputable def kI (C:Int→Int→Bool) (g:Int→Int→D):Ev→Ev→Option Ev:=fun r1 r2=>match r1.d,r2.d with
 |.int i,.int j=>if C i j then some (.cl (g i j)) else none
 |_,_=>none
theorem zf9 {K:zbj0}{H:Hp}{i:Int}{v:V} (h:Rep K H (.int i) v):v=.int i:=by cases h;rfl
theorem zz7 {f:Value→Value→Sem Value}{C:Int→Int→Prop}{g:Int→Int→V}{C':Int→Int→Bool}{g':Int→Int→D} (h:OpR X f (rI C g)) (hc:∀i j,C' i j=true→C i j)
  (hg:∀H i j,Rep X.K H (g' i j) (g i j)):OpD X F f (kI C' g'):=by
 intro pins s σ H0 H A x y v u Q r1 r2 r I m g0 rx ry q1 q2 e hq
 have p1:=q1.full
 have p2:=q2.full
 unfold kI at e
 split at e
 ·rename_i i j d1 d2
  split at e
  ·rename_i c
   cases e
   rw [d1]at p1;rw [d2]at p2
   cases zf9 p1;cases zf9 p2
   exact h pins s σ H _ _ v u Q I rx ry ⟨i,j,rfl,rfl,hc i j c,hq _ H (Same.refl H) (hg _ i j)⟩
  ·cases e
 ·cases e
theorem zau6 {f:Value→Value→Sem Value}{g:Int→Int→V} (h:OpR X f (rI0 g)):OpR X f (rI (fun _ _=>True) g):=fun pins s σ H x y v u Q I rx ry ⟨i,j,e1,e2,_,q⟩=>h pins s σ H x y v u Q I rx ry ⟨i,j,e1,e2,q⟩
def tt2:Int→Int→Bool:=fun _ _=>true
theorem od_add:OpD X F (binaryOp .Add) (kI tt2 fun i j=>.int (i+j)):=zz7 (zau6 op_add) (fun _ _ _=>trivial) fun _ _ _=>.int _
theorem zai1:OpD X F (binaryOp .Sub) (kI tt2 fun i j=>.int (i - j)):=zz7 (zau6 op_sub) (fun _ _ _=>trivial) fun _ _ _=>.int _
def bnd:Nat:=2 ^ 4096
def sm (i:Int):Bool:=decide (i.natAbs<bnd)
def cMul (i j:Int):Bool:=sm i&&sm j
def cDiv (_ j:Int):Bool:=sm j&&decide (j≠0)
theorem zbc1 {n k:Nat} (h:n<2 ^ k):n.log2≤k:=by
 by_cases z:n=0
 ·subst z;simp
 ·exact zbx0 ((Nat.log2_lt z).mpr h)
theorem cMul.ok {i j:Int} (h:cMul i j=true):IntMulOk i j:=by
 simp only [cMul,sm,zbj5,decide_eq_true_eq]at h
 refine mulOk_of_bits (m:=4097) (n:=4097) ?_ ?_ (by decide)
 ·exact intBits_le (zbk9 h.1 (by unfold bnd;exact zbm9 (by decide) (by decide)))
 ·exact intBits_le (zbk9 h.2 (by unfold bnd;exact zbm9 (by decide) (by decide)))
theorem od_mul:OpD X F (binaryOp .Mult) (kI cMul fun i j=>.int (i*j)):=zz7 (C:=IntMulOk) (opI fun _ _ _ _ _ _ _ hc q=>mul_int q hc) (fun _ _ h=>cMul.ok h) fun _ _ _=>.int _
theorem cDiv.ok {i j:Int} (h:cDiv i j=true):j≠0∧j.natAbs.log2<9000:=by
 simp only [cDiv,sm,zbj5,decide_eq_true_eq]at h
 have:=zbc1 h.1
 exact⟨h.2,by lia⟩
theorem zj3:OpD X F (binaryOp .FloorDiv) (kI cDiv fun i j=>.int (i.fdiv j)):=zz7 (C:=fun _ j=>j≠0∧j.natAbs.log2<9000) (opI fun _ _ _ _ _ _ _ hc q=>floordiv_int hc.1 q (.inl (PyProof.noPylong_of_log2 hc.2))) (fun _ _ h=>cDiv.ok h) fun _ _ _=>.int _
def cMod (_ j:Int):Bool:=decide (j≠0)
theorem zd9:OpD X F (binaryOp .Mod) (kI cMod fun i j=>.int (i.fmod j)):=zz7 op_modN (fun i j h=>by simpa [cMod] using h) fun _ _ _=>.int _
def cPow (i j:Int):Bool:=decide (0≤j∧j≤1000∧i.natAbs<18446744073709551616)
theorem zai2:OpD X F (binaryOp .Pow) (kI cPow fun i j=>.int (i ^ j.toNat)):=zz7 op_pow (fun i j h=>by
 simp only [cPow,decide_eq_true_eq]at h
 exact⟨h.1,by lia,by show i.natAbs<2 ^ 64;lia⟩) fun _ _ _=>.int _
theorem zan9:OpD X F (compareOp .Lt) (kI tt2 fun i j=>.bl (decide (i<j))):=zz7 (zau6 op_lt) (fun _ _ _=>trivial) fun _ _ _=>.bl _
theorem od_le:OpD X F (compareOp .LtE) (kI tt2 fun i j=>.bl (decide (i≤j))):=zz7 (zau6 op_le) (fun _ _ _=>trivial) fun _ _ _=>.bl _
theorem zba6:OpD X F (compareOp .Gt) (kI tt2 fun i j=>.bl (decide (j<i))):=zz7 (zau6 op_gt) (fun _ _ _=>trivial) fun _ _ _=>.bl _
def kOr (k k':Ev→Ev→Option Ev):Ev→Ev→Option Ev:=fun r1 r2=>match k r1 r2 with
 |some r=>some r
 |none=>k' r1 r2
theorem OpD.or {f:Value→Value→Sem Value}{k k':Ev→Ev→Option Ev} (h:OpD X F f k) (h':OpD X F f k'):OpD X F f (kOr k k'):=by
 intro pins s σ H0 H A x y v u Q r1 r2 r I m g0 rx ry q1 q2 e hq
 unfold kOr at e
 split at e
 ·rename_i z
  cases e
  exact h pins s σ H0 H A x y v u Q r1 r2 _ I m g0 rx ry q1 q2 z hq
 ·exact h' pins s σ H0 H A x y v u Q r1 r2 _ I m g0 rx ry q1 q2 e hq
def d1 (k:Ev→Option Ev) (fa:DE):DE:=fun t=>(fa t).bind k
def kNeg:Ev→Option Ev:=fun r=>match r.d with
 |.int i=>some (.cl (.int (-i)))
 |_=>none
theorem zae4 (ha:PE X a (dE X.K F fa)):PE X (.UnaryOp .USub a pos) (dE X.K F (d1 kNeg fa)):=by
 refine PE.imp (pe_un un_neg ha) ?_
 rintro σ H Q ⟨A,t,r,R,e,h⟩
 unfold d1 at e
 cases e1:fa t with
 |none=>rw [e1]at e;cases e
 |some r1 =>
  rw [e1]at e
  refine⟨A,t,r1,R,e1,fun x H1 g1 q1=>?_⟩
  have e:kNeg r1=some r:=e
  unfold kNeg at e
  split at e
  ·rename_i i z
   cases e
   have p:=q1.full
   rw [z]at p
   exact⟨i,zf9 p,h _ H1 g1 (.int _)⟩
  ·cases e
end
end DL
namespace DL
open PySem.Spec L2
inductive RepEvs (K:zbj0) (F A:List Addr) (H H':Hp):List Ev→List V→Prop
 |nil:RepEvs K F A H H' [] []
 |cons {r:Ev}{v:V}{rs:List Ev}{vs:List V}:RepEv K F A H H' r v→RepEvs K F A H H' rs vs→RepEvs K F A H H' (r::rs) (v::vs)
theorem RepEvs.back {K:zbj0}{F A:List Addr}{H0 H H1:Hp} (e:Same H0 H):∀ {rs:List Ev}{vs:List V},RepEvs K F A H H1 rs vs→RepEvs K F A H0 H1 rs vs
 |_,_,.nil=>.nil
 |_,_,.cons h r=>.cons (h.back e) (RepEvs.back e r)
theorem RepEvs.full {K:zbj0}{F A:List Addr}{H H':Hp}:∀ {rs:List Ev}{vs:List V},RepEvs K F A H H' rs vs→Reps K H' (rs.map Ev.d) vs
 |_,_,.nil=>.nil
 |_,_,.cons h r=>.cons h.full (RepEvs.full r)
theorem RepEvs.cleanF {K:zbj0}{F A:List Addr}{H H':Hp} (m:Lists H (A++F)):∀ {rs:List Ev}{vs:List V},RepEvs K F A H H' rs vs→Reps K (hide F H') (rs.map Ev.d) vs
 |_,_,.nil=>.nil
 |_,_,.cons h r=>.cons (h.cleanF m) (RepEvs.cleanF m r)
theorem RepEvs.clean {K:zbj0}{F A:List Addr}{H H':Hp} (m:Lists H (A++F)) (e:Same H H'):∀ {rs:List Ev}{vs:List V},RepEvs K F A H H' rs vs→rs.all Ev.ok=true→Reps K (hide (A++F) H') (rs.map Ev.d) vs
 |_,_,.nil,_=>.nil
 |_,_,.cons h r,c=>by
  simp only [zbn4,zbj5]at c
  exact .cons (h.clean m e c.1) (RepEvs.clean m e r c.2)
abbrev DA:=Th→Option (List Ev)
noncomputable def dA (K:zbj0) (F:List Addr) (f:DA):TA:=fun σ H Q => ∃A t rs,RS K F H A t σ∧f t=some rs∧∀vs H',Same H H'→RepEvs K F A H H' rs vs→Q vs H'
theorem PA.imp {X:Cx}{e:List Expr}{t t':TA} (h:PA X e t) (i:∀σ H Q,t' σ H Q→t σ H Q):PA X e t':=fun pos pins s σ H Q I q=>h pos pins s σ H Q I (i σ H Q q)
def dNil:DA:=fun _=>some []
def za2 (f:DE) (g:DA):DA:=fun t=>(f t).bind fun r=>(g t).bind fun rs=>some (r::rs)
section
variable {X:Cx}{F:List Addr}{a b c:Expr}{es:List Expr}{fa fb fc:DE}{g:DA}{pos:Pos}
theorem za4:PA X [] (dA X.K F dNil):=PA.imp zp0 fun σ H Q ⟨A,t,rs,R,e,h⟩=>by cases e;exact h [] H (Same.refl H) .nil
theorem za0 (ha:PE X a (dE X.K F fa)) (hr:PA X es (dA X.K F g)) (hs:zbl2 (a::es) X.env=(false,eval a X.env)::zbl2 es X.env:=by rfl):PA X (a::es) (dA X.K F (za2 fa g)):=by
 refine PA.imp (zj2 ha hr hs) ?_
 rintro σ H Q ⟨A,t,rs,R,e,h⟩
 unfold za2 at e
 cases e1:fa t with
 |none=>rw [e1]at e;cases e
 |some r1 =>
  cases e2:g t with
  |none=>rw [e1,e2]at e;cases e
  |some rs2 =>
   rw [e1,e2]at e
   cases e
   exact⟨A,t,r1,R,e1,fun x H1 g1 q1=>⟨A,t,rs2,R.grow g1,e2,fun xs H2 g2 q2=>h _ _ (g1.trans g2) (.cons (q1.mono g2) (q2.back g1))⟩⟩
noncomputable def kTup:List Ev→Option Ev:=fun rs=>if rs.length≤1000 then (if rs.all Ev.ok then some (.cl (.tup (rs.map Ev.d))) else some (.tm (.tup (rs.map Ev.d)))) else none
def dT1 (k:List Ev→Option Ev) (g:DA):DE:=fun t=>(g t).bind k
theorem RepEvs.length {K:zbj0}{F A:List Addr}{H H':Hp}:∀ {rs:List Ev}{vs:List V},RepEvs K F A H H' rs vs→vs.length=rs.length
 |_,_,.nil=>rfl
 |_,_,.cons _ r=>by simp [RepEvs.length r]
theorem le_line {n:Nat} (h:n≤100000):n≤sizeLine:=zbk3 h (by rw [sizeLine_eq];decide)
theorem zd4 {H:Hp}{p:Addr}{o:HO} (h:H p=none):Same H (upd H p o):=fun b u e=>by rw [zc9 (fun z=>by rw [z,h]at e;cases e)];exact e
theorem ze1 {x1} (h:PA X es (dA X.K F g)):PE X (.Tuple es x1 pos) (dE X.K F (dT1 kTup g)):=by
 refine PE.imp (pe_tup h) ?_
 rintro σ H Q ⟨A,t,r,R,e,h⟩
 unfold dT1 at e
 cases e1:g t with
 |none=>rw [e1]at e;cases e
 |some rs =>
  rw [e1]at e
  have e:kTup rs=some r:=e
  unfold kTup at e
  split at e
  case isFalse=>cases e
  rename_i hl
  refine⟨A,t,rs,R,e1,fun vs H1 g1 q1=>⟨by rw [q1.length];exact le_line (by lia),fun p hp=>?_⟩⟩
  have s1:=zd4 (o:=HO.tup vs) hp
  refine h _ _ (g1.trans s1) ?_
  have np:p∉A++F:=zd6 (R.mu.mono g1) hp
  split at e
  ·rename_i c
   cases e
   exact .tup (SqT.of (zd0 zc1 np)) (Reps.mono (zb6 s1) (q1.clean R.mu g1 c))
  ·cases e
   exact .tup (SqT.of (zd0 zc1 fun z=>np (zbi9 _ z))) (Reps.mono (zb6 s1) (q1.cleanF R.mu))
def kLst:List Ev→Option Ev:=fun rs=>if rs.length≤1000∧rs.all Ev.ok then some (.nw (rs.map Ev.d)) else none
theorem zk2 {P:List Addr}{H:Hp}{p:Addr}{o:HO} (h:H p=none):Same (hide P H) (hide (p::P) (upd H p o)):=fun b u e=>by
 obtain⟨n,e⟩:=zl8 e
 have nb:b≠p:=fun z=>by rw [z,h]at e;cases e
 refine zd0 (by rw [zc9 nb];exact e) fun z=>?_
 rcases zbj9.mp z with z | z
 ·exact nb z
 ·exact n z
theorem zc6 (h:PA X es (dA X.K F g)):PE X (.List es pos) (dE X.K F (dT1 kLst g)):=by
 refine PE.imp (pe_lst h) ?_
 rintro σ H Q ⟨A,t,r,R,e,h⟩
 unfold dT1 at e
 cases e1:g t with
 |none=>rw [e1]at e;cases e
 |some rs =>
  rw [e1]at e
  have e:kLst rs=some r:=e
  unfold kLst at e
  split at e
  case isFalse=>cases e
  rename_i hl
  cases e
  refine⟨A,t,rs,R,e1,fun vs H1 g1 q1=>⟨by rw [q1.length];exact le_line (by lia),fun p hp=>?_⟩⟩
  have s1:=zd4 (o:=HO.lst vs) hp
  refine h _ _ (g1.trans s1) ⟨p,vs,rfl,?_,zc1,Reps.mono (zk2 hp) (q1.clean R.mu g1 hl.2)⟩
  exact Same.free g1 hp
noncomputable def spD (K:zbj0) (G:List D→Option Ev):Sp:=fun vs H Q _ => ∃Fo ds r,Lists H Fo∧Reps K (hide Fo H) ds vs∧G ds=some r∧∀v H',Same H H'→RepEv K Fo [] H H' r v→Q v H'
noncomputable def upEv (ok:Bool) (r:Ev):Ev:=if ok then (match r with
  |.cl d=>.cl d
  |.tm d=>.cl d
  |.nw xs=>.nw xs
  |.dn d=>.dn d) else match r with
  |.cl d=>if flat d then .cl d else .tm d
  |.tm d=>if flat d then .cl d else .tm d
  |.nw xs=>if flats xs then .nw xs else .tm (.lst xs)
  |.dn d=>.dn d
def zc3 (G:List D→Option Ev):List Ev→Option Ev:=fun rs=>(G (rs.map Ev.d)).map (upEv (rs.all Ev.ok))
theorem call_up {K:zbj0}{A:List Addr}{G:List D→Option Ev}{H0 H:Hp}{rs:List Ev}{r:Ev}{vs:List V}{Q:VK}{E:XK} (m:Lists H0 (A++F)) (g:Same H0 H) (q:RepEvs K F A H0 H rs vs) (e:zc3 G rs=some r)
  (h:∀v H',Same H H'→RepEv K F A H0 H' r v→Q v H'):spD K G vs H Q E:=by
 unfold zc3 at e
 cases e1:G (rs.map Ev.d) with
 |none=>rw [e1]at e;cases e
 |some r0 =>
  rw [e1]at e
  have e:upEv (rs.all Ev.ok) r0=r:=by simpa using e
  have mH:=m.mono g
  by_cases c:rs.all Ev.ok=true
  ·refine⟨A++F,rs.map Ev.d,r0,mH,q.clean m g c,e1,fun v H' g' w=>h v H' g' ?_⟩
   rw [c]at e
   subst e
   cases r0 with
   |cl d=>exact w
   |tm d=>exact w
   |nw xs =>
    obtain⟨p,us,rfl,h1,h2,h3⟩:=w
    exact⟨p,us,rfl,Same.free g h1,h2,h3⟩
   |dn d =>
    obtain⟨B,h1,h2,h3⟩:=w
    exact⟨B,h1,fun b hb=>Same.free g (h2 b hb),h3⟩
  ·refine⟨F,rs.map Ev.d,r0,fun p hp=>mH p (zbi9 _ hp),q.cleanF m,e1,fun v H' g' w=>h v H' g' ?_⟩
   have c:rs.all Ev.ok=false:=by simpa using c
   rw [c]at e
   subst e
   have m':=mH.mono g'
   cases r0 with
   |cl d =>
    show RepEv K F A H0 H' (if flat d then .cl d else .tm d) v
    split
    ·rename_i f;exact Rep.hid m' f (Rep.mono (zb7 _ _) w)
    ·exact w
   |tm d =>
    show RepEv K F A H0 H' (if flat d then .cl d else .tm d) v
    split
    ·rename_i f;exact Rep.hid m' f (Rep.mono (zb7 _ _) w)
    ·exact w
   |nw xs =>
    obtain⟨p,us,rfl,h1,h2,h3⟩:=w
    have np:p∉A++F:=zd6 mH h1
    show RepEv K F A H0 H' (if flats xs then .nw xs else .tm (.lst xs)) _
    split
    ·rename_i f
     refine⟨p,us,rfl,Same.free g h1,h2,Reps.hid (P:=p ::(A++F)) (fun b hb=>?_) f (Reps.mono (zb7 _ _) h3)⟩
     rcases zbj9.mp hb with rfl | hb
     ·exact⟨mL us,h2⟩
     ·exact m' b hb
    ·exact .lst (SqL.of (zd0 h2 fun z=>np (zbi9 _ z))) (Reps.mono (zb3 H' fun b z=>zbj2 _ z) h3)
   |dn d =>
    obtain⟨B,h1,h2,h3⟩:=w
    exact⟨B,h1,fun b hb=>Same.free g (h2 b hb),h3.hid (h3.lists.app m') (zb7 _ _)⟩
theorem ped_call {k:Nat}{f:Addr}{fd:FuncData}{ps:List Str}{G:List D→Option Ev}{x:Str}{p:Pos} (Fn:FnOk X.prog X.w X.K X.mg X.base CX0 k f fd ps (spD X.K G)) (hr:Room k X.A) (hg:Gl X x) (hm:X.mg x=some (.ref f)) (hk:zbo8 X.K (.ref f)=true)
  (hb:Binds X.K fd ps []) (ha:PA X (a::es) (dA X.K F g)) (hdb:(x ==("__debug__":Str))=false:=by decide) (he:zbl2 (a::es) X.env=(false,eval a X.env)::zbl2 es X.env:=by rfl)
  (hpl:(zbs5 pos (zbl2 es X.env)).any (·.1)=false:=by rfl):PE X (.Call (.Name x p) (a::es) [] pos) (dE X.K F (dT1 (zc3 G) g)):=by
 refine PE.imp (pe_call Fn hr hg hm hk hb .nil (E:=E0) pass0 ha hdb he hpl) ?_
 rintro σ H Q ⟨A,t,r,R,e,h⟩
 unfold dT1 at e
 cases e1:g t with
 |none=>rw [e1]at e;cases e
 |some rs =>
  rw [e1]at e
  refine⟨A,t,rs,R,e1,fun vs H1 g1 q1=>?_⟩
  show spD X.K G (vs++[]) H1 Q E0
  rw [zbu6]
  exact call_up R.mu g1 q1 e fun v H' g' w=>h v H' (g1.trans g') w
noncomputable def CallD (X:Cx) (F:List Addr) (f:Value) (k:List Ev→Option Ev):Prop :=
 ∀(pins:List (Addr×Obj)) (s:zbk7) (σ:L2.St) (H0 H:Hp) (A:List Addr) (xs:List V) (us:List Value) (Q:VK) (rs:List Ev) (r:Ev),Inv X pins σ H s→Lists H0 (A++F)→Same H0 H→Vals xs us→RepEvs X.K F A H0 H rs xs→k rs=some r →
  (∀z H',Same H H'→RepEv X.K F A H0 H' r z→Q z H')→wpAny (model X.prog X.w) X.A (call f us) (EP X pins σ Q) X.xe s
theorem PA.run (ha:PA X es (dA X.K F g)) {k:List Ev→Option Ev}{f:Value} (hc:CallD X F f k) {pins:List (Addr×Obj)}{s:zbk7}{σ:L2.St}{H:Hp}{Q:VK} (p:Pos) (I:Inv X pins σ H s) (h:dE X.K F (dT1 k g) σ H Q) :
  wpAny (model X.prog X.w) X.A (spliced (zbs5 p (zbl2 es X.env))) (fun us s1=>wpAny (model X.prog X.w) X.A (call f us) (EP X pins σ Q) X.xe s1) X.xe s:=by
 obtain⟨A,t,r,R,e,h⟩:=h
 unfold dT1 at e
 cases e1:g t with
 |none=>rw [e1]at e;cases e
 |some rs =>
  rw [e1]at e
  refine thn (ha p pins s σ H (fun vs H1=>Same H H1∧RepEvs X.K F A H H1 rs vs) I ⟨A,t,rs,R,e1,fun vs H1 g1 q1=>⟨g1,q1⟩⟩) fun us s1 ⟨vs,H1,I1,r1,g1,q1⟩=>?_
  exact hc pins s1 σ H H1 A vs us Q rs r I1 R.mu g1 r1 q1 e fun z H' g'=>h z H' (g1.trans g')
theorem zc0 {k:List Ev→Option Ev}{x:Str}{p:Pos}{id:String} (hc:CallD X F (.builtin id) k) (hg:Gl X x) (hm:X.mg x=none) (hv:bootBuiltins x=some (.builtin id)) (ha:PA X (a::es) (dA X.K F g)) (hn:x≠"__name__":=by decide) (hdb:(x ==("__debug__":Str))=false:=by decide)
  (he:zbl2 (a::es) X.env=(false,eval a X.env)::zbl2 es X.env:=by rfl) (hpl:(zbs5 pos (zbl2 es X.env)).any (·.1)=false:=by rfl):PE X (.Call (.Name x p) (a::es) [] pos) (dE X.K F (dT1 k g)):=by
 intro pins s σ H Q I h
 refine wpAny_Call_Name_kw (zp1 I hg hm hv ?_ hn hdb)
 exact PyProof.Rows.callWith_builtin1 (PA.run ha hc pos I h) he hpl
theorem zp6 {k:List Ev→Option Ev}{x:Str}{p:Pos}{T:String} (hc:CallD X F (.type T) k) (hg:Gl X x) (hm:X.mg x=none) (hv:bootBuiltins x=some (.type T)) (ha:PA X (a::es) (dA X.K F g)) (hn:x≠"__name__":=by decide) (hdb:(x ==("__debug__":Str))=false:=by decide)
  (he:zbl2 (a::es) X.env=(false,eval a X.env)::zbl2 es X.env:=by rfl) (hpl:(zbs5 pos (zbl2 es X.env)).any (·.1)=false:=by rfl):PE X (.Call (.Name x p) (a::es) [] pos) (dE X.K F (dT1 k g)):=by
 intro pins s σ H Q I h
 refine wpAny_Call_Name_kw (zp1 I hg hm hv ?_ hn hdb)
 exact PyProof.Rows.callWith_type1 (PA.run ha hc pos I h) he hpl
theorem CallD.of {f:Value}{r:List V→Hp→VK→Prop}{k:List Ev→Option Ev} (h:zm7 X f r)
  (i:∀(H0 H:Hp) (A:List Addr) (xs:List V) (rs:List Ev) (e:Ev) (Q:VK),Lists H0 (A++F)→Same H0 H→RepEvs X.K F A H0 H rs xs→k rs=some e→(∀z H',Same H H'→RepEv X.K F A H0 H' e z→Q z H')→r xs H Q):CallD X F f k :=
 fun pins s σ H0 H A xs us Q rs e I m g v q ek hq=>h pins s σ H xs us Q I v (i H0 H A xs rs e Q m g q ek hq)
noncomputable def kAbs:List Ev→Option Ev:=fun rs=>match rs with
 |[r]=>(match r.d with
  |.int i=>some (.cl (.int (if i<0 then -i else i)))
  |_=>none)
 |_=>none
theorem cd_abs:CallD X F (.builtin "abs") kAbs:=CallD.of call_abs fun H0 H A xs rs e Q m g q ek hq=>by
 unfold kAbs at ek
 split at ek
 ·rename_i r
  split at ek
  ·rename_i i z
   cases ek
   cases q with
   |cons q1 q2 =>
    cases q2
    have p:=q1.full
    rw [z]at p
    cases zf9 p
    exact⟨i,rfl,hq _ H (Same.refl H) (.int _)⟩
  ·cases ek
 ·cases ek
noncomputable def kLen:List Ev→Option Ev:=fun rs=>match rs with
 |[r]=>(match r.d with
  |.lst xs=>some (.cl (.int xs.length))
  |.tup xs=>some (.cl (.int xs.length))
  |_=>none)
 |_=>none
theorem zi6:CallD X F (.builtin "len") kLen:=CallD.of zak7 fun H0 H A xs rs e Q m g q ek hq=>by
 unfold kLen at ek
 split at ek
 ·rename_i r
  cases q with
  |cons q1 q2 =>
   cases q2
   have p:=q1.full
   split at ek
   ·rename_i ds z
    cases ek
    rw [z]at p
    cases p with
    |lst h1 h2=>exact⟨_,_,rfl,.inl h1,by rw [h2.length];exact hq _ H (Same.refl H) (.int _)⟩
   ·rename_i ds z
    cases ek
    rw [z]at p
    cases p with
    |tup h1 h2=>exact⟨_,_,rfl,.inr h1,by rw [h2.length];exact hq _ H (Same.refl H) (.int _)⟩
   ·cases ek
 ·cases ek
end
end DL
namespace DL
open PySem.Spec L2
abbrev DT:=Th→Option Bool
def dT (K:zbj0) (F:List Addr) (f:DT):TT:=fun σ H Q => ∃A t b,RS K F H A t σ∧f t=some b∧∀H',Same H H'→Q b H'
theorem PT.imp {X:Cx}{e:Expr}{t t':TT} (h:PT X e t) (i:∀σ H Q,t' σ H Q→t σ H Q):PT X e t':=fun pins s σ H Q I q=>h pins s σ H Q I (i σ H Q q)
theorem PW.imp {X:Cx}{e:Expr}{t t':TT} (h:PW X e t) (i:∀σ H Q,t' σ H Q→t σ H Q):PW X e t':=fun w pins s σ H Q I q=>h w pins s σ H Q I (i σ H Q q)
noncomputable def truD:D→Option Bool
 |.non=>some false
 |.bl b=>some b
 |.int i=>some (i != 0)
 |.tup xs=>some (!xs.isEmpty)
 |.lst xs=>some (!xs.isEmpty)
 |.dct ks _=>some (!ks.isEmpty)
 |.pdc _=>none
 |.str y=>if y.length≤100000 then some ((y.length:Int) != 0) else none
theorem zs0 {α β:Type}{xs:List α}{ys:List β} (h:xs.length=ys.length):xs.isEmpty=ys.isEmpty:=by
 cases xs<;>cases ys<;>simp_all
theorem zax5 {K:zbj0}{H:Hp}{d:D}{v:V}{b:Bool} (r:Rep K H d v) (e:truD d=some b):TruV K v H b:=by
 cases r with
 |non=>cases e;rfl
 |bl b=>cases e;rfl
 |int i=>cases e;rfl
 |str x =>
  simp only [truD]at e
  split at e
  ·cases e;exact⟨le_line (by assumption),rfl⟩
  ·cases e
 |tup h1 h2=>cases e;exact .inr (.inl ⟨_,h1,by rw [zs0 h2.length]⟩)
 |lst h1 h2=>cases e;exact .inl ⟨_,h1,by rw [zs0 h2.length]⟩
 |@dct ks ds p vs l h1 h2 =>
  cases e
  have e1:(mkKV ks vs).length=ks.length:=by unfold mkKV;rw [zbq7];lia
  exact .inr (.inr ⟨_,h1,by rw [zs0 e1]⟩)
 |pdc h=>cases e
def dTr (f:DE):DT:=fun t=>(f t).bind fun r=>truD r.d
def dBo (f:DE):DT:=fun t=>(f t).bind fun r=>match r.d with
 |.bl b=>some b
 |_=>none
def dAnd (f g:DT):DT:=fun t=>(f t).bind fun b=>if b then g t else some false
def dOr (f g:DT):DT:=fun t=>(f t).bind fun b=>if b then some true else g t
def dNot (f:DT):DT:=fun t=>(f t).bind fun b=>some (!b)
section
variable {X:Cx}{F:List Addr}{a b c:Expr}{es:List Expr}{fa fb fc:DE}{g g':DA}{ft fu:DT}{pos:Pos}{rest:List Expr}
theorem zg3 (ha:PE X a (dE X.K F fa)) (he:∀whole,isTrue a X.env whole=(do let v ← whole;standAt a.pos;holding [v] (truthy v)):=by intro _;rfl):PT X a (dT X.K F (dTr fa)):=by
 refine PT.imp (pt_truth ha he) ?_
 rintro σ H Q ⟨A,t,r,R,e,h⟩
 unfold dTr at e
 cases e1:fa t with
 |none=>rw [e1]at e;cases e
 |some r1 =>
  rw [e1]at e
  exact⟨A,t,r1,R,e1,fun v H' g' q=>⟨r,zax5 q.full e,h H' g'⟩⟩
theorem zd2 {op:CmpOp}{k:Ev→Ev→Option Ev} (ho:OpD X F (compareOp op) k) (ha:PE X a (dE X.K F fa)) (hb:PE X b (dE X.K F fb)) (hm:behindInMarks op b=false:=by first | exact nomark _ | (with_unfolding_all rfl)) :
  PT X (.Compare a [op] [b] pos) (dT X.K F (dBo (d2 k fa fb))):=by
 intro pins s σ H Q I h
 obtain⟨A,t,b',R,e,h⟩:=h
 unfold dBo at e
 cases e1:d2 k fa fb t with
 |none=>rw [e1]at e;cases e
 |some r0 =>
  rw [e1]at e
  have w0:dE X.K F (d2 k fa fb) σ H (fun z H'=>Same H H'∧Rep X.K H' r0.d z):=⟨A,t,r0,R,e1,fun v H' g q=>⟨g,q.full⟩⟩
  obtain⟨A2,t2,r1,r2,r,R2,e1',e2',e3,h3,w⟩:=two w0
  refine wpAny_isTrue_Compare1 (bin ha hb I w fun v u s2 x y H2 I2 rx ry q=>?_) hm
  obtain⟨g,q1,q2⟩:=q
  refine thn (ho pins s2 σ H H2 A2 x y v u (fun z H'=>Same H H'∧Rep X.K H' r0.d z) r1 r2 r I2 R2.mu g rx ry q1 q2 e3 fun z H' g'=>h3 z H' (g.trans g')) fun cc s3 ⟨z,H3,I3,r3,g3,q3⟩=>?_
  have e:(match r0.d with | .bl b=>some b | _=>none)=some b':=e
  split at e
  ·rename_i b2 z2
   cases e
   rw [z2]at q3
   cases q3
   cases r3
   exact wpAny_truthy_bool ⟨H3,I3,h H3 g3⟩
  ·cases e
theorem pwd_and1 (ha:PT X a (dT X.K F ft)):PW X (.BoolOp .And [a] pos) (dT X.K F ft):=pw_and1 ha
theorem zp4 (ha:PT X a (dT X.K F ft)):PW X (.BoolOp .Or [a] pos) (dT X.K F ft):=pw_or1 ha
theorem pwd_and (ha:PT X a (dT X.K F ft)) (hb:PW X (.BoolOp .And (b::rest) pos) (dT X.K F fu)):PW X (.BoolOp .And (a::b::rest) pos) (dT X.K F (dAnd ft fu)):=by
 refine PW.imp (pw_and ha hb) ?_
 rintro σ H Q ⟨A,t,r,R,e,h⟩
 unfold dAnd at e
 cases e1:ft t with
 |none=>rw [e1]at e;cases e
 |some r1 =>
  rw [e1]at e
  refine⟨A,t,r1,R,e1,fun H1 g1=>?_⟩
  cases r1 with
  |true=>exact⟨A,t,r,R.grow g1,e,fun H2 g2=>h H2 (g1.trans g2)⟩
  |false=>cases e;exact h H1 g1
theorem zt2 (ha:PT X a (dT X.K F ft)) (hb:PW X (.BoolOp .Or (b::rest) pos) (dT X.K F fu)):PW X (.BoolOp .Or (a::b::rest) pos) (dT X.K F (dOr ft fu)):=by
 refine PW.imp (pw_or ha hb) ?_
 rintro σ H Q ⟨A,t,r,R,e,h⟩
 unfold dOr at e
 cases e1:ft t with
 |none=>rw [e1]at e;cases e
 |some r1 =>
  rw [e1]at e
  refine⟨A,t,r1,R,e1,fun H1 g1=>?_⟩
  cases r1 with
  |true=>cases e;exact h H1 g1
  |false=>exact⟨A,t,r,R.grow g1,e,fun H2 g2=>h H2 (g1.trans g2)⟩
theorem zk4 (ha:PT X a (dT X.K F ft)):PT X (.UnaryOp .Not a pos) (dT X.K F (dNot ft)):=by
 refine PT.imp (pt_not ha) ?_
 rintro σ H Q ⟨A,t,r,R,e,h⟩
 unfold dNot at e
 cases e1:ft t with
 |none=>rw [e1]at e;cases e
 |some r1 =>
  rw [e1]at e
  cases e
  exact⟨A,t,r1,R,e1,fun H1 g1=>h H1 g1⟩
def zbf9 (f g:DE):DE:=fun t=>(f t).bind fun r=>match r.d with
 |.bl b=>if b then g t else some (.cl (.bl false))
 |_=>none
def zai6:Ev→Option Ev:=fun r=>match r.d with
 |.bl b=>some (.cl (.bl (!b)))
 |_=>none
theorem ped_one {op} (h:PE X a (dE X.K F fa)):PE X (.BoolOp op [a] pos) (dE X.K F fa):=pe_one h
theorem ped_and (ha:PE X a (dE X.K F fa)) (hb:PE X (.BoolOp .And (b::rest) pos) (dE X.K F fb)):PE X (.BoolOp .And (a::b::rest) pos) (dE X.K F (zbf9 fa fb)):=by
 refine PE.imp (pe_and ha hb) ?_
 rintro σ H Q ⟨A,t,r,R,e,h⟩
 unfold zbf9 at e
 cases e1:fa t with
 |none=>rw [e1]at e;cases e
 |some r1 =>
  rw [e1]at e
  refine⟨A,t,r1,R,e1,fun v H1 g1 q1=>?_⟩
  have p:=q1.full
  have e:(match r1.d with | .bl b=>if b then fb t else some (.cl (.bl false)) |_=>none)=some r:=e
  split at e
  ·rename_i b2 z
   rw [z]at p
   cases p
   refine⟨b2,rfl,?_⟩
   cases b2 with
   |true=>exact⟨A,t,r,R.grow g1,e,fun v2 H2 g2 q2=>h v2 H2 (g1.trans g2) (q2.back g1)⟩
   |false=>cases e;exact h _ H1 g1 (.bl false)
  ·cases e
theorem ped_not (ha:PE X a (dE X.K F fa)):PE X (.UnaryOp .Not a pos) (dE X.K F (d1 zai6 fa)):=by
 refine PE.imp (pe_not ha) ?_
 rintro σ H Q ⟨A,t,r,R,e,h⟩
 unfold d1 at e
 cases e1:fa t with
 |none=>rw [e1]at e;cases e
 |some r1 =>
  rw [e1]at e
  refine⟨A,t,r1,R,e1,fun x H1 g1 q1=>?_⟩
  have e:zai6 r1=some r:=e
  unfold zai6 at e
  split at e
  ·rename_i i z
   cases e
   have p:=q1.full
   rw [z]at p
   cases p
   exact⟨i,rfl,h _ H1 g1 (.bl _)⟩
  ·cases e
end
inductive Out where
 |nx (t:Th) |rt (r:Ev) |bk (t:Th) |ct (t:Th)
abbrev DS:=Th→Option Out
def After (K:zbj0) (F A:List Addr) (H:Hp) (N:L2.St→Hp→Prop) (t:Th):Prop := ∀σ' H' A',Gr A H A' H'→RS K F H' A' t σ'→N σ' H'
noncomputable def RetEv (K:zbj0) (F A:List Addr) (H H':Hp):Ev→V→Prop
 |.cl d,v=>Rep K (hide F H') d v
 |.tm d,v=>Rep K (hide F H') d v
 |.nw xs,v => ∃p vs,v=.ref p∧(p∈A∨H p=none)∧p∉F∧H' p=some (.lst vs)∧Reps K (hide (p::F) H') xs vs
 |.dn d,v => ∃B,B.Nodup∧(∀b∈B,(b∈A∨H b=none)∧b∉F)∧RepD K (hide (B++F) H') H' d v B
def Back (K:zbj0) (F A:List Addr) (H:Hp) (N:VK) (r:Ev):Prop := ∀v H' A',Gr A H A' H'→RetEv K F A H H' r v→N v H'
noncomputable def dS (K:zbj0) (F:List Addr) (g:DS):TS:=fun E σ H => ∃A t o,RS K F H A t σ∧g t=some o∧match o with
 |.nx t'=>After K F A H E.nx t'
 |.bk t'=>After K F A H E.bk t'
 |.ct t'=>After K F A H E.ct t'
 |.rt r=>Back K F A H E.rt r
end DL
namespace DL
open PySem.Spec L2
theorem RetEv.back {K:zbj0}{F A A1:List Addr}{H H1 H':Hp}{r:Ev}{v:V} (g:Gr A H A1 H1) (h:RetEv K F A1 H1 H' r v):RetEv K F A H H' r v:=by
 cases r with
 |cl d=>exact h
 |tm d=>exact h
 |nw xs =>
  obtain⟨p,vs,rfl,h1,h2,h3,h4⟩:=h
  refine⟨p,vs,rfl,?_,h2,h3,h4⟩
  rcases h1 with h1 | h1
  ·exact g.nw p h1
  ·by_cases z:p∈A
   ·exact .inl z
   ·refine .inr ?_
    cases w:H p with
    |none=>rfl
    |some o=>rw [g.kp p o z w]at h1;cases h1
 |dn d =>
  obtain⟨B,h0,h1,h2⟩:=h
  refine⟨B,h0,fun p hp=>⟨?_,(h1 p hp).2⟩,h2⟩
  rcases (h1 p hp).1 with h1 | h1
  ·exact g.nw p h1
  ·by_cases z:p∈A
   ·exact .inl z
   ·refine .inr ?_
    cases w:H p with
    |none=>rfl
    |some o=>rw [g.kp p o z w]at h1;cases h1
theorem After.back {K:zbj0}{F A A1:List Addr}{H H1:Hp}{N:L2.St→Hp→Prop}{t:Th} (h:After K F A H N t) (g:Gr A H A1 H1):After K F A1 H1 N t:=fun σ' H' A' g' R=>h σ' H' A' (g.trans g') R
theorem Back.back {K:zbj0}{F A A1:List Addr}{H H1:Hp}{N:VK}{r:Ev} (h:Back K F A H N r) (g:Gr A H A1 H1):Back K F A1 H1 N r:=fun v H' A' g' R=>h v H' A' (g.trans g') (R.back g)
theorem PS.imp {X:Cx}{e:Stmt}{t t':TS} (h:PS X e t) (i:∀E σ H,t' E σ H→t E σ H):PS X e t':=fun pins s σ H D I q=>h pins s σ H D I (i D σ H q)
theorem PSs.imp {X:Cx}{e:List Stmt}{t t':TS} (h:PSs X e t) (i:∀E σ H,t' E σ H→t E σ H):PSs X e t':=fun pins s σ H D I q=>h pins s σ H D I (i D σ H q)
theorem Lists.left {H:Hp}{A F:List Addr} (h:Lists H (A++F)):Lists H A:=fun p hp=>h p (zbj1 _ hp)
def zf0:DS:=fun t=>some (.nx t)
noncomputable def dSeq (g1 g2:DS):DS:=fun t=>(g1 t).bind fun o=>match o with
 |.nx t'=>g2 t'
 |.rt r=>some (.rt r)
 |.bk t'=>some (.bk t')
 |.ct t'=>some (.ct t')
section
variable {X:Cx}{F:List Addr}{a b c:Expr}{es:List Expr}{fa fb fc:DE}{g g1 g2:DS}{ft fu:DT}{pos:Pos}{st:Stmt}{rest:List Stmt}
theorem zd3:PSs X [] (dS X.K F zf0):=PSs.imp pss_nil fun E σ H ⟨A,t,o,R,e,h⟩=>by cases e;exact h σ H A (Gr.refl R.mu.left) R
theorem za5 (h1:PS X st (dS X.K F g1)) (h2:PSs X rest (dS X.K F g2)):PSs X (st::rest) (dS X.K F (dSeq g1 g2)):=by
 refine PSs.imp (pss_cons h1 h2) ?_
 rintro E σ H ⟨A,t,o,R,e,h⟩
 unfold dSeq at e
 cases e1:g1 t with
 |none=>rw [e1]at e;cases e
 |some o1 =>
  rw [e1]at e
  refine⟨A,t,o1,R,e1,?_⟩
  cases o1 with
  |nx t' =>
   intro σ' H' A' g' R'
   refine⟨A',t',o,R',e,?_⟩
   cases o with
   |nx t2=>exact After.back h g'
   |bk t2=>exact After.back h g'
   |ct t2=>exact After.back h g'
   |rt r=>exact Back.back h g'
  |rt r=>cases e;exact h
  |bk t2=>cases e;exact h
  |ct t2=>cases e;exact h
theorem zb2 (h1:PS X st (dS X.K F g1)):PSs X [st] (dS X.K F g1):=zay8 h1
def dIfS (c:DT) (g1 g2:DS):DS:=fun t=>(c t).bind fun b=>if b then g1 t else g2 t
theorem ze5 {s1 s2:List Stmt} (hc:PT X c (dT X.K F ft)) (ha:PSs X s1 (dS X.K F g1)) (hb:PSs X s2 (dS X.K F g2)):PS X (.If c s1 s2 pos) (dS X.K F (dIfS ft g1 g2)):=by
 refine PS.imp (ps_if hc ha hb) ?_
 rintro E σ H ⟨A,t,o,R,e,h⟩
 unfold dIfS at e
 cases e1:ft t with
 |none=>rw [e1]at e;cases e
 |some r1 =>
  rw [e1]at e
  refine⟨A,t,r1,R,e1,fun H1 gs=>?_⟩
  have gr:Gr A H A H1:=Gr.of_same R.mu.left gs
  cases r1 with
  |true =>
   refine⟨A,t,o,R.grow gs,e,?_⟩
   cases o with
   |nx t2=>exact After.back h gr
   |bk t2=>exact After.back h gr
   |ct t2=>exact After.back h gr
   |rt r=>exact Back.back h gr
  |false =>
   refine⟨A,t,o,R.grow gs,e,?_⟩
   cases o with
   |nx t2=>exact After.back h gr
   |bk t2=>exact After.back h gr
   |ct t2=>exact After.back h gr
   |rt r=>exact Back.back h gr
def dRet (f:DE):DS:=fun t=>(f t).bind fun r=>some (.rt r)
theorem RetEv.of {K:zbj0}{F A:List Addr}{H H':Hp}{r:Ev}{v:V} (m:Lists H (A++F)) (h:RepEv K F A H H' r v):RetEv K F A H H' r v:=by
 cases r with
 |cl d=>exact Rep.mono (zb3 H' fun a z=>zbi9 _ z) h
 |tm d=>exact h
 |nw xs =>
  obtain⟨p,vs,rfl,h1,h2,h3⟩:=h
  have np:p∉A++F:=zd6 m h1
  refine⟨p,vs,rfl,.inr h1,fun z=>np (zbi9 _ z),h2,Reps.mono (zb3 H' fun a z=>?_) h3⟩
  rcases zbj9.mp z with z | z
  ·rw [z];exact zbj7 ..
  ·exact zbj2 _ (zbi9 _ z)
 |dn d =>
  obtain⟨B,h1,h2,h3⟩:=h
  refine⟨B,h1,fun b hb=>⟨.inr (h2 b hb),fun z=>zd6 m (h2 b hb) (zbi9 _ z)⟩,RepD.mono (zb3 H' fun a z=>?_) h3 fun _ _ _ q=>q⟩
  rcases zbj4.mp z with z | z
  ·exact zbj1 _ z
  ·exact zbi9 _ (zbi9 _ z)
theorem zc8 (ha:PE X a (dE X.K F fa)):PS X (.Return (some a) pos) (dS X.K F (dRet fa)):=by
 refine PS.imp (zaz3 ha) ?_
 rintro E σ H ⟨A,t,o,R,e,h⟩
 unfold dRet at e
 cases e1:fa t with
 |none=>rw [e1]at e;cases e
 |some r1 =>
  rw [e1]at e
  cases e
  exact⟨A,t,r1,R,e1,fun v H' gs q=>h v H' A (Gr.of_same R.mu.left gs) (RetEv.of R.mu q)⟩
noncomputable def zbf5 (i:Nat):DS:=fun t=>match t[i]? with
 |some (.own xs)=>some (.rt (.nw xs))
 |some (.val d)=>some (.rt (.cl d))
 |some (.dp d)=>some (.rt (.dn d))
 |_=>none
theorem zae1 (i:Nat) {x:Str}{pos':Pos} (hN:X.N[i]?=some x:=by rfl) (hv:Vis X.env.scope x:=by first | exact Or.inl rfl | exact Or.inr (Or.inl rfl) |exact Or.inr (Or.inr rfl)) (hd:(x ==("__debug__":Str))=false:=by decide)
  (hcd:(x ==("__classdict__":Str))=false:=by decide):PS X (.Return (some (.Name x pos')) pos) (dS X.K F (zbf5 i)):=by
 refine PS.imp (zaz3 (zt4 (i:=i) hN hv hd hcd)) ?_
 rintro E σ H ⟨A,t,o,R,e,h⟩
 unfold zbf5 at e
 split at e
 ·rename_i ds q
  cases e
  obtain⟨p,vs,h1,h2,h3,h4⟩:=R.rel.getOwn q
  refine⟨_,h1,h _ H A (Gr.refl R.mu.left) ⟨p,vs,rfl,.inl h2,R.dj p h2,h3,Reps.mono (zb3 H fun a z=>?_) h4⟩⟩
  rcases zbj9.mp z with z | z
  ·rw [z];exact zbj1 _ h2
  ·exact zbi9 _ z
 ·rename_i d q
  cases e
  obtain⟨v,h1,h2⟩:=R.rel.getVal q
  exact⟨v,h1,h v H A (Gr.refl R.mu.left) (Rep.mono (zb3 H fun a z=>zbi9 _ z) h2)⟩
 ·rename_i d q
  cases e
  obtain⟨v,B,h1,h2,h0,h3⟩:=R.rel.getDp R.nd q
  refine⟨v,h1,h v H A (Gr.refl R.mu.left) ⟨B,h0,fun b hb=>⟨.inl (h2 b hb),R.dj b (h2 b hb)⟩,RepD.mono (zb3 H fun a z=>?_) h3 fun _ _ _ q=>q⟩⟩
  rcases zbj4.mp z with z | z
  ·exact zbj1 _ (h2 a z)
  ·exact zbi9 _ z
 ·cases e
end
theorem RSl.setVal {K:zbj0}{H0 H:Hp}{d:D}{v:V} (h:Rep K H0 d v):∀ {t:Th}{σ:L2.St}{A:List Addr} (i:Nat),RSl K H0 H t σ A→i<t.length→∃A',RSl K H0 H (t.set i (.val d)) (σ.set i (some v)) A'∧List.Sublist A' A
 |_,_,_,_,.nil,l=>by simp at l
 |_,_,_,0,.no r,_=>⟨_,.val h r,List.Sublist.refl _⟩
 |_,_,_,0,.val _ r,_=>⟨_,.val h r,List.Sublist.refl _⟩
 |_,_,_,0,.own _ _ r,_=>⟨_,.val h r,zby2 _ _⟩
 |_,_,_,0,.dp _ r,_=>⟨_,.val h r,zbw5 _ _⟩
 |_,_,_,i+1,.no r,l=>let ⟨A',a,b⟩:=RSl.setVal h i r (by simpa using l);⟨A',.no a,b⟩
 |_,_,_,i+1,.val q r,l=>let ⟨A',a,b⟩:=RSl.setVal h i r (by simpa using l);⟨A',.val q a,b⟩
 |_,_,_,i+1,.own q1 q2 r,l=>let ⟨A',a,b⟩:=RSl.setVal h i r (by simpa using l);⟨_,.own q1 q2 a,b.cons₂ _⟩
 |_,_,_,i+1,.dp q r,l=>let ⟨A',a,b⟩:=RSl.setVal h i r (by simpa using l);⟨_,.dp q a,List.Sublist.append (List.Sublist.refl _) b⟩
theorem RSl.setAny {K:zbj0}{H0 H:Hp}{s:Sl}{v:V}{B:List Addr} (h:∀ {t:Th}{σ:L2.St}{A:List Addr},RSl K H0 H t σ A→RSl K H0 H (s::t) (some v::σ) (B++A)):∀ {t:Th}{σ:L2.St}{A:List Addr} (i:Nat),RSl K H0 H t σ A→i<t.length →
  ∃A',RSl K H0 H (t.set i s) (σ.set i (some v)) A'∧(∀x∈A',x∈B∨x∈A)∧(A.Nodup→B.Nodup→(∀b∈B,b∉A)→A'.Nodup)
 |_,_,_,_,.nil,l=>by simp at l
 |_,_,A,0,.no r,_=>⟨_,h r,fun x hx=>zbj4.mp hx,fun n1 n2 d=>zbl0.mpr ⟨n2,n1,fun a ha b hb e=>d a ha (e ▸ hb)⟩⟩
 |_,_,A,0,.val _ r,_=>⟨_,h r,fun x hx=>zbj4.mp hx,fun n1 n2 d=>zbl0.mpr ⟨n2,n1,fun a ha b hb e=>d a ha (e ▸ hb)⟩⟩
 |_,_,_,0,.own _ _ r,_=>⟨_,h r,fun x hx=>(zbj4.mp hx).imp id (zbj2 _),fun n1 n2 d=>zbl0.mpr ⟨n2,(zbl6.mp n1).2,fun a ha b hb e=>d a ha (e ▸ zbj2 _ hb)⟩⟩
 |_,_,_,0,.dp _ r,_=>⟨_,h r,fun x hx=>(zbj4.mp hx).imp id (zbi9 _),fun n1 n2 d=>zbl0.mpr ⟨n2,(zbl0.mp n1).2.1,fun a ha b hb e=>d a ha (e ▸ zbi9 _ hb)⟩⟩
 |_,_,_,i+1,.no r,l=>let ⟨A',a,b,c⟩:=RSl.setAny h i r (by simpa using l);⟨A',.no a,b,c⟩
 |_,_,_,i+1,.val q r,l=>let ⟨A',a,b,c⟩:=RSl.setAny h i r (by simpa using l);⟨A',.val q a,b,c⟩
 |_,_,_,i+1,.own (p:=p2) q1 q2 r,l=>by
  obtain⟨A',a,b,c⟩:=RSl.setAny h i r (by simpa using l)
  refine⟨_,.own q1 q2 a,fun x hx=>?_,fun nd nb np=>?_⟩
  ·rcases zbj9.mp hx with z | z
   ·exact .inr (z ▸ zbj7 ..)
   ·exact (b x z).imp id (zbj2 _)
  ·have n1:=zbl6.mp nd
   refine zbl6.mpr ⟨fun z=>?_,c n1.2 nb fun x hx z=>np x hx (zbj2 _ z)⟩
   rcases b _ z with z | z
   ·exact np _ z (zbj7 ..)
   ·exact n1.1 z
 |_,_,_,i+1,.dp (B:=C) q r,l=>by
  obtain⟨A',a,b,c⟩:=RSl.setAny h i r (by simpa using l)
  refine⟨_,.dp q a,fun x hx=>?_,fun nd nb np=>?_⟩
  ·rcases zbj4.mp hx with z | z
   ·exact .inr (zbj1 _ z)
   ·exact (b x z).imp id (zbi9 _)
  ·have n1:=zbl0.mp nd
   refine zbl0.mpr ⟨n1.1,c n1.2.1 nb fun x hx z=>np x hx (zbi9 _ z),fun x hx y hy e=>?_⟩
   subst e
   rcases b _ hy with z | z
   ·exact np _ z (zbj1 _ hx)
   ·exact n1.2.2 _ hx _ z rfl
theorem RS.putAny {K:zbj0}{F A:List Addr}{H H':Hp}{t:Th}{σ:L2.St}{i:Nat}{s:Sl}{v:V}{B:List Addr} (R:RS K F H A t σ) (g:Same H H') (fr:∀b∈B,H b=none) (nb:B.Nodup) (lb:Lists H' B)
  (mk:∀ {t:Th}{σ:L2.St}{A':List Addr},RSl K (hide (B++(A++F)) H') H' t σ A'→RSl K (hide (B++(A++F)) H') H' (s::t) (some v::σ) (B++A')) (hi:i<t.length) :
  ∃A',Gr A H A' H'∧RS K F H' A' (t.set i s) (σ.set i (some v)):=by
 have R':=R.grow g
 have np:∀b∈B,b∉A++F:=fun b hb=>zd6 R.mu (fr b hb)
 have r0:RSl K (hide (B++(A++F)) H') H' t σ A:=RSl.mono (fun b o h=>by
  obtain⟨n,h⟩:=zl8 h
  refine zd0 (g _ _ h) fun z=>?_
  rcases zbj4.mp z with z | z
  ·rw [fr b z]at h;cases h
  ·exact n z) R.rel fun b _ o h=>g _ _ h
 obtain⟨A',r1,sub,nd⟩:=RSl.setAny mk i r0 hi
 refine⟨A',⟨fun b o _ h=>g b o h,fun b hb=>by obtain⟨ws,z⟩:=R.mu b (zbj1 _ hb);rw [g _ _ z];simp,fun b hb=>?_⟩,?_,nd R.nd nb fun b hb z=>np b hb (zbj1 _ z),fun b hb=>?_,?_⟩
 ·rcases sub b hb with z | z
  ·exact .inr (fr b z)
  ·exact .inl z
 ·intro b hb
  rcases zbj4.mp hb with z | z
  ·rcases sub b z with z | z
   ·exact lb b z
   ·exact R'.mu b (zbj1 _ z)
  ·exact R'.mu b (zbi9 _ z)
 ·rcases sub b hb with z | z
  ·exact fun w=>np b z (zbi9 _ w)
  ·exact R.dj b z
 ·refine RSl.mono (zb3 H' fun b z=>?_) r1 fun _ _ _ h=>h
  rcases zbj4.mp z with z | z
  ·rcases sub b z with z | z
   ·exact zbj1 _ z
   ·exact zbi9 _ (zbj1 _ z)
  ·exact zbi9 _ (zbi9 _ z)
noncomputable def zn8 (t:Th) (i:Nat) (r:Ev):Option Th:=if i<t.length then (match r with
 |.cl d=>some (t.set i (.val d))
 |.tm d=>if flat d then some (t.set i (.val d)) else none
 |.nw xs=>some (t.set i (.own xs))
 |.dn d=>some (t.set i (.dp d))) else none
theorem RS.put {K:zbj0}{F A:List Addr}{H H':Hp}{t t':Th}{σ:L2.St}{i:Nat}{r:Ev}{v:V} (R:RS K F H A t σ) (g:Same H H') (q:RepEv K F A H H' r v) (e:zn8 t i r=some t') :
  ∃A',Gr A H A' H'∧RS K F H' A' t' (σ.set i (some v)):=by
 have R':=R.grow g
 have val:∀d,Rep K (hide (A++F) H') d v→i<t.length→∃A',Gr A H A' H'∧RS K F H' A' (t.set i (.val d)) (σ.set i (some v)):=fun d hd hi=>by
  obtain⟨A',r1,sub⟩:=RSl.setVal hd i R'.rel hi
  have sub':∀x∈A',x∈A:=fun x hx=>sub.subset hx
  refine⟨A',⟨fun b o _ h=>g b o h,fun b hb=>by obtain⟨vs,z⟩:=R.mu b (zbj1 _ hb);rw [g _ _ z];simp,fun b hb=>.inl (sub' b hb)⟩,?_,R.nd.sublist sub,fun p hp=>R.dj p (sub' p hp),?_⟩
  ·intro p hp
   rcases zbj4.mp hp with z | z
   ·exact R'.mu p (zbj1 _ (sub' p z))
   ·exact R'.mu p (zbi9 _ z)
  ·refine RSl.mono (zb3 H' fun a z=>?_) r1 fun _ _ _ h=>h
   rcases zbj4.mp z with z | z
   ·exact zbj1 _ (sub' a z)
   ·exact zbi9 _ z
 unfold zn8 at e
 split at e
 case isFalse=>cases e
 rename_i hi
 cases r with
 |cl d=>cases e;exact val d q hi
 |tm d =>
  simp only at e
  split at e
  ·rename_i f
   cases e
   exact val d (Rep.hid R'.mu f (Rep.mono (zb7 _ _) q)) hi
  ·cases e
 |nw xs =>
  cases e
  obtain⟨p,vs,rfl,h1,h2,h3⟩:=q
  exact R.putAny (B:=[p]) g (fun b hb=>by simp at hb;subst hb;exact h1) (by simp) (fun b hb=>by simp at hb;subst hb;exact⟨mL vs,h2⟩) (fun r=>.own h2 h3 r) hi
 |dn d =>
  cases e
  obtain⟨B,h1,h2,h3⟩:=q
  exact R.putAny (B:=B) g h2 h1 h3.lists (fun r=>.dp h3 r) hi
section
variable {X:Cx}{F:List Addr}{a b c:Expr}{es:List Expr}{fa fb fc:DE}{g g1 g2:DS}{ft fu:DT}{pos:Pos}{st:Stmt}{rest:List Stmt}
def dAsg (i:Nat) (f:DE):DS:=fun t=>(f t).bind fun r=>(zn8 t i r).map Out.nx
theorem zb5 {i:Nat}{x:Str}{pos':Pos} (hN:X.N.Nodup) (hi:X.N[i]?=some x) (hx:Loc X.env.scope x) (he:PE X a (dE X.K F fa)) (hs:swapsWith a (some (.Name x pos')) pos.line X.env=pure false:=by rfl) (hf:X.fn x=true∨X.env.scope.names.lookup x=some .local:=by first | exact .inl rfl | exact .inr rfl | assumption) :
  PS X (.Assign [.Name x pos'] a pos) (dS X.K F (dAsg i fa)):=by
 refine PS.imp (ps_set hN hi hx he hs hf) ?_
 rintro E σ H ⟨A,t,o,R,e,h⟩
 unfold dAsg at e
 cases e1:fa t with
 |none=>rw [e1]at e;cases e
 |some r1 =>
  rw [e1]at e
  have e:(zn8 t i r1).map Out.nx=some o:=e
  cases e2:zn8 t i r1 with
  |none=>rw [e2]at e;cases e
  |some t' =>
   rw [e2]at e
   cases e
   refine⟨A,t,r1,R,e1,fun v H' gs q=>?_⟩
   obtain⟨A',g',R'⟩:=R.put gs q e2
   exact h _ _ _ g' R'
end
end DL
namespace DL
open PySem.Spec L2
noncomputable def TgOk (K:zbj0) (F:List Addr) (g:TG) (k:D→Th→Option Th):Prop :=
 ∀σ H A t t' d x (Q:L2.St→Hp→Prop),RS K F H A t σ→Rep K (hide (A++F) H) d x→k d t=some t'→(∀σ2 A2,Gr A H A2 H→RS K F H A2 t' σ2→Q σ2 H)→g x σ H Q
noncomputable def zbi5 (K:zbj0) (F:List Addr) (g:TGs) (k:List D→Th→Option Th):Prop :=
 ∀σ H A t t' ds xs (Q:L2.St→Hp→Prop),RS K F H A t σ→Reps K (hide (A++F) H) ds xs→k ds t=some t'→(∀σ2 A2,Gr A H A2 H→RS K F H A2 t' σ2→Q σ2 H)→g xs σ H Q
def za6 (i:Nat):D→Th→Option Th:=fun d t=>zn8 t i (.cl d)
def zr1:List D→Th→Option Th:=fun ds t=>match ds with
 |[]=>some t
 |_=>none
noncomputable def ze6 (k:D→Th→Option Th) (k':List D→Th→Option Th):List D→Th→Option Th:=fun ds t=>match ds with
 |d::r=>(k d t).bind (k' r)
 |[]=>none
noncomputable def zr0 (n:Nat) (k:List D→Th→Option Th):D→Th→Option Th:=fun d t=>match d with
 |.tup ds=>if ds.length=n then k ds t else none
 |_=>none
theorem zc5 {K:zbj0}{F:List Addr} (i:Nat):TgOk K F (zaw6 i) (za6 i):=by
 intro σ H A t t' d x Q R r e h
 obtain⟨A',g,R'⟩:=R.put (i:=i) (r:=.cl d) (Same.refl H) r e
 exact h _ _ g R'
theorem zad4 {K:zbj0}{F:List Addr}:zbi5 K F gNil zr1:=by
 intro σ H A t t' ds xs Q R r e h
 cases r with
 |nil=>cases e;exact⟨rfl,h σ A (Gr.refl R.mu.left) R⟩
 |cons _ _=>cases e
theorem zm1 {K:zbj0}{F:List Addr}{g:TG}{g':TGs}{k:D→Th→Option Th}{k':List D→Th→Option Th} (h1:TgOk K F g k) (h2:zbi5 K F g' k'):zbi5 K F (gCons g g') (ze6 k k'):=by
 intro σ H A t t' ds xs Q R r e h
 cases r with
 |nil=>cases e
 |@cons d v ds vs r1 r2 =>
  unfold ze6 at e
  cases e1:k d t with
  |none=>simp only [e1]at e;cases e
  |some t1 =>
   simp only [e1]at e
   refine⟨v,vs,rfl,h1 σ H A t t1 d v _ R r1 e1 fun σ2 A2 g2 R2=>?_⟩
   exact h2 σ2 H A2 t1 t' ds vs Q R2 (Reps.mono g2.same r2) e fun σ3 A3 g3 R3=>h σ3 A3 (g2.trans g3) R3
theorem zax7 {K:zbj0}{F:List Addr}{n:Nat}{g':TGs}{k':List D→Th→Option Th} (h2:zbi5 K F g' k'):TgOk K F (gTup K n g') (zr0 n k'):=by
 intro σ H A t t' d x Q R r e h
 unfold zr0 at e
 split at e
 ·rename_i ds
  split at e
  ·rename_i hl
   cases r with
   |@tup _ p vs h1 hr=>exact⟨p,vs,rfl,SqT.mono (zb7 _ _) h1,by rw [hr.length];exact hl,h2 σ H A t t' ds vs Q R hr e h⟩
  ·cases e
 ·cases e
def zac1 (k:D→Th→Option Th) (f:DE):DS:=fun t=>(f t).bind fun r=>if r.ok then (k r.d t).map Out.nx else none
section
variable {X:Cx}{F:List Addr}{a b c:Expr}{es:List Expr}{fa fb fc:DE}{g g1 g2:DS}{ft fu:DT}{pos:Pos}{st:Stmt}{rest:List Stmt}{tg:Expr}{gt:TG}{kt:D→Th→Option Th}
theorem zam8 (he:PE X a (dE X.K F fa)) (hg:PG X tg gt) (ht:TgOk X.K F gt kt) (hs:swapsWithSole [tg] a pos.line X.env=pure false:=by rfl) (hw:swappedStores [tg] a X.env=pure none:=by rfl)
  (h1:(assignEach [tg] X.env).map (·.2)=[assign tg X.env]:=by rfl):PS X (.Assign [tg] a pos) (dS X.K F (zac1 kt fa)):=by
 refine PS.imp (zaz6 he hg hs hw h1) ?_
 rintro E σ H ⟨A,t,o,R,e,h⟩
 unfold zac1 at e
 cases e1:fa t with
 |none=>rw [e1]at e;cases e
 |some r1 =>
  rw [e1]at e
  have e:(if r1.ok then (kt r1.d t).map Out.nx else none)=some o:=e
  split at e
  case isFalse=>cases e
  rename_i ok
  cases e2:kt r1.d t with
  |none=>rw [e2]at e;cases e
  |some t' =>
   rw [e2]at e
   cases e
   refine⟨A,t,r1,R,e1,fun v H' gs q=>?_⟩
   exact ht σ H' A t t' r1.d v E.nx (R.grow gs) (q.clean R.mu gs ok) e2 fun σ2 A2 g2 R2=>h σ2 H' A2 ((Gr.of_same R.mu.left gs).trans g2) R2
noncomputable def kPar (t:Th) (i j:Nat):List Ev→Option Out
 |[r1,r2]=>if r1.ok&&r2.ok then ((zn8 t i (.cl r1.d)).bind fun t1=>zn8 t1 j (.cl r2.d)).map Out.nx else none
 |_=>none
def dPar (i j:Nat) (f:DA):DS:=fun t=>(f t).bind (kPar t i j)
theorem zam7 {i j:Nat}{x y:Str}{ga:DA}{px py pt:Pos}{kt k2 pt2} (hc:X.calm=true) (hN:X.N.Nodup) (hi:X.N[i]?=some x) (hj:X.N[j]?=some y) (hij:i≠j)
  (hx:X.env.scope.names.lookup x=some .local) (hy:X.env.scope.names.lookup y=some .local) (ha:PA X [a,b] (dA X.K F ga))
  (hw:swappedStores [.Tuple [.Name x px,.Name y py] kt pt] (.Tuple [a,b] k2 pt2) X.env=pure (some [x,y]))
  (hs:swapsWithSole [.Tuple [.Name x px,.Name y py] kt pt] (.Tuple [a,b] k2 pt2) pos.line X.env=pure false:=by rfl) :
  PS X (.Assign [.Tuple [.Name x px,.Name y py] kt pt] (.Tuple [a,b] k2 pt2) pos) (dS X.K F (dPar i j ga)):=by
 refine PS.imp (ps_par hc hN hi hj hij hx hy ha hw hs) ?_
 rintro E σ H ⟨A,t,o,R,e,h⟩
 unfold dPar at e
 cases e1:ga t with
 |none=>rw [e1]at e;cases e
 |some rs =>
  rw [e1]at e
  refine⟨A,t,rs,R,e1,fun vs H' gs q=>?_⟩
  have e:kPar t i j rs=some o:=e
  cases q with
  |nil=>cases e
  |@cons r1 _ _ _ q1 q' =>
   cases q' with
   |nil=>cases e
   |@cons r2 _ _ _ q2 q3 =>
   cases q3 with
   |cons _ _=>cases e
   |nil =>
    simp only [kPar]at e
    split at e
    case isFalse=>cases e
    rename_i ok
    simp only [zbj5]at ok
    refine⟨_,_,rfl,?_⟩
    cases e2:zn8 t i (.cl r1.d) with
    |none=>rw [e2]at e;cases e
    |some t1 =>
     rw [e2]at e
     have e:(zn8 t1 j (.cl r2.d)).map Out.nx=some o:=e
     cases e3:zn8 t1 j (.cl r2.d) with
     |none=>rw [e3]at e;cases e
     |some t2 =>
      rw [e3]at e
      cases e
      have c2:=q2.clean R.mu gs ok.2
      obtain⟨A1,g1,R1⟩:=(R.grow gs).put (i:=i) (r:=.cl r1.d) (Same.refl H') (q1.clean R.mu gs ok.1) e2
      obtain⟨A2,g2,R2⟩:=R1.put (i:=j) (r:=.cl r2.d) (Same.refl H') (Rep.mono g1.same c2) e3
      exact h _ _ _ (((Gr.of_same R.mu.left gs).trans g1).trans g2) R2
end
noncomputable def forD (k:D→Th→Option Th) (body:DS):List D→Th→Option Out
 |[],t=>some (.nx t)
 |d::ds,t=>(k d t).bind fun t1=>(body t1).bind fun o=>match o with
  |.nx t'=>forD k body ds t'
  |.ct t'=>forD k body ds t'
  |.bk t'=>some (.nx t')
  |.rt r=>some (.rt r)
noncomputable def whD (c:DT) (body:DS):Nat→Th→Option Out
 |0,_=>none
 |n+1,t=>(c t).bind fun b=>if b then (body t).bind fun o=>match o with
  |.nx t'=>whD c body n t'
  |.ct t'=>whD c body n t'
  |.bk t'=>some (.nx t')
  |.rt r=>some (.rt r) else some (.nx t)
def zw5 (fu:Th→Nat) (c:DT) (body:DS):DS:=fun t=>whD c body (fu t) t
noncomputable def Post (K:zbj0) (F A:List Addr) (H:Hp) (E:Ends):Out→Prop
 |.nx t'=>After K F A H E.nx t'
 |.bk t'=>After K F A H E.bk t'
 |.ct t'=>After K F A H E.ct t'
 |.rt r=>Back K F A H E.rt r
theorem Post.back {K:zbj0}{F A A1:List Addr}{H H1:Hp}{E:Ends}{o:Out} (h:Post K F A H E o) (g:Gr A H A1 H1):Post K F A1 H1 E o:=by
 cases o with
 |nx t2=>exact After.back h g
 |bk t2=>exact After.back h g
 |ct t2=>exact After.back h g
 |rt r=>exact Back.back h g
theorem zbf4 {K:zbj0}{F A:List Addr}{g:DS}{E:Ends}{σ:L2.St}{H:Hp}{t:Th}{o:Out} (R:RS K F H A t σ) (e:g t=some o) (p:Post K F A H E o):dS K F g E σ H:=⟨A,t,o,R,e,by cases o<;>exact p⟩
theorem zap2 {K:zbj0}{F:List Addr}{g:DS}{E:Ends}{σ:L2.St}{H:Hp} (h:dS K F g E σ H):∃A t o,RS K F H A t σ∧g t=some o∧Post K F A H E o:=by
 obtain⟨A,t,o,R,e,h⟩:=h
 exact⟨A,t,o,R,e,by cases o<;>exact h⟩
section
variable {X:Cx}{F:List Addr}{a b c:Expr}{es:List Expr}{fa fb fc:DE}{g g1 g2:DS}{ft fu:DT}{pos:Pos}{st:Stmt}{rest:List Stmt}{tg:Expr}{gt:TG}{kt:D→Th→Option Th}
theorem zz0 {body:List Stmt} (m:Th→Nat) (hp:PassesOwn (model X.prog X.w) X.A X.env X.xe) (hc:PT X c (dT X.K F ft)) (hb:PSs X body (dS X.K F g)):PS X (.While c body [] pos) (dS X.K F (zw5 m ft g)):=by
 refine PS.imp (ps_while hp hc hb) ?_
 intro E σ H hh
 obtain⟨A,t,o,R,e,h⟩:=zap2 hh
 refine⟨fun n σ H => ∃A t o,whD ft g n t=some o∧RS X.K F H A t σ∧Post X.K F A H E o,⟨m t,A,t,o,e,R,h⟩,?_⟩
 rintro n σ H ⟨A,t,o,e,R,h⟩
 cases n with
 |zero=>cases e
 |succ n =>
  simp only [whD]at e
  cases e1:ft t with
  |none=>rw [e1]at e;cases e
  |some b =>
   rw [e1]at e
   refine⟨A,t,b,R,e1,fun H1 gs=>?_⟩
   have gr:Gr A H A H1:=Gr.of_same R.mu.left gs
   cases b with
   |false =>
    have e:some (Out.nx t)=some o:=e
    cases e
    exact iteF (h σ H1 A gr (R.grow gs))
   |true =>
    have e:((g t).bind fun o=>match o with
     |.nx t'=>whD ft g n t'
     |.ct t'=>whD ft g n t'
     |.bk t'=>some (.nx t')
     |.rt r=>some (.rt r))=some o:=e
    refine iteT ⟨fun σ' H' => ∃A t o,whD ft g n t=some o∧RS X.K F H' A t σ'∧Post X.K F A H' E o,fun σ' H' q=>⟨n,zbo2 n,q⟩,?_⟩
    cases e2:g t with
    |none=>rw [e2]at e;cases e
    |some o2 =>
     rw [e2]at e
     refine zbf4 (R.grow gs) e2 ?_
     cases o2 with
     |nx t'=>exact fun σ' H' A' g' R'=>⟨A',t',o,e,R',h.back (gr.trans g')⟩
     |ct t'=>exact fun σ' H' A' g' R'=>⟨A',t',o,e,R',h.back (gr.trans g')⟩
     |bk t'=>cases e;exact fun σ' H' A' g' R'=>h σ' H' A' (gr.trans g') R'
     |rt r=>cases e;exact Back.back h gr
theorem zas5 {K:zbj0}{J:It}{ds:List D}{E:Ends}{σ:L2.St}{H:Hp}{A:List Addr}{t:Th}{o:Out} (Good:List Addr→Hp→Prop) (ht:TgOk K F gt kt) (R:RS K F H A t σ) (e:forD kt g ds t=some o) (h:Post K F A H E o) (g0:Good A H)
  (keep:∀A H A' H',Good A H→Gr A H A' H'→Good A' H') (stop:∀A H,Good A H→J.stop ds.length H) (go:∀A H i,Good A H→i<ds.length→J.go i H)
  (yld:∀A H i x H',Good A H→Lists H (A++F)→J.yld i H x H'→i<ds.length→Same H H'∧∃d,ds[i]?=some d∧Rep K (hide (A++F) H') d x) :
  ∃W:Nat→Nat→L2.St→Hp→Prop,(∃m,W 0 m σ H)∧∀i m σ H,W i m σ H →
   (J.stop i H∧E.nx σ H)∨(J.go i H∧∃N:L2.St→Hp→Prop,(∀σ' H',N σ' H'→∃m',m' < m∧W (i+1) m' σ' H')∧∀x H',J.yld i H x H'→gt x σ H' fun σ2 H2=>dS K F g { E with nx:=N,ct:=N,bk:=E.nx } σ2 H2):=by
 refine⟨fun i m σ H=>i+m=ds.length∧∃A t o,forD kt g (ds.drop i) t=some o∧RS K F H A t σ∧Post K F A H E o∧Good A H,⟨ds.length,by lia,A,t,o,by simpa using e,R,h,g0⟩,?_⟩
 rintro i m σ H ⟨hm,A,t,o,e,R,h,gd⟩
 cases m with
 |zero =>
  have z:i=ds.length:=by lia
  subst z
  rw [zbq3]at e
  cases e
  exact .inl ⟨stop A H gd,h σ H A (Gr.refl R.mu.left) R⟩
 |succ m =>
  have hi:i<ds.length:=by lia
  refine .inr ⟨go A H i gd hi,fun σ' H'=>i+1+m=ds.length∧∃A t o,forD kt g (ds.drop (i+1)) t=some o∧RS K F H' A t σ'∧Post K F A H' E o∧Good A H',fun σ' H' q=>⟨m,zbo2 m,q⟩,fun x H' y=>?_⟩
  obtain⟨gs,d,hd,rd⟩:=yld A H i x H' gd R.mu y hi
  have ed:ds.drop i=d::ds.drop (i+1):=by
   have hd':ds[i]=d:=by
    rw [zbj6 hi]at hd
    exact Option.some.inj hd
   rw [← hd']
   exact zbm6 hi
  rw [ed]at e
  simp only [forD]at e
  cases e1:kt d t with
  |none=>rw [e1]at e;cases e
  |some t1 =>
   rw [e1]at e
   refine ht σ H' A t t1 d x _ (R.grow gs) rd e1 fun σ2 A2 gr3 R2=>?_
   have gr2:Gr A H A2 H':=(Gr.of_same R.mu.left gs).trans gr3
   have e:((g t1).bind fun o=>match o with
     |.nx t'=>forD kt g (ds.drop (i+1)) t'
     |.ct t'=>forD kt g (ds.drop (i+1)) t'
     |.bk t'=>some (.nx t')
     |.rt r=>some (.rt r))=some o:=e
   cases e2:g t1 with
   |none=>rw [e2]at e;cases e
   |some o2 =>
    rw [e2]at e
    refine zbf4 R2 e2 ?_
    cases o2 with
    |nx t'=>exact fun σ' H' A' g' R'=>⟨by lia,A',t',o,e,R',h.back (gr2.trans g'),keep _ _ _ _ gd (gr2.trans g')⟩
    |ct t'=>exact fun σ' H' A' g' R'=>⟨by lia,A',t',o,e,R',h.back (gr2.trans g'),keep _ _ _ _ gd (gr2.trans g')⟩
    |bk t'=>cases e;exact fun σ' H' A' g' R'=>h σ' H' A' (gr2.trans g') R'
    |rt r=>cases e;exact Back.back h gr2
noncomputable def dFor (k:D→Th→Option Th) (f:DE) (body:DS):DS:=fun t=>(f t).bind fun r=>match r.d with
 |.lst ds=>if r.ok then forD k body ds t else none
 |_=>none
theorem zv2 {body:List Stmt} (hp:PassesOwn (model X.prog X.w) X.A X.env X.xe) (hc:X.calm=true) (hl:PE X a (dE X.K F fa)) (hg:PG X tg gt) (ht:TgOk X.K F gt kt) (hb:PSs X body (dS X.K F g))
  (hs:∀x,foldedSetIterable a X.env x=pure x:=by intro _;rfl):PS X (.For tg a body [] pos) (dS X.K F (dFor kt fa g)):=by
 refine PS.imp (zah4 hp hc (zae2 hl) hg hb hs) ?_
 intro E σ H hh
 obtain⟨A,t,o,R,e,h⟩:=zap2 hh
 unfold dFor at e
 cases e1:fa t with
 |none=>rw [e1]at e;cases e
 |some r =>
  rw [e1]at e
  refine⟨A,t,r,R,e1,fun v H1 gs q=>?_⟩
  have e:(match r.d with
   |.lst ds=>if r.ok then forD kt g ds t else none
   |_=>none)=some o:=e
  split at e
  case h_2=>cases e
  rename_i ds z
  split at e
  case isFalse=>cases e
  rename_i ok
  have cl:=q.clean R.mu gs ok
  rw [z]at cl
  cases cl with
  |@lst _ p vs h1 h2 =>
   refine⟨p,rfl,⟨vs,SqL.mono (zb7 _ _) h1⟩,?_⟩
   refine zas5 (fun A H=>SqL X.K (hide (A++F) H) p vs∧Reps X.K (hide (A++F) H) ds vs) ht (R.grow gs) e (h.back (Gr.of_same R.mu.left gs)) ⟨h1,h2⟩ (fun A H A' H' q gr=>⟨SqL.mono gr.same q.1,Reps.mono gr.same q.2⟩)
    (fun A H q=>⟨vs,SqL.mono (zb7 _ _) q.1,by rw [h2.length];exact zbl1 _⟩) (fun A H i q hi=>?_) (fun A H i x H' q _ y hi=>?_)
   ·have hi':i<vs.length:=by rw [h2.length];exact hi
    exact⟨vs,vs[i],SqL.mono (zb7 _ _) q.1,zbj6 hi'⟩
   ·obtain⟨e1,e2⟩:=y
    have z:=e2 vs (SqL.mono (zb7 _ _) q.1)
    subst e1
    exact⟨Same.refl _,q.2.getV z⟩
def rngD (lo:Int) (n:Nat):List D:=(zbl9 n).map fun (i:Nat)=>D.int (lo+(i:Int))
def bigI (i:Int):Bool:=decide (-1000000000000≤i∧i≤1000000000000)
noncomputable def zac0 (k:D→Th→Option Th) (f:DE) (body:DS):DS:=fun t=>(f t).bind fun r=>match r.d with
 |.int n=>if bigI n then forD k body (rngD 0 n.toNat) t else none
 |_=>none
noncomputable def zak0 (k:D→Th→Option Th) (f f':DE) (body:DS):DS:=fun t=>(f t).bind fun r=>(f' t).bind fun r'=>match r.d,r'.d with
 |.int lo,.int n=>if bigI n&&bigI lo then forD k body (rngD lo (n - lo).toNat) t else none
 |_,_=>none
theorem zv1 (lo:Int) (n:Nat):(rngD lo n).length=n:=by simp [rngD]
theorem zaq7 {K:zbj0}{lo:Int}{n:Nat}{E:Ends}{σ:L2.St}{H:Hp}{A:List Addr}{t:Th}{o:Out} (ht:TgOk K F gt kt) (R:RS K F H A t σ) (e:forD kt g (rngD lo n) t=some o) (h:Post K F A H E o) :
  ∃W:Nat→Nat→L2.St→Hp→Prop,(∃m,W 0 m σ H)∧∀i m σ H,W i m σ H →
   ((Itr lo n).stop i H∧E.nx σ H)∨((Itr lo n).go i H∧∃N:L2.St→Hp→Prop,(∀σ' H',N σ' H'→∃m',m' < m∧W (i+1) m' σ' H')∧∀x H',(Itr lo n).yld i H x H'→gt x σ H' fun σ2 H2=>dS K F g { E with nx:=N,ct:=N,bk:=E.nx } σ2 H2):=by
 refine zas5 (fun _ _=>True) ht R e h trivial (fun _ _ _ _ _ _=>trivial) (fun A H _=>?_) (fun A H i _ hi=>?_) (fun A H i x H' _ _ y hi=>?_)
 ·rw [zv1];exact zbl1 n
 ·rw [zv1]at hi;exact hi
 ·rw [zv1]at hi
  obtain⟨e1,e2⟩:=y
  subst e1
  refine⟨Same.refl _,.int (lo+i),by simp [rngD,hi],?_⟩
  rw [e2];exact .int _
theorem zae0 {body:List Stmt}{p1 p2:Pos} (hp:PassesOwn (model X.prog X.w) X.A X.env X.xe) (hc:X.calm=true) (hgr:Gl X "range") (hm:X.mg "range"=none) (ha:PE X a (dE X.K F fa)) (hg:PG X tg gt) (ht:TgOk X.K F gt kt) (hb:PSs X body (dS X.K F g))
  (hst:zbl2 [a] X.env=[(false,eval a X.env)]:=by rfl) (hs:∀x,foldedSetIterable (.Call (.Name "range" p1) [a] [] p2) X.env x=pure x:=by intro _;rfl):PS X (.For tg (.Call (.Name "range" p1) [a] [] p2) body [] pos) (dS X.K F (zac0 kt fa g)):=by
 refine PS.imp (zah4 hp hc (zah6 hgr hm (zj2 ha zp0 hst) hst) hg hb hs) ?_
 intro E σ H hh
 obtain⟨A,t,o,R,e,h⟩:=zap2 hh
 unfold zac0 at e
 cases e1:fa t with
 |none=>rw [e1]at e;cases e
 |some r =>
  rw [e1]at e
  refine⟨A,t,r,R,e1,fun v H1 gs q=>?_⟩
  have e:(match r.d with
   |.int n=>if bigI n then forD kt g (rngD 0 n.toNat) t else none
   |_=>none)=some o:=e
  split at e
  case h_2=>cases e
  rename_i n z
  split at e
  case isFalse=>cases e
  rename_i ok
  simp only [bigI,decide_eq_true_eq]at ok
  have p:=q.full
  rw [z]at p
  cases zf9 p
  exact⟨n,rfl,by lia,by lia,zaq7 ht (R.grow gs) e (h.back (Gr.of_same R.mu.left gs))⟩
theorem zar4 {body:List Stmt}{p1 p2:Pos} (hp:PassesOwn (model X.prog X.w) X.A X.env X.xe) (hc:X.calm=true) (hgr:Gl X "range") (hm:X.mg "range"=none) (ha:PE X a (dE X.K F fa)) (hb':PE X b (dE X.K F fb)) (hg:PG X tg gt) (ht:TgOk X.K F gt kt) (hb:PSs X body (dS X.K F g))
  (hst:zbl2 [a,b] X.env=[(false,eval a X.env),(false,eval b X.env)]:=by rfl) (hst2:zbl2 [b] X.env=[(false,eval b X.env)]:=by rfl) (hs:∀x,foldedSetIterable (.Call (.Name "range" p1) [a,b] [] p2) X.env x=pure x:=by intro _;rfl) :
  PS X (.For tg (.Call (.Name "range" p1) [a,b] [] p2) body [] pos) (dS X.K F (zak0 kt fa fb g)):=by
 refine PS.imp (zah4 hp hc (zah5 hgr hm (zj2 ha (zj2 hb' zp0 hst2) (by rw [hst,hst2])) hst hst2) hg hb hs) ?_
 intro E σ H hh
 obtain⟨A,t,o,R,e,h⟩:=zap2 hh
 unfold zak0 at e
 cases e1:fa t with
 |none=>rw [e1]at e;cases e
 |some r =>
  cases e2:fb t with
  |none=>rw [e1,e2]at e;cases e
  |some r' =>
   rw [e1,e2]at e
   refine⟨A,t,r,R,e1,fun v H1 gs q=>⟨A,t,r',R.grow gs,e2,fun v2 H2 gs2 q2=>?_⟩⟩
   have e:(match r.d,r'.d with
    |.int lo,.int n=>if bigI n&&bigI lo then forD kt g (rngD lo (n - lo).toNat) t else none
    |_,_=>none)=some o:=e
   split at e
   case h_2=>cases e
   rename_i lo n z1 z2
   split at e
   case isFalse=>cases e
   rename_i ok
   simp only [bigI,zbj5,decide_eq_true_eq]at ok
   have p:=q.full
   rw [z1]at p
   cases zf9 p
   have p':=q2.full
   rw [z2]at p'
   cases zf9 p'
   exact⟨lo,n,rfl,⟨by lia,by lia,by lia,by lia⟩,zaq7 ht (R.grow (gs.trans gs2)) e (h.back (Gr.of_same R.mu.left (gs.trans gs2)))⟩
end
end DL
namespace DL
open PySem.Spec L2
theorem RSl.upd {K:zbj0}{H0 H H':Hp}{ds es:List D}{ws:List V}{p:Addr} (hp:H' p=some (.lst ws)) (he:Reps K H0 es ws):∀ {t:Th}{σ:L2.St}{A:List Addr} (i:Nat),RSl K H0 H t σ A→A.Nodup→t[i]?=some (.own ds)→σ[i]?=some (some (.ref p)) →
  (∀q∈A,q≠p→H' q=H q)→RSl K H0 H' (t.set i (.own es)) σ A
 |_,_,_,i,.nil,_,e,_,_=>by simp at e
 |_,_,_,0,.no r,_,e,_,_=>by simp at e
 |_,_,_,0,.val _ r,_,e,_,_=>by simp at e
 |_,_,_,0,.dp _ r,_,e,_,_=>by simp at e
 |_,_,_,i+1,.dp (B:=B) h1 r,nd,e,e2,k=>by
  have n:=zbl0.mp nd
  obtain⟨p3,vs3,a1,a2,_⟩:=RSl.getOwn r (i:=i) (ds:=ds) (by simpa using e)
  have:p3=p:=by simpa [a1] using e2
  subst this
  refine .dp (RepD.mono (Same.refl _) h1 fun q hq o w=>?_) (RSl.upd hp he i r n.2.1 (by simpa using e) (by simpa using e2) fun q hq=>k q (zbi9 _ hq))
  rw [k q (zbj1 _ hq) (fun z=>n.2.2 q hq p3 a2 z)];exact w
 |_,_,_,0,.own (p:=p2) (A:=A) h1 h2 r,nd,e,e2,k=>by
  simp at e2
  subst e2
  exact .own hp he (RSl.mono (Same.refl _) r fun q hq o h=>by
   have n:q≠p2:=fun z=>(zbl6.mp nd).1 (z ▸ hq)
   rw [k q (zbj2 _ hq) n];exact h)
 |_,_,_,i+1,.no r,nd,e,e2,k=>.no (RSl.upd hp he i r nd (by simpa using e) (by simpa using e2) k)
 |_,_,_,i+1,.val h r,nd,e,e2,k=>.val h (RSl.upd hp he i r nd (by simpa using e) (by simpa using e2) k)
 |_,_,_,i+1,.own (p:=p2) h1 h2 r,nd,e,e2,k=>by
  have n:=zbl6.mp nd
  have e2':=(show _ from e2)
  obtain⟨p3,vs3,a1,a2,_⟩:=RSl.getOwn r (i:=i) (ds:=ds) (by simpa using e)
  have:p3=p:=by simpa [a1] using e2
  subst this
  have np:p2≠p3:=fun z=>n.1 (z ▸ a2)
  refine .own (by rw [k p2 (zbj7 ..) np];exact h1) h2 (RSl.upd hp he i r n.2 (by simpa using e) (by simpa using e2) fun q hq=>k q (zbj2 _ hq))
theorem RS.write {K:zbj0}{F A:List Addr}{H:Hp}{t:Th}{σ:L2.St}{i:Nat}{ds es:List D}{ws:List V}{p:Addr} (R:RS K F H A t σ) (e:t[i]?=some (.own ds)) (e2:σ[i]?=some (some (.ref p))) (h:Reps K (hide (A++F) H) es ws) :
  RS K F (L2.upd H p (.lst ws)) A (t.set i (.own es)) σ∧Gr A H A (L2.upd H p (.lst ws)):=by
 obtain⟨p',vs,a1,a2,a3,a4⟩:=R.rel.getOwn e
 have:p'=p:=by simpa [a1] using e2
 subst this
 have hh:Same (hide (A++F) H) (hide (A++F) (L2.upd H p' (.lst ws))):=fun b o q=>by
  obtain⟨n,q⟩:=zl8 q
  have nb:b≠p':=fun z=>n (zbj1 _ (z ▸ a2))
  exact zd0 (by rw [zc9 nb];exact q) n
 have mu:Lists (L2.upd H p' (.lst ws)) (A++F):=fun q hq=>by
  by_cases z:q=p'
  ·exact⟨mL ws,by rw [z];exact zc1⟩
  ·obtain⟨us,w⟩:=R.mu q hq
   exact⟨us,by rw [zc9 z];exact w⟩
 refine⟨⟨mu,R.nd,R.dj,RSl.upd zc1 (Reps.mono hh h) i (RSl.mono hh R.rel (H':=H) fun _ _ _ h=>h) R.nd e e2 fun q _ n=>zc9 n⟩,?_⟩
 refine⟨fun b o n q=>?_,fun b hb=>?_,fun b hb=>.inl hb⟩
 ·rw [zc9 (fun z=>n (by rw [z];exact a2))];exact q
 ·obtain⟨us,w⟩:=mu b (zbj1 _ hb)
  rw [w];simp
noncomputable def kApp (t:Th) (i:Nat) (r:Ev):Option Out:=match t[i]? with
 |some (.own xs)=>if r.ok&&decide (xs.length<100000) then some (.nx (t.set i (.own (xs++[r.d])))) else none
 |_=>none
def dApp (i:Nat) (f:DE):DS:=fun t=>(f t).bind (kApp t i)
section
variable {X:Cx}{F:List Addr}{a b c:Expr}{es:List Expr}{fa fb fc:DE}{g g1 g2:DS}{ft fu:DT}{pos:Pos}{st:Stmt}{rest:List Stmt}{tg:Expr}{gt:TG}{kt:D→Th→Option Th}
theorem zz2 (i:Nat) {x:Str}{p0 apos cpos:Pos} (he:PE X a (dE X.K F fa)) (hN:X.N[i]?=some x:=by rfl) (hv:Vis X.env.scope x:=by first | exact Or.inl rfl | exact Or.inr (Or.inl rfl) |exact Or.inr (Or.inr rfl)) (hd:(x ==("__debug__":Str))=false:=by decide)
  (hcd:(x ==("__classdict__":Str))=false:=by decide) (hst:zbl2 [a] X.env=[(false,eval a X.env)]:=by rfl)
  (hbase:attributeBase (.Name x p0) "append" X.env (eval (.Name x p0) X.env)=eval (.Name x p0) X.env:=by rfl)
  (hfew:((zbs5 cpos (zbl2 [a] X.env)).all (fun x=>!x.1)&&(backToKw cpos (keywordEach [] X.env)).all (fun x=>x.1.isSome)
   && decide ([a].length+([]:List Keyword).length+(if ([]:List Keyword).isEmpty then 0 else 1)<30))=true:=by rfl)
  (hline:(apos.endLine == cpos.line)=true:=by rfl) (hplain:(zbs5 cpos (zbl2 [] X.env)).any (·.1)=false:=by rfl)
  (hsw:swapsWith (.Call (.Attribute (.Name x p0) "append" apos) [a] [] cpos) none pos.line X.env=pure false:=by rfl) :
  PS X (.Expr (.Call (.Attribute (.Name x p0) "append" apos) [a] [] cpos) pos) (dS X.K F (dApp i fa)):=by
 refine PS.imp (zaz4 (pe_bm zbx7 PySem.F.slot_list_append PySem.F.type_list_append zz9 (zt4 (i:=i) hN hv hd hcd) (zj2 he zp0 hst) hbase hfew hline hst hplain) hsw) ?_
 rintro E σ H ⟨A,t,o,R,e,h⟩
 unfold dApp at e
 cases e1:fa t with
 |none=>rw [e1]at e;cases e
 |some r =>
  rw [e1]at e
  have e:kApp t i r=some o:=e
  unfold kApp at e
  split at e
  case h_2=>cases e
  rename_i xs z
  split at e
  case isFalse=>cases e
  rename_i ok
  simp only [zbj5,decide_eq_true_eq]at ok
  cases e
  obtain⟨p,vs,a1,a2,a3,a4⟩:=R.rel.getOwn z
  refine⟨_,a1,.inl ⟨rfl,vs,SqL.of a3⟩,A,t,r,R,e1,fun y H1 gs q=>⟨p,vs,y,rfl,rfl,gs _ _ a3,?_,?_⟩⟩
  ·have:vs.length<100000:=by rw [a4.length];exact ok.2
   exact zbk9 this (by rw [sizeLine_eq];decide)
  ·obtain⟨R',g'⟩:=(R.grow gs).write (es:=xs++[r.d]) (ws:=vs++[y]) z a1 ((Reps.mono (zb6 gs) a4).app (Reps.one (q.clean R.mu gs ok.1)))
   exact h _ _ _ ((Gr.of_same R.mu.left gs).trans g') R'
noncomputable def kIx:Ev→Ev→Option Ev:=fun r1 r2=>match r1.d,r2.d with
 |.lst ds,.int i=>(atI ds i).map fun d=>if r1.ok||flat d then .cl d else .tm d
 |.tup ds,.int i=>(atI ds i).map fun d=>if r1.ok||flat d then .cl d else .tm d
 |_,_=>none
theorem Reps.atI {K:zbj0}{H:Hp}{ds:List D}{vs:List V} (r:Reps K H ds vs) {i:Int}{d:D} (e:L2.atI ds i=some d):∃v,L2.atI vs i=some v∧Rep K H d v:=by
 unfold L2.atI at e ⊢
 rw [r.length]
 cases e1:ixN ds.length i with
 |none=>rw [e1]at e;cases e
 |some j=>rw [e1]at e;exact r.get e
theorem zd8 (ha:PE X a (dE X.K F fa)) (hb:PE X b (dE X.K F fb)) (hs:zbi6 b:=by intro _ _;rfl):PE X (.Subscript a b pos) (dE X.K F (d2 kIx fa fb)):=by
 refine PE.imp (pe_ix (ix_list.or ix_tup) ha hb hs) ?_
 intro σ H Q h
 obtain⟨A,t,r1,r2,r,R,e1,e2,e,h,w⟩:=two h
 refine⟨A,t,r1,R,e1,fun x H1 gs1 q1=>⟨A,t,r2,R.grow gs1,e2,fun y H2 gs2 q2=>?_⟩⟩
 have q1:=q1.mono gs2
 have gs:=gs1.trans gs2
 have p2:=q2.full
 have m2:=R.mu.mono gs
 have key:∀(P:List Addr),Rep X.K (hide P H2) r1.d x→(∀d v,Rep X.K (hide P H2) d v→RepEv X.K F A H H2 (if r1.ok||flat d then Ev.cl d else Ev.tm d) v)→rIxL X.K x y H2 Q∨rIxT X.K x y H2 Q:=fun P hP fin=>by
  unfold kIx at e
  split at e
  ·rename_i ds i z1 z2
   rw [z2]at p2
   cases zf9 p2
   rw [z1]at hP
   cases hP with
   |@lst _ p vs h1 h2 =>
    cases e4:atI ds i with
    |none=>rw [e4]at e;cases e
    |some d =>
     rw [e4]at e
     have e:(if r1.ok||flat d then Ev.cl d else Ev.tm d)=r:=by simpa using e
     obtain⟨v,e5,rv⟩:=Reps.atI h2 e4
     exact .inl ⟨p,vs,i,v,rfl,rfl,SqL.mono (zb7 _ _) h1,e5,h v H2 gs (e ▸ fin d v rv)⟩
  ·rename_i ds i z1 z2
   rw [z2]at p2
   cases zf9 p2
   rw [z1]at hP
   cases hP with
   |@tup _ p vs h1 h2 =>
    cases e4:atI ds i with
    |none=>rw [e4]at e;cases e
    |some d =>
     rw [e4]at e
     have e:(if r1.ok||flat d then Ev.cl d else Ev.tm d)=r:=by simpa using e
     obtain⟨v,e5,rv⟩:=Reps.atI h2 e4
     exact .inr ⟨p,vs,i,v,rfl,rfl,SqT.mono (zb7 _ _) h1,e5,h v H2 gs (e ▸ fin d v rv)⟩
  ·cases e
 by_cases c:r1.ok=true
 ·refine key (A++F) (q1.clean R.mu gs c) fun d v rv=>?_
  rw [c,zbx2,if_pos rfl]
  exact rv
 ·refine key F (q1.cleanF R.mu) fun d v rv=>?_
  have c:r1.ok=false:=by simpa using c
  rw [c,zcb1]
  split
  ·rename_i f;exact Rep.hid m2 f (Rep.mono (zb7 _ _) rv)
  ·exact rv
noncomputable def kCat:Ev→Ev→Option Ev:=fun r1 r2=>match r1.d,r2.d with
 |.lst ds,.lst es=>if (r1.ok||flats ds)&&(r2.ok||flats es)&&decide (ds.length+es.length≤100000) then some (.nw (ds++es)) else none
 |_,_=>none
theorem RepEv.items {K:zbj0}{F A:List Addr}{H H':Hp}{r:Ev}{v:V}{ds:List D} (m:Lists H (A++F)) (gs:Same H H') (q:RepEv K F A H H' r v) (z:r.d=.lst ds) (c:(r.ok||flats ds)=true) :
  ∃p vs,v=.ref p∧SqL K H' p vs∧Reps K (hide (A++F) H') ds vs:=by
 rcases zbz6 _ _ ▸ c with c | c
 ·have w:=q.clean m gs c
  rw [z]at w
  cases w with
  |@lst _ p vs h1 h2=>exact⟨p,vs,rfl,SqL.mono (zb7 _ _) h1,h2⟩
 ·have w:=q.full
  rw [z]at w
  cases w with
  |@lst _ p vs h1 h2=>exact⟨p,vs,rfl,h1,Reps.hid (m.mono gs) c h2⟩
theorem cat_any {E:Value→zbk7→Prop}{A:Around}{prog:Program}{w:World}{s:zbk7}{l b:Addr}{vs ws:List Value}{Q:Value→zbk7→Prop} (hl:PlainL s.heap l vs.toArray) (hb:PlainL s.heap b ws.toArray)
  (h:Q (.ref s.heap.objs.size) { s with heap:=s.heap.push { cls:=.type "list",data:=.seq (vs++ws).toArray } }) (hsz:vs.length+ws.length≤sizeLine) :
  wpAny (model prog w) A (binaryOp .Add (.ref l) (.ref b)) Q E s:=by
 obtain⟨⟨cls,dd,data,sl⟩,n,ho,hc,hdd,hd⟩:=id hl
 obtain⟨⟨cls2,dd2,data2,sl2⟩,n2,ho2,hc2,hdd2,hd2⟩:=id hb
 simp only at hc hd hc2 hd2
 subst hc hd hc2 hd2
 have e:vs.toArray++ws.toArray=(vs++ws).toArray:=by simp
 refine concat_meets ⟨_,ho,rfl⟩ ⟨_,ho2,rfl⟩ noFill_list_add seq_list_add PySem.F.slot_list_add PySem.F.entry_list_add (PySem.F.args_list_add_2 _ _) (list_addW l b vs.toArray ws.toArray n n2 dd dd2 sl sl2 (by simpa using hsz)) ⟨ho,ho2,?_⟩
 rw [e]
 exact h
theorem ze2:OpD X F (binaryOp .Add) kCat:=by
 intro pins s σ H0 H A x y v u Q r1 r2 r I m g0 rx ry q1 q2 e hq
 unfold kCat at e
 split at e
 case h_2=>cases e
 rename_i ds es' z1 z2
 split at e
 case isFalse=>cases e
 rename_i c
 simp only [zbj5,decide_eq_true_eq]at c
 cases e
 obtain⟨p,vs,rfl,h1,h2⟩:=q1.items m g0 z1 c.1.1
 obtain⟨p',ws,rfl,h1',h2'⟩:=q2.items m g0 z2 c.1.2
 cases rx
 cases ry
 obtain⟨its,w1,w2,w3⟩:=I.list h1
 obtain⟨its',w1',w2',w3'⟩:=I.list h1'
 have l1:=h2.length
 have l2:=h2'.length
 have l3:=w1.length
 have l4:=w1'.length
 have hz:vs.length+ws.length≤sizeLine:=le_line (by lia)
 refine cat_any w2 w2' ⟨.ref _,_,I.lnew (t':=s.toks) (w1.append w1') (by rw [zbl8];exact hz),rfl,?_⟩ (by lia)
 refine hq _ _ (zd4 I.fresh) ⟨_,_,rfl,Same.free g0 I.fresh,zc1,Reps.mono (zk2 I.fresh) (h2.app h2')⟩
mutual
def eqD:D→D→Bool
 |.non,.non=>true
 |.bl a,.bl b=>decide (a=b)
 |.int a,.int b=>decide (a=b)
 |.str a,.str b=>decide (a=b)
 |.tup a,.tup b=>eqDs a b
 |.lst a,.lst b=>eqDs a b
 |.dct ks a,.dct ks' b=>decide (ks=ks')&&eqDs a b
 |.pdc a,.pdc b=>decide (a=b)
 |_,_=>false
def eqDs:List D→List D→Bool
 |[],[]=>true
 |a::as,b::bs=>eqD a b&&eqDs as bs
 |_,_=>false
end
noncomputable def eqOk:Nat→D→D→Bool
 |_,.non,.non=>true
 |_,.bl _,.bl _=>true
 |_,.int _,.int _=>true
 |_,.str _,.str _=>true
 |_,.non,.int _=>true
 |_,.int _,.non=>true
 |_,.non,.str _=>true
 |_,.str _,.non=>true
 |_,.non,.bl _=>true
 |_,.bl _,.non=>true
 |_,.int _,.str _=>true
 |_,.str _,.int _=>true
 |n+1,.tup xs,.tup ys=>(xs.zip ys).all fun p=>eqOk n p.1 p.2
 |n+1,.lst xs,.lst ys=>(xs.zip ys).all fun p=>eqOk n p.1 p.2
 |_,_,_=>false
theorem zaa9 {pins:List (Addr×Obj)}{s:zbk7}{σ:L2.St}{H:Hp}{p:Addr}{kvs:List (Key×V)} (I:Inv X pins σ H s) (h:H p=some (.dK kvs)):∃o,s.heap.get? p=some o∧o.cls=.type "dict":=by
 obtain⟨_,_,vs,_,m⟩:kvs.length≤sizeLine∧(p == sysModules)=false∧∃vs,KV kvs vs∧s.heap.DictOf (zh6 X.prog X.w) p vs:=I.hok p _ h
 exact m.typeIs
theorem zz5 {pins:List (Addr×Obj)}{s:zbk7}{σ:L2.St}{H:Hp}{p:Addr}{kvs:List (List Key×V)} (I:Inv X pins σ H s) (h:H p=some (.dT kvs)):∃o,s.heap.get? p=some o∧o.cls=.type "dict":=by
 obtain⟨_,_,xs,_,o,es,ep,h1,h2,_⟩:=(show ObjOk X.prog X.w H s.heap p (.dT kvs) from I.hok p _ h)
 exact⟨o,h1,h2.1⟩
theorem zaz7:∀ {a b:List (Int×Int)},pkv a=pkv b→a=b
 |[],[],_=>rfl
 |[],_::_,h=>by simp [pkv]at h
 |_::_,[],h=>by simp [pkv]at h
 |(x,y)::a,(z,w)::b,h=>by
  simp only [pkv,zbk4,List.cons.injEq,Prod.mk.injEq,Sum.inl.injEq,and_true]at h
  rw [h.1.1,h.1.2,zaz7 (a:=a) (b:=b) h.2]
theorem zip_inj {ks ks':List Key}{vs vs':List V} (l:ks.length=vs.length) (l':ks'.length=vs'.length) (h:mkKV ks vs=mkKV ks' vs'):ks=ks'∧vs=vs':=by
 unfold mkKV at h
 have h1:=congrArg (List.map Prod.fst) h
 have h2:=congrArg (List.map Prod.snd) h
 rw [zcc8 (by lia),zcc8 (by lia)]at h1
 rw [zcc9 (by lia),zcc9 (by lia)]at h2
 exact⟨h1,h2⟩
theorem Rep.injR {pins:List (Addr×Obj)}{s:zbk7}{σ:L2.St}{H:Hp} (I:Inv X pins σ H s):(∀ {d:D}{v:V},Rep X.K H d v→∀e,Rep X.K H e v→d=e)∧∀ {ds:List D}{vs:List V},Reps X.K H ds vs→∀es,Reps X.K H es vs→ds=es:=by
 have cl:∀ {p:Addr}{A B:String},(∃o,s.heap.get? p=some o∧o.cls=.type A)→(∃o,s.heap.get? p=some o∧o.cls=.type B)→A≠B→False:=fun ⟨o,e,c⟩ ⟨o',e',c'⟩ n=>by
  rw [e]at e';cases e'
  rw [c]at c';injection c' with c';exact n c'
 have ct:∀ {p:Addr}{vs:List V},SqT X.K H p vs→∃o,s.heap.get? p=some o∧o.cls=.type "tuple":=fun h=>by
  obtain⟨its,_,⟨o,e,c,_⟩,_⟩:=I.tuple h
  exact⟨o,e,c⟩
 have cL:∀ {p:Addr}{vs:List V},SqL X.K H p vs→∃o,s.heap.get? p=some o∧o.cls=.type "list":=fun h=>by
  obtain⟨its,_,⟨o,n,e,c,_⟩,_⟩:=I.list h
  exact⟨o,e,c⟩
 have key:∀ {d:D}{v:V},Rep X.K H d v→∀e,Rep X.K H e v→d=e:=fun h=>by
  refine Rep.rec (motive_1:=fun d v _ => ∀e,Rep X.K H e v→d=e) (motive_2:=fun ds vs _ => ∀es,Reps X.K H es vs→ds=es) ?_ ?_ ?_ ?_ ?_ ?_ ?_ ?_ ?_ ?_ h
  ·intro e h';cases h';rfl
  ·intro b e h';cases h';rfl
  ·intro b e h';cases h';rfl
  ·intro b e h';cases h';rfl
  ·intro ds p vs h1 r1 ih e h'
   cases h' with
   |tup h2 r2 =>
    have ev:=I.tuple_inj h1 h2
    subst ev
    rw [ih _ r2]
   |lst h2 r2=>exact (cl (ct h1) (cL h2) (by decide +kernel)).elim
   |dct _ h2 r2=>exact (cl (ct h1) (zaa9 I h2) (by decide +kernel)).elim
   |pdc h2=>exact (cl (ct h1) (zz5 I h2) (by decide +kernel)).elim
  ·intro ds p vs h1 r1 ih e h'
   cases h' with
   |tup h2 r2=>exact (cl (cL h1) (ct h2) (by decide +kernel)).elim
   |lst h2 r2 =>
    have ev:=I.list_inj h1 h2
    subst ev
    rw [ih _ r2]
   |dct _ h2 r2=>exact (cl (cL h1) (zaa9 I h2) (by decide +kernel)).elim
   |pdc h2=>exact (cl (cL h1) (zz5 I h2) (by decide +kernel)).elim
  ·intro ks ds p vs l1 h1 r1 ih e h'
   cases h' with
   |tup h2 r2=>exact (cl (zaa9 I h1) (ct h2) (by decide +kernel)).elim
   |lst h2 r2=>exact (cl (zaa9 I h1) (cL h2) (by decide +kernel)).elim
   |dct l2 h2 r2 =>
    rw [h1]at h2
    obtain⟨e1,e2⟩:=zip_inj l1 l2 (by injection h2 with h2;injection h2)
    subst e1 e2
    rw [ih _ r2]
   |pdc h2=>rw [h1]at h2;cases h2
  ·intro ps p h1 e h'
   cases h' with
   |tup h2 r2=>exact (cl (zz5 I h1) (ct h2) (by decide +kernel)).elim
   |lst h2 r2=>exact (cl (zz5 I h1) (cL h2) (by decide +kernel)).elim
   |dct _ h2 r2=>rw [h1]at h2;cases h2
   |pdc h2 =>
    rw [h1]at h2
    injection h2 with h2
    injection h2 with h2
    rw [zaz7 h2]
  ·intro es h';cases h';rfl
  ·intro d v ds vs h r ih1 ih2 es h'
   cases h' with
   |cons h' r'=>rw [ih1 _ h',ih2 _ r']
 refine⟨key,fun {ds vs} h=>?_⟩
 induction ds generalizing vs with
 |nil=>intro es h';cases h;cases h';rfl
 |cons d ds ih =>
  intro es h'
  cases h with
  |cons h r =>
   cases h' with
   |cons h' r'=>rw [key h _ h',ih r _ r']
theorem Rep.inj {pins:List (Addr×Obj)}{s:zbk7}{σ:L2.St}{H:Hp} (I:Inv X pins σ H s) {d e:D}{v:V} (h:Rep X.K H d v) (h':Rep X.K H e v):d=e:=(Rep.injR I).1 h e h'
mutual
theorem zbe3:∀ {a b:D},eqD a b=true↔a=b
 |.non,b=>by cases b<;>simp [eqD]
 |.bl _,b=>by cases b<;>simp [eqD]
 |.int _,b=>by cases b<;>simp [eqD]
 |.str _,b=>by cases b<;>simp [eqD]
 |.tup xs,b=>by
  cases b with
  |tup ys=>simp only [eqD,D.tup.injEq];exact eqDs_iff
  |_=>simp [eqD]
 |.lst xs,b=>by
  cases b with
  |lst ys=>simp only [eqD,D.lst.injEq];exact eqDs_iff
  |_=>simp [eqD]
 |.dct ks xs,b=>by
  cases b with
  |dct ks' ys=>simp only [eqD,D.dct.injEq,zbj5,decide_eq_true_eq];rw [eqDs_iff (a:=xs) (b:=ys)]
  |_=>simp [eqD]
 |.pdc a,b=>by cases b<;>simp [eqD]
theorem eqDs_iff:∀ {a b:List D},eqDs a b=true↔a=b
 |[],b=>by cases b<;>simp [eqDs]
 |x::xs,b=>by
  cases b with
  |nil=>simp [eqDs]
  |cons y ys =>
   simp only [eqDs,zbj5,List.cons.injEq]
   rw [zbe3 (a:=x) (b:=y),eqDs_iff (a:=xs) (b:=ys)]
end
theorem eqD_true {a b:D}:eqD a b=true↔a=b:=zbe3
theorem eqD_false {a b:D}:eqD a b=false↔¬ a=b:=by rw [← eqD_true];simp
def eAt (xs ys:List D) (j:Nat):Bool:=match xs[j]?,ys[j]? with
 |some a,some b=>eqD a b
 |_,_=>true
end
end DL
namespace DL
open PySem.Spec L2
theorem PlainL.isL {h:Heap}{a:Addr}{its:Array Value} (p:PlainL h a its):h.IsList a its:=by
 obtain⟨o,n,e,c,_,d⟩:=p
 exact⟨o,e,c,n,d⟩
section
variable {X:Cx}{F:List Addr}{a b c:Expr}{es:List Expr}{fa fb fc:DE}{g g1 g2:DS}{ft fu:DT}{pos:Pos}{st:Stmt}{rest:List Stmt}{tg:Expr}{gt:TG}{kt:D→Th→Option Th}
def scD:D→Bool
 |.tup _=>false
 |.lst _=>false
 |.dct _ _=>false
 |.pdc _=>false
 |_=>true
theorem eqV_D {K:zbj0}{H:Hp}{n:Nat}{d e:D}{v u:V} (r:Rep K H d v) (q:Rep K H e u) (s1:scD d=true) (s2:scD e=true) (ok:eqOk n d e=true):zu3 v=true∧zu3 u=true∧eqV v u=eqD d e:=by
 cases r<;>cases q<;>simp_all [scD,eqOk,zu3,eqV,eqD]
 all_goals (rw [zbp7];simp)
theorem zag2 {xs ys:List D} (h:xs.length=ys.length):(zbl9 xs.length).all (eAt xs ys)=eqD (.lst xs) (.lst ys):=by
 rw [zbp7,eqD_true,zbr1]
 constructor
 ·intro hh
  congr 1
  apply zby3 h
  intro i h1 h2
  have:=hh i (zbt7.mpr h1)
  simp only [eAt,zbj6 h1,zbj6 h2]at this
  exact eqD_true.mp this
 ·intro hh i hi
  injection hh with hh
  subst hh
  simp only [eAt]
  split
  ·rename_i a b z1 z2
   rw [z1]at z2;cases z2
   exact eqD_true.mpr rfl
  ·rfl
theorem zag1 {xs ys:List D}:((zbl9 (min xs.length ys.length)).all (eAt xs ys)&&xs.length == ys.length)=eqD (.tup xs) (.tup ys):=by
 by_cases h:xs.length=ys.length
 ·have e:min xs.length ys.length=xs.length:=by lia
  rw [e,zag2 h,beq_iff_eq.mpr h,zby4]
  rw [zbp7,eqD_true,eqD_true]
  simp
 ·have e:(xs.length == ys.length)=false:=by simpa using h
  rw [e,Bool.and_false]
  symm
  rw [eqD_false]
  intro z
  injection z with z
  exact h (by rw [z])
theorem zal4 {n:Nat}{xs ys:List D} (h:((xs.zip ys).all fun p=>eqOk n p.1 p.2)=true) {j:Nat}{x y:D} (hx:xs[j]?=some x) (hy:ys[j]?=some y):eqOk n x y=true:=by
 rw [zbr1]at h
 refine h (x,y) (zbt5 (i:=j) ?_)
 rw [List.getElem?_zip_eq_some]
 exact⟨hx,hy⟩
theorem zaj1 {A:Around}:A.in1.units=A.units+1:=rfl
theorem Vals.getL {vs:List V}{us:List Value} (h:Vals vs us) {j:Nat} (hj:j<us.toArray.size):∃v,vs[j]?=some v∧RelV v us.toArray[j]:=by
 have hj':j<vs.length:=by rw [h.length];simpa using hj
 obtain⟨u,e,r⟩:=Vals.get h (zbj6 hj')
 refine⟨_,zbj6 hj',?_⟩
 have:us.toArray[j]=u:=by
  have hj2:j<us.length:=by simpa using hj
  have:=zbj6 hj2
  rw [e]at this
  simpa using (Option.some.inj this).symm
 rw [this];exact r
theorem eqAt_D {pins:List (Addr×Obj)}{s:zbk7}{σ:L2.St}{H:Hp} (I:Inv X pins σ H s):∀(n:Nat) (A:Around) (d e:D) (v u:V) (y z:Value),A.units+n<cLine→eqOk n d e=true→Rep X.K H d v→Rep X.K H e u→RelV v y→RelV u z→SeqAt.EqAt A s y z (eqD d e):=by
 intro n
 induction n with
 |zero =>
  intro A d e v u y z hu ok r q ry rz
  have s1:scD d=true:=by cases d<;>cases e<;>simp_all [scD,eqOk]
  have s2:scD e=true:=by cases d<;>cases e<;>simp_all [scD,eqOk]
  obtain⟨f1,f2,ee⟩:=eqV_D r q s1 s2 ok
  rw [← ee]
  exact zbe4 ry rz f1 f2
 |succ n ih =>
  intro A d e v u y z hu ok r q ry rz
  by_cases s1:scD d=true
  ·have s2:scD e=true:=by cases d<;>cases e<;>simp_all [scD,eqOk]
   obtain⟨f1,f2,ee⟩:=eqV_D r q s1 s2 ok
   rw [← ee]
   exact zbe4 ry rz f1 f2
  ·have hu':A.in1.units+n<cLine:=by rw [zaj1];lia
   have hu0:A.units<cLine:=by lia
   cases r with
   |@tup xs p vs h1 h2 =>
    cases q with
    |@tup ys p' ws h1' h2' =>
     cases ry;cases rz
     by_cases z:p=p'
     ·subst z
      have e:=Rep.inj I (.tup h1 h2) (.tup h1' h2')
      rw [eqD_true.mpr e]
      exact SeqAt.EqAt.same _
     ·obtain⟨its,w1,w2,_⟩:=I.tuple h1
      obtain⟨its',w1',w2',_⟩:=I.tuple h1'
      refine SeqAt.EqAt.of_refs z ?_
      have k:=SeqAt.RcAt.tuples (A:=A) (e:=eAt xs ys) w2 w2' hu0 (fun j g1 g2=>by
       obtain⟨v1,a1,a2⟩:=Vals.getL w1 g1
       obtain⟨v2,b1,b2⟩:=Vals.getL w1' g2
       obtain⟨x1,c1,c2⟩:=h2.getV a1
       obtain⟨x2,d1,d2⟩:=h2'.getV b1
       have:=ih A.in1 x1 x2 v1 v2 _ _ hu' (zal4 (by simpa [eqOk] using ok) c1 d1) c2 d2 a2 b2
       have ee:eAt xs ys j=eqD x1 x2:=by simp only [eAt,c1,d1]
       rw [ee];exact this)
      have l1:its.toArray.size=xs.length:=by have:=w1.length;have:=h2.length;simp;lia
      have l2:its'.toArray.size=ys.length:=by have:=w1'.length;have:=h2'.length;simp;lia
      rw [l1,l2,zag1]at k
      exact k
    |_=>simp_all [eqOk]
   |@lst xs p vs h1 h2 =>
    cases q with
    |@lst ys p' ws h1' h2' =>
     cases ry;cases rz
     by_cases z:p=p'
     ·subst z
      have e:=Rep.inj I (.lst h1 h2) (.lst h1' h2')
      rw [eqD_true.mpr e]
      exact SeqAt.EqAt.same _
     ·obtain⟨its,w1,w2,_⟩:=I.list h1
      obtain⟨its',w1',w2',_⟩:=I.list h1'
      refine SeqAt.EqAt.of_refs z ?_
      have l1:its.toArray.size=xs.length:=by have:=w1.length;have:=h2.length;simp;lia
      have l2:its'.toArray.size=ys.length:=by have:=w1'.length;have:=h2'.length;simp;lia
      by_cases hl:xs.length=ys.length
      ·have k:=SeqAt.RcAt.lists (A:=A) (e:=eAt xs ys) (PlainL.isL w2) (PlainL.isL w2') (by rw [l1,l2];exact hl) hu0 (fun j g1 g2=>by
        obtain⟨v1,a1,a2⟩:=Vals.getL w1 g1
        obtain⟨v2,b1,b2⟩:=Vals.getL w1' g2
        obtain⟨x1,c1,c2⟩:=h2.getV a1
        obtain⟨x2,d1,d2⟩:=h2'.getV b1
        have:=ih A.in1 x1 x2 v1 v2 _ _ hu' (zal4 (by simpa [eqOk] using ok) c1 d1) c2 d2 a2 b2
        have ee:eAt xs ys j=eqD x1 x2:=by simp only [eAt,c1,d1]
        rw [ee];exact this)
       rw [l1,zag2 hl]at k
       exact k
      ·have ee:eqD (.lst xs) (.lst ys)=false:=eqD_false.mpr fun z=>hl (by injection z with z;rw [z])
       rw [ee]
       exact SeqAt.RcAt.lists_lengths (PlainL.isL w2) (PlainL.isL w2') (by rw [l1,l2];simpa using hl) hu0
    |_=>simp_all [eqOk]
   |dct=>exact absurd ok (by cases e<;>simp [eqOk])
   |pdc=>exact absurd ok (by cases e<;>simp [eqOk])
   |_=>simp_all [scD]
theorem zaq5 {pins:List (Addr×Obj)}{s:zbk7}{σ:L2.St}{H:Hp} (I:Inv X pins σ H s) {n:Nat}{A:Around}{xs ys:List D}{vs ws:List V}{its its':List Value} (hu:A.units+n+1<cLine) (ok:((xs.zip ys).all fun p=>eqOk n p.1 p.2)=true)
  (h2:Reps X.K H xs vs) (h2':Reps X.K H ys ws) (w1:Vals vs its) (w1':Vals ws its'):∀j (g1:j<its.toArray.size) (g2:j<its'.toArray.size),SeqAt.EqAt A.in1 s its.toArray[j] its'.toArray[j] (eAt xs ys j):=fun j g1 g2=>by
 obtain⟨v1,a1,a2⟩:=Vals.getL w1 g1
 obtain⟨v2,b1,b2⟩:=Vals.getL w1' g2
 obtain⟨x1,c1,c2⟩:=h2.getV a1
 obtain⟨x2,d1,d2⟩:=h2'.getV b1
 have:=eqAt_D I n A.in1 x1 x2 v1 v2 _ _ (by rw [zaj1];lia) (zal4 ok c1 d1) c2 d2 a2 b2
 have ee:eAt xs ys j=eqD x1 x2:=by simp only [eAt,c1,d1]
 rw [ee];exact this
def kEq:Ev→Ev→Option Ev:=fun r1 r2=>if eqOk 6 r1.d r2.d then some (.cl (.bl (eqD r1.d r2.d))) else none
def kNe:Ev→Ev→Option Ev:=fun r1 r2=>if eqOk 6 r1.d r2.d then some (.cl (.bl (!eqD r1.d r2.d))) else none
theorem scal_D {K:zbj0}{H:Hp}{n:Nat}{d e:D}{v u:V} (r:Rep K H d v) (q:Rep K H e u) (s1:scD d=true) (ok:eqOk n d e=true):scal v u=true∧decide (v=u)=eqD d e:=by
 cases r<;>cases q<;>simp_all [scD,eqOk,scal,eqD]
theorem zp7 (hu:X.A.units+64<cLine):OpD X F (compareOp .Eq) kEq:=by
 intro pins s σ H0 H A x y v u Q r1 r2 r I m g0 rx ry q1 q2 e hq
 unfold kEq at e
 split at e
 case isFalse=>cases e
 rename_i ok
 cases e
 have p1:=q1.full
 have p2:=q2.full
 by_cases s1:scD r1.d=true
 ·obtain⟨a1,a2⟩:=scal_D p1 p2 s1 ok
  exact op_eq pins s σ H x y v u Q I rx ry ⟨a1,by rw [a2];exact hq _ H (Same.refl H) (.bl _)⟩
 ·generalize r1.d=d1 at *
  generalize r2.d=d2 at *
  have hu0:X.A.units<cLine:=by lia
  cases p1 with
  |@tup xs p vs h1 h2 =>
   cases p2 with
   |@tup ys p' ws h1' h2' =>
    cases rx;cases ry
    obtain⟨its,w1,w2,_⟩:=I.tuple h1
    obtain⟨its',w1',w2',_⟩:=I.tuple h1'
    have l1:its.toArray.size=xs.length:=by have:=w1.length;have:=h2.length;simp;lia
    have l2:its'.toArray.size=ys.length:=by have:=w1'.length;have:=h2'.length;simp;lia
    refine SeqAt.eq_tupleAt w2 w2' hu0 (zaq5 I (n:=5) (by lia) (by simpa [eqOk] using ok) h2 h2' w1 w1') ?_
    rw [l1,l2,zag1]
    exact⟨.bl _,H,I,rfl,hq _ H (Same.refl H) (.bl _)⟩
   |_=>simp_all [eqOk]
  |@lst xs p vs h1 h2 =>
   cases p2 with
   |@lst ys p' ws h1' h2' =>
    cases rx;cases ry
    obtain⟨its,w1,w2,_⟩:=I.list h1
    obtain⟨its',w1',w2',_⟩:=I.list h1'
    have l1:its.toArray.size=xs.length:=by have:=w1.length;have:=h2.length;simp;lia
    have l2:its'.toArray.size=ys.length:=by have:=w1'.length;have:=h2'.length;simp;lia
    by_cases hl:xs.length=ys.length
    ·refine SeqAt.eq_listAt (PlainL.isL w2) (PlainL.isL w2') (by rw [l1,l2];exact hl) hu0 (zaq5 I (n:=5) (by lia) (by simpa [eqOk] using ok) h2 h2' w1 w1') ?_
     rw [l1,zag2 hl]
     exact⟨.bl _,H,I,rfl,hq _ H (Same.refl H) (.bl _)⟩
    ·have ee:eqD (.lst xs) (.lst ys)=false:=eqD_false.mpr fun z=>hl (by injection z with z;rw [z])
     rw [ee]at hq
     exact SeqAt.eq_list_lengthsAt (PlainL.isL w2) (PlainL.isL w2') (by rw [l1,l2];simpa using hl) hu0 ⟨.bl _,H,I,rfl,hq _ H (Same.refl H) (.bl _)⟩
   |_=>simp_all [eqOk]
  |dct=>exact absurd ok (by cases d2<;>simp [eqOk])
  |pdc=>exact absurd ok (by cases d2<;>simp [eqOk])
  |_=>simp_all [scD]
theorem zan8 (hu:X.A.units+64<cLine):OpD X F (compareOp .NotEq) kNe:=by
 intro pins s σ H0 H A x y v u Q r1 r2 r I m g0 rx ry q1 q2 e hq
 unfold kNe at e
 split at e
 case isFalse=>cases e
 rename_i ok
 cases e
 have p1:=q1.full
 have p2:=q2.full
 by_cases s1:scD r1.d=true
 ·obtain⟨a1,a2⟩:=scal_D p1 p2 s1 ok
  exact op_ne pins s σ H x y v u Q I rx ry ⟨a1,by rw [a2];exact hq _ H (Same.refl H) (.bl _)⟩
 ·generalize r1.d=d1 at *
  generalize r2.d=d2 at *
  have hu0:X.A.units<cLine:=by lia
  cases p1 with
  |@tup xs p vs h1 h2 =>
   cases p2 with
   |@tup ys p' ws h1' h2' =>
    cases rx;cases ry
    obtain⟨its,w1,w2,_⟩:=I.tuple h1
    obtain⟨its',w1',w2',_⟩:=I.tuple h1'
    have l1:its.toArray.size=xs.length:=by have:=w1.length;have:=h2.length;simp;lia
    have l2:its'.toArray.size=ys.length:=by have:=w1'.length;have:=h2'.length;simp;lia
    have k:=SeqAt.RcNeAt.tuples (A:=X.A) w2 w2' hu0 (zaq5 I (n:=5) (by lia) (by simpa [eqOk] using ok) h2 h2' w1 w1')
    rw [l1,l2,zag1]at k
    exact k _ _ _ _ ⟨.bl _,H,I,rfl,hq _ H (Same.refl H) (.bl _)⟩
   |_=>simp_all [eqOk]
  |@lst xs p vs h1 h2 =>
   cases p2 with
   |@lst ys p' ws h1' h2' =>
    cases rx;cases ry
    obtain⟨its,w1,w2,_⟩:=I.list h1
    obtain⟨its',w1',w2',_⟩:=I.list h1'
    have l1:its.toArray.size=xs.length:=by have:=w1.length;have:=h2.length;simp;lia
    have l2:its'.toArray.size=ys.length:=by have:=w1'.length;have:=h2'.length;simp;lia
    by_cases hl:xs.length=ys.length
    ·have k:=SeqAt.RcNeAt.lists (A:=X.A) (PlainL.isL w2) (PlainL.isL w2') (by rw [l1,l2];exact hl) hu0 (zaq5 I (n:=5) (by lia) (by simpa [eqOk] using ok) h2 h2' w1 w1')
     rw [l1,zag2 hl]at k
     exact k _ _ _ _ ⟨.bl _,H,I,rfl,hq _ H (Same.refl H) (.bl _)⟩
    ·have ee:eqD (.lst xs) (.lst ys)=false:=eqD_false.mpr fun z=>hl (by injection z with z;rw [z])
     rw [ee]at hq
     exact SeqAt.RcNeAt.lists_lengths (A:=X.A) (PlainL.isL w2) (PlainL.isL w2') (by rw [l1,l2];simpa using hl) hu0 _ _ _ _ ⟨.bl _,H,I,rfl,hq _ H (Same.refl H) (.bl _)⟩
   |_=>simp_all [eqOk]
  |dct=>exact absurd ok (by cases d2<;>simp [eqOk])
  |pdc=>exact absurd ok (by cases d2<;>simp [eqOk])
  |_=>simp_all [scD]
noncomputable def tyD:D→String
 |.non => "NoneType"
 |.bl _ => "bool"
 |.int _ => "int"
 |.str _ => "str"
 |.tup _ => "tuple"
 |.lst _ => "list"
 |.dct _ _ => "dict"
 |.pdc _ => "dict"
def isiT (d:D) (T:String):Bool:=tyD d == T||(tyD d == "bool"&&T == "int")
def dIsi (T:String) (f:DE):DE:=fun t=>(f t).bind fun r=>some (.cl (.bl (isiT r.d T)))
def IsiOk (K:zbj0) (T:String):Prop := ∀d:D,PySem.W.kitOne K (.type (tyD d)) (.type T)=some (isiT d T)
theorem ped_isi {T:String}{x:Str}{p p2:Pos} (ok:IsiOk X.K T) (ha:PE X a (dE X.K F fa)) (hg:Gl X "isinstance") (hm:X.mg "isinstance"=none) (hgT:Gl X x) (hmT:X.mg x=none) (hvT:bootBuiltins x=some (.type T)) (hnT:x≠"__name__":=by decide) (hdT:(x ==("__debug__":Str))=false:=by decide)
  (he:zbl2 (a::[Expr.Name x p2]) X.env=(false,eval a X.env)::zbl2 [.Name x p2] X.env:=by rfl) (he2:zbl2 [Expr.Name x p2] X.env=[(false,eval (.Name x p2) X.env)]:=by rfl) (hpl:(zbs5 pos (zbl2 [Expr.Name x p2] X.env)).any (·.1)=false:=by rfl) :
  PE X (.Call (.Name "isinstance" p) [a,.Name x p2] [] pos) (dE X.K F (dIsi T fa)):=by
 have rule:zm7 X (.builtin "isinstance") (fun xs H Q => ∃v d,xs=[v,.ty T]∧Rep X.K H d v∧Q (.bl (isiT d T)) H):=by
  intro pins s σ H xs us Q I r h
  obtain⟨v,d,rfl,rp,hq⟩:=h
  obtain⟨u,w',rfl,r1,r2⟩:=vals2 r
  cases (show w'=Value.type T from r2)
  have fin:∀tk,EP X pins σ Q (.bool (isiT d T)) { s with toks:=tk }:=fun tk=>⟨.bl _,H,I.tok tk,rfl,hq⟩
  have e:=ok d
  cases rp with
  |non=>cases (show u=Value.none from r1);exact zbq8 PySem.W.kitx_none I.kIn True.intro e (fun z=>nomatch z) fin
  |bl y=>cases (show u=Value.bool y from r1);exact zbq8 PySem.W.kitx_bool I.kIn True.intro e (fun z=>nomatch z) fin
  |int i=>obtain⟨t,q⟩:=(show ∃t,u=Value.int i t from r1);cases q;exact zbq8 PySem.W.kitx_int I.kIn True.intro e (fun z=>nomatch z) fin
  |str y=>obtain⟨t,q⟩:=(show ∃t,u=Value.str y t from r1);cases q;exact zbq8 PySem.W.kitx_str I.kIn True.intro e (fun z=>nomatch z) fin
  |@tup _ p _ h1 h2 =>
   cases (show u=Value.ref p from r1)
   obtain⟨its,_,⟨o,e1,c1,_⟩,_⟩:=I.tuple h1
   exact zbq8 PySem.W.kitx_tuple I.kIn ⟨o,e1,c1⟩ e (fun z=>nomatch z) fin
  |@lst _ p _ h1 h2 =>
   cases (show u=Value.ref p from r1)
   obtain⟨its,_,⟨o,n,e1,c1,_⟩,_⟩:=I.list h1
   exact zbq8 PySem.W.kitx_list I.kIn ⟨o,e1,c1⟩ e (fun z=>nomatch z) fin
  |@dct _ _ p _ _ h1 h2 =>
   cases (show u=Value.ref p from r1)
   exact zbq8 zcb8 I.kIn (zaa9 I h1) e (fun z=>nomatch z) fin
  |@pdc _ p h1 =>
   cases (show u=Value.ref p from r1)
   exact zbq8 zcb8 I.kIn (zz5 I h1) e (fun z=>nomatch z) fin
 refine PE.imp (zar7 rule hg hm boot_isinstance (zj2 ha (zj2 (pe_bltn (v:=.ty T) hgT hmT hvT rfl hnT hdT) zp0 he2) he) (by decide) (by decide) he hpl) ?_
 rintro σ H Q ⟨A,t,r,R,e,h⟩
 unfold dIsi at e
 cases e1:fa t with
 |none=>rw [e1]at e;cases e
 |some r1 =>
  rw [e1]at e
  cases e
  exact⟨A,t,r1,R,e1,fun v H' gs q=>⟨v,r1.d,rfl,q.full,h _ H' gs (.bl _)⟩⟩
end
def zac6 (N:List Str) (ds:List D):Th:=ds.map Sl.val++zbj8 (N.length - ds.length) Sl.no
theorem RSl.no_all {K:zbj0}{H0 H:Hp}:∀n,RSl K H0 H (zbj8 n Sl.no) (zbj8 n none) []
 |0=>.nil
 |n+1=>.no (RSl.no_all n)
theorem RSl.start {K:zbj0}{H0 H:Hp}{t:Th}{σ:L2.St} (r0:RSl K H0 H t σ []):∀ {ds:List D}{vs:List V},Reps K H0 ds vs→RSl K H0 H (ds.map Sl.val++t) (vs.map some++σ) []
 |_,_,.nil=>r0
 |_,_,.cons h r=>.val h (RSl.start r0 r)
def zk5:Out→Option Ev
 |.rt r=>some r
 |.nx _=>some (.cl .non)
 |_=>none
theorem zg9 {P:Program}{w:World}{K:zbj0}{mg:Str→Option Value}{base:BHeap}{x qual:Str}{st:Stmt}{f:Addr}{fd:FuncData}{N ps:List Str}{k:Nat}{G:List D→Option Ev} (Fn:L2.Fun K x qual st f fd) (S:FnScope N ps (zb8 st))
  (hlen:∀ds r,G ds=some r→ds.length=ps.length) (g:DS) (hG:∀ds r,G ds=some r→∃o,g (zac6 N ds)=some o∧zk5 o=some r)
  (hbody:∀(cdv:Value) (A:Around) (outer:List Env) (s:zbk7) (H:Hp) (E:XK) (F:List Addr),Room k (A.deeper (envOfC qual (zb8 st) s.heap.objs.size f cdv)) →
   PSs (cxOf CX0 P w K mg base N qual (zb8 st) f cdv A outer s H E).nox (zk7 st) (dS K F g)):FnOk P w K mg base CX0 (k+1) f fd ps (spD K G):=by
 refine Fn.ok S (fun vs H Q E h=>?_) (fun cdv A outer s H vs Q E hr h=>?_)
 ·obtain⟨Fo,ds,r,_,hr,hg,_⟩:=h
  rw [hr.length];exact hlen ds r hg
 ·obtain⟨Fo,ds,r,hl,hr',hg,cont⟩:=h
  obtain⟨o,ho,hoe⟩:=hG ds r hg
  refine⟨_,hbody cdv A outer s H E Fo hr,zbf4 (A:=[]) (t:=zac6 N ds) ⟨hl,zbm2,fun p hp=>(by cases hp),?_⟩ ho ?_⟩
  ·unfold zac6 L2.start
   rw [hr'.length]
   exact RSl.start (RSl.no_all _) hr'
  ·have sm:∀ {A' H'},Gr [] H A' H'→Same H H':=fun g b o q=>g.kp b o (by simp) q
   cases o with
   |nx t' =>
    cases hoe
    exact fun σ' H' A' g' R'=>cont .non H' (sm g') .non
   |bk t'=>cases hoe
   |ct t'=>cases hoe
   |rt r' =>
    cases hoe
    intro v H' A' g' q
    refine cont v H' (sm g') ?_
    cases r with
    |cl d=>exact q
    |tm d=>exact q
    |nw xs =>
     obtain⟨p,vs',rfl,h1,h2,h3,h4⟩:=q
     rcases h1 with h1 | h1
     ·cases h1
     ·exact⟨p,vs',rfl,h1,h3,h4⟩
    |dn d =>
     obtain⟨B,h1,h2,h3⟩:=q
     exact⟨B,h1,fun b hb=>by rcases (h2 b hb).1 with z | z;cases z;exact z,h3⟩
end DL
namespace DL
open PySem.Spec L2
structure Cal (P:Program) (w:World) (K:zbj0) (mg:Str→Option Value) (base:BHeap) (x:Str) (k:Nat) (G:List D→Option Ev):Prop where
 ex:∃(a:Addr) (fd:FuncData) (ps:List Str),mg x=some (.ref a)∧zbo8 K (.ref a)=true∧L2.Binds K fd ps []∧FnOk P w K mg base CX0 k a fd ps (spD K G)
section
variable {X:Cx}{F:List Addr}{a b c:Expr}{es:List Expr}{fa fb fc:DE}{ga:DA}{pos:Pos}
theorem zb0 {k:Nat}{G:List D→Option Ev}{x:Str}{p:Pos} (c:Cal X.prog X.w X.K X.mg X.base x k G) (hr:Room k X.A) (ha:PA X (a::es) (dA X.K F ga)) (hg:Gl X x:=by rfl) (hdb:(x ==("__debug__":Str))=false:=by decide)
  (he:zbl2 (a::es) X.env=(false,eval a X.env)::zbl2 es X.env:=by rfl) (hpl:(zbs5 pos (zbl2 es X.env)).any (·.1)=false:=by rfl):PE X (.Call (.Name x p) (a::es) [] pos) (dE X.K F (dT1 (zc3 G) ga)):=by
 obtain⟨f,fd,ps,h1,h2,h3,h4⟩:=c.ex
 exact ped_call h4 hr hg h1 h2 h3 ha hdb he hpl
end
structure Df (K:zbj0) (mg:Str→Option Value) (x:Str) (st:Stmt) (ps:List Str) (a:Addr) (fd:FuncData):Prop where
 fn:L2.Fun K x x st a fd
 mgx:mg x=some (.ref a)
 bd:L2.Binds K fd ps []
theorem Df.cal {P:Program}{w:World}{K:zbj0}{mg:Str→Option Value}{base:BHeap}{x:Str}{st:Stmt}{ps:List Str}{a:Addr}{fd:FuncData}{k:Nat}{G:List D→Option Ev} (d:Df K mg x st ps a fd) (h:FnOk P w K mg base CX0 k a fd ps (spD K G)):Cal P w K mg base x k G :=
 ⟨a,fd,ps,d.mgx,d.fn.kp,d.bd,h⟩
theorem isi_bool {K:zbj0}:IsiOk K "bool":=fun d=>by cases d<;>rfl
theorem bt_int:bootBuiltins "int"=some (.type "int"):=by decide +kernel
theorem bt_bool:bootBuiltins "bool"=some (.type "bool"):=by decide +kernel
theorem bt_list:bootBuiltins "list"=some (.type "list"):=by decide +kernel
theorem bt_abs:bootBuiltins "abs"=some (.builtin "abs"):=by decide +kernel
end DL
namespace DL
open PySem.Spec L2
theorem cut1 {n:Nat}:∀ {us:List Value},us.length=n+1→∃a t,us=a::t∧t.length=n
 |a::t,h=>⟨a,t,rfl,Nat.succ.inj h⟩
theorem zad3 {K:zbj0}{x qual:Str}{st:Stmt}{f:Addr}{fd:FuncData}{p0:Str} (F:L2.Fun K x qual st f fd) (h:∀(kV doc pm:Value) (an:Option Addr) (cdv ct:Value),∀a0:Value,bindArgs (zbq2 x qual (zm4 st) (zk7 st) (zb8 st) .none kV doc pm an cdv ct) ⟨[a0],[]⟩=pure [(p0,a0)]):Binds K fd [p0] [] :=
 F.binds fun kV doc pm an cdv ct u0 h0=>by
  obtain⟨a0,u1,rfl,h1⟩:=cut1 h0
  cases zbr8.mp h1
  exact h kV doc pm an cdv ct a0
theorem zw8 {K:zbj0}{x qual:Str}{st:Stmt}{f:Addr}{fd:FuncData}{p0 p1:Str} (F:L2.Fun K x qual st f fd) (h:∀(kV doc pm:Value) (an:Option Addr) (cdv ct:Value),∀a0 a1:Value,bindArgs (zbq2 x qual (zm4 st) (zk7 st) (zb8 st) .none kV doc pm an cdv ct) ⟨[a0,a1],[]⟩=pure [(p0,a0),(p1,a1)]):Binds K fd [p0,p1] [] :=
 F.binds fun kV doc pm an cdv ct u0 h0=>by
  obtain⟨a0,u1,rfl,h1⟩:=cut1 h0
  obtain⟨a1,u2,rfl,h2⟩:=cut1 h1
  cases zbr8.mp h2
  exact h kV doc pm an cdv ct a0 a1
theorem zak8 {K:zbj0}{x qual:Str}{st:Stmt}{f:Addr}{fd:FuncData}{p0 p1 p2:Str} (F:L2.Fun K x qual st f fd) (h:∀(kV doc pm:Value) (an:Option Addr) (cdv ct:Value),∀a0 a1 a2:Value,bindArgs (zbq2 x qual (zm4 st) (zk7 st) (zb8 st) .none kV doc pm an cdv ct) ⟨[a0,a1,a2],[]⟩=pure [(p0,a0),(p1,a1),(p2,a2)]):Binds K fd [p0,p1,p2] [] :=
 F.binds fun kV doc pm an cdv ct u0 h0=>by
  obtain⟨a0,u1,rfl,h1⟩:=cut1 h0
  obtain⟨a1,u2,rfl,h2⟩:=cut1 h1
  obtain⟨a2,u3,rfl,h3⟩:=cut1 h2
  cases zbr8.mp h3
  exact h kV doc pm an cdv ct a0 a1 a2
theorem zat5 {K:zbj0}{x qual:Str}{st:Stmt}{f:Addr}{fd:FuncData}{p0 p1 p2 p3:Str} (F:L2.Fun K x qual st f fd) (h:∀(kV doc pm:Value) (an:Option Addr) (cdv ct:Value),∀a0 a1 a2 a3:Value,bindArgs (zbq2 x qual (zm4 st) (zk7 st) (zb8 st) .none kV doc pm an cdv ct) ⟨[a0,a1,a2,a3],[]⟩=pure [(p0,a0),(p1,a1),(p2,a2),(p3,a3)]):Binds K fd [p0,p1,p2,p3] [] :=
 F.binds fun kV doc pm an cdv ct u0 h0=>by
  obtain⟨a0,u1,rfl,h1⟩:=cut1 h0
  obtain⟨a1,u2,rfl,h2⟩:=cut1 h1
  obtain⟨a2,u3,rfl,h3⟩:=cut1 h2
  obtain⟨a3,u4,rfl,h4⟩:=cut1 h3
  cases zbr8.mp h4
  exact h kV doc pm an cdv ct a0 a1 a2 a3
inductive Hv (K:zbj0) (x:Str) (st:Stmt) (f:Addr):Prop
 |mk {od an:Option Addr}{sl:Array (Option Value)}{oc kV dc pm cd ct:Value} (a:zbo1 K mainGlobals x=some (some (.ref f))) (l:K.lookup f=some ⟨oc,od,.func (zbq2 x x (zm4 st) (zk7 st) (zb8 st) .none kV dc pm an cd ct),sl⟩) (c:zbx1 K cd x=true) (k:zbo8 K (.ref f)=true):Hv K x st f
theorem Hv.fn {K:zbj0}{x:Str}{st:Stmt}{f:Addr} (h:Hv K x st f):∃fd,L2.Fun K x x st f fd:=by
 cases h with
 |mk a l c k=>exact⟨_,fun_mk l c k⟩
theorem Hv.mg {K:zbj0}{x:Str}{st:Stmt}{f:Addr}{hp:Heap}{mg:Str→Option Value} (h:Hv K x st f) (X:K.In hp) (G:hp.Ns mainGlobals mg):mg x=some (.ref f):=by
 cases h with
 |mk a l c k=>exact PySem.W.mg_of X G a
theorem zl7 {N P:List Str}{sc:Scope} (h1:sc.kind=.function) (h2:sc.isCoroutine=false) (h3:sc.isGenerator=false) (h5:N.take P.length=P) (h:(decide N.Nodup&&(decide (∀x∈P,sc.names.lookup x=some .local∨sc.names.lookup x=some .cell)&&decide (∀y∈sc.names,y.2≠.free)))=true):FnScope N P sc:=by
 rw [zbj5,zbj5,decide_eq_true_eq,decide_eq_true_eq,decide_eq_true_eq]at h
 exact⟨h1,h2,h3,h.1,h5,h.2.1,h.2.2⟩
theorem Hv.bt {K:zbj0}{x:Str}{st:Stmt}{f:Addr}{fd:FuncData}{p:Str} (F:L2.Fun K x x st f fd) (h:∀(kV doc pm:Value) (an:Option Addr) (cdv ct:Value) (v:Value),bindArgs (zbq2 x x (zm4 st) (zk7 st) (zb8 st) .none kV doc pm an cdv ct) ⟨[v],[]⟩=pure [(p,v)]) (s:zbk7) (v:Value):BindsTo s fd ⟨[v],[]⟩ [(p,v)]:=by
 obtain⟨oc,od,kV,doc,pm,an,cdv,ct,osl,rfl,lk,hcd⟩:=F.ex
 exact .of_eq (h ..)
def locB (sc:Scope) (x:Str):Bool:=match sc.names.lookup x with
 |some .local=>true
 |some .cell=>true
 |_=>false
theorem zb1 {sc:Scope}{x:Str} (h:locB sc x=true):L2.Loc sc x:=by
 unfold locB at h
 unfold L2.Loc
 cases e:sc.names.lookup x with
 |none=>rw [e]at h;cases h
 |some k=>rw [e]at h;cases k<;>first | exact .inl rfl | exact .inr rfl | cases h
end DL
namespace L2
open PySem.Spec
section
variable {X:Cx}{pins:List (Addr×Obj)}{σ:L2.St}{H:Hp}{s:zbk7}{h':Heap}
theorem Inv.turnedNew {t':Nat}{fp:List Addr}{a:Addr}{o:HO} (I:Inv X pins σ H s) (k:∀b u,b∉fp→s.heap.get? b=some u→h'.get? b=some u) (hf:∀b∈fp,FpOk X pins H b) (hp:s.heap.objs.size≤a)
  (new:ObjOk X.prog X.w (upd H a o) h' a o):Inv X pins σ (upd H a o) { s with heap:=h',toks:=t' }:=by
 have ha:H a=none:=I.hok.fresh hp
 have sm:∀b u,H b=some u→upd H a o b=some u:=fun b u e=>by rw [zc9 (fun z=>by rw [z,ha]at e;cases e)];exact e
 have nfp:∀b u,H b=some u→b∉fp:=fun b u e z=>by rw [(hf b z).1]at e;cases e
 refine I.step (g':=s.gens) (d':=s.drawn) (ch:=fp) (fun b hb=>?_) (fun b u _ _ hc e _=>k b u hc e) (fun b u _ _ hc e _=>⟨u.slots,k b u hc e⟩) (fun b u _ e n=>?_)
  (fun b u hc e=>⟨u,k b u hc e⟩) (fun b xs e=>sm b _ e) (fun b q u e=>sm b _ e) (fun b ps e=>sm b _ e) (fun m hm=>?_) (fun b u e=>?_) I.bare
 ·obtain⟨f0,f1,f2,f3,f4,f5⟩:=hf b hb
  exact⟨f3,f1,f4,f5⟩
 ·rw [zc9 (zbl7 (zbk9 (zbk8 e) hp))];exact n
 ·obtain⟨q,es,ep,ho,r⟩:=hm
  exact⟨q,es,ep,k _ q (fun z=>(hf _ z).2.1 rfl) ho,r⟩
 ·by_cases z:b=a
  ·subst z
   rw [zc1]at e
   cases e
   exact new
  ·rw [zc9 z]at e
   refine (I.hok b u e).stay (fun c v hc q=>k c v ?_ q) (fun c q=>sm c _ q) (fun c xs q=>sm c _ q) fun c o u q=>sm c _ q
   rcases hc with w | w
   ·rw [w];exact nfp b u e
   ·exact nfp c _ w
theorem Inv.turnedL {t':Nat}{fp:List Addr} (I:Inv X pins σ H s) (k:∀b u,b∉fp→s.heap.get? b=some u→h'.get? b=some u) (hf:∀b∈fp,FpOk X pins H b):Inv X pins σ H { s with heap:=h',toks:=t' }:=by
 have nfp:∀b u,H b=some u→b∉fp:=fun b u e z=>by rw [(hf b z).1]at e;cases e
 refine I.step (g':=s.gens) (d':=s.drawn) (ch:=fp) (fun b hb=>?_) (fun b u _ _ hc e _=>k b u hc e) (fun b u _ _ hc e _=>⟨u.slots,k b u hc e⟩) (fun b u _ e n=>n)
  (fun b u hc e=>⟨u,k b u hc e⟩) (fun b xs e=>e) (fun b q u e=>e) (fun b ps e=>e) (fun m hm=>?_) (fun b u e=>?_) I.bare
 ·obtain⟨f0,f1,f2,f3,f4,f5⟩:=hf b hb
  exact⟨f3,f1,f4,f5⟩
 ·obtain⟨q,es,ep,ho,r⟩:=hm
  exact⟨q,es,ep,k _ q (fun z=>(hf _ z).2.1 rfl) ho,r⟩
 ·refine (I.hok b u e).stay (fun c v hc q=>k c v ?_ q) (fun c q=>q) (fun c xs q=>q) fun c o u q=>q
  rcases hc with w | w
  ·rw [w];exact nfp b u e
  ·exact nfp c _ w
end
noncomputable def Ite (K:zbj0) (a:Addr):It :=
 ⟨fun i H => ∃xs x,SqL K H a xs∧xs[i]?=some x,fun i H x H' => ∃p v,H p=none∧x=.ref p∧H'=upd H p (.tup [.int i,v])∧∀xs,SqL K H a xs→xs[i]?=some v,fun i H => ∃xs,SqL K H a xs∧xs.length≤i⟩
def EnumAt (e it a:Addr) (i:Nat) (h:Heap):Prop:=(∃old,IsEnum h e it (i:Int) old)∧h.IsListIter it a i∧e≠it
theorem zax3 {P:Program}{w:World}{K:zbj0}{elts:List Expr}{k:Nat}{pos:Pos} (a e it:Addr):Turn P w K (.Tuple elts k pos) (Ite K a) [e,it] e (EnumAt e it a) where
 mem:=by simp
 obj:=fun i h st b hb=>by
  obtain⟨⟨old,h1⟩,h2,_⟩:=st
  rcases (by simpa using hb:b=e∨b=it) with rfl | rfl
  ·exact⟨_,h1,fun v z=>by cases z⟩
  ·obtain⟨o,e1,c,d⟩:=h2
   exact⟨o,e1,fun v z=>by rw [d]at z;cases z⟩
 keep:=fun i h h' st kk=>by
  obtain⟨⟨old,h1⟩,h2,ne⟩:=st
  exact⟨⟨old,kk e (by simp) _ h1⟩,h2.at fun o q=>kk it (by simp) o q,ne⟩
 item:=by
  intro X hP hw hK hc i pins s σ H E I hf st hg
  subst hP hw hK
  obtain⟨xs,x,hq,hx⟩:=hg
  obtain⟨its,rv,p,hz⟩:=I.list hq
  obtain⟨u,hu,ru⟩:=rv.get hx
  obtain⟨⟨old,h1⟩,h2,ne⟩:=st
  refine wpAny_pyNext_enum_item h1 h2 p.isList (x:=u) (by simpa using hu) ne fun h1' heo hit1 ht1 hz1 hk1=>?_
  refine⟨_,rfl,wpAny_letOwnedTupleGo_enum heo fun h2' he2 hs2=>?_⟩
  replace hs2:Heap.SameBut e h1' h2':=hs2
  have es:e<s.heap.objs.size:=zbk8 h1
  have kp:∀b o,b∉[e,it]→s.heap.get? b=some o→h2'.get? b=some o:=fun b o nb q=>by
   have n1:b≠e:=fun z=>nb (by simp [z])
   have n2:b≠it:=fun z=>nb (by simp [z])
   exact (hs2.2 b n1).trans (hk1 b o n1 n2 q)
  have ht2:h2'.get? s.heap.objs.size=some { cls:=.type "tuple",data:=.seq #[.int i s.toks,u] }:=(hs2.2 _ (zbr3 es)).trans ht1
  have I2:Inv X pins σ (upd H s.heap.objs.size (.tup [.int i,x])) { s with heap:=h2',toks:=s.toks+1 }:=I.turnedNew (t':=s.toks+1) kp hf (zbl1 _)
   ⟨by show 2≤sizeLine;decide,[.int i s.toks,u],.cons ⟨_,rfl⟩ (.cons ru .nil),⟨_,ht2,rfl,_,rfl⟩⟩
  refine⟨.ref s.heap.objs.size,_,I2,rfl,⟨s.heap.objs.size,x,I.hok.fresh (zbl1 _),rfl,rfl,fun ys hy=>by rw [I.list_inj hy hq];exact hx⟩,⟨⟨u,?_⟩,?_,ne⟩,fun b hb=>?_⟩
  ·exact he2
  ·exact hit1.extBut hs2.extBut (Ne.symm ne)
  ·rw [zc9 (fun z=>?_)]
   ·exact (hf b hb).1
   ·rcases (by simpa using hb:b=e∨b=it) with w' |w'
    ·rw [← z,w']at es;exact absurd es (zbp5 _)
    ·obtain⟨o,e1,_⟩:=h2
     have:=zbk8 e1
     rw [← w',z]at this;exact absurd this (zbp5 _)
 done:=by
  intro X hP hw hK hc i pins s σ H E I hf st hg
  subst hP hw hK
  obtain⟨xs,hq,hx⟩:=hg
  obtain⟨its,rv,p,hz⟩:=I.list hq
  obtain⟨⟨old,h1⟩,h2,ne⟩:=st
  have hl:=rv.length
  refine wpAny_pyNext_enum_end (I.ok.hd hc) h1 h2 p.isList (by simp;lia) fun h' eb=>⟨rfl,I.turnedL (t':=s.toks) (fun b o nb q=>eb b o (fun z=>nb (by simp [z])) q) hf⟩
 self:=fun _ _ _ _ _ st h=>by
  obtain⟨⟨old,h1⟩,_,_⟩:=st
  exact wpAny_pyIter_enum h1 h
def iEnum (K:zbj0) (tl:TE):TI:=fun σ H R=>tl σ H fun x H1 => ∃a,x=.ref a∧(∃xs,SqL K H1 a xs)∧R (Ite K a) H1
theorem bt_enum:bootBuiltins "enumerate"=some (.type "enumerate"):=by decide +kernel
theorem pi_enum {X:Cx}{l:Expr}{tl:TE}{elts:List Expr}{k:Nat}{tp p pos:Pos} (hg:Gl X "enumerate") (hm:X.mg "enumerate"=none) (hl:PE X l tl) (hs:zbl2 [l] X.env=[(false,eval l X.env)]:=by rfl) :
  PI X (.Tuple elts k tp) (.Call (.Name "enumerate" p) [l] [] pos) (iEnum X.K tl):=by
 intro pins s σ H R I h
 refine Call_ (zp1 I hg hm bt_enum (PyProof.Rows.callWith_type1 (thn ((zj2 hl zp0 hs) pos pins s σ H (fun vs H1=>match vs with | [x] => ∃a,x=.ref a∧(∃xs,SqL X.K H1 a xs)∧R (Ite X.K a) H1 | _=>False) I h) fun us s1 ⟨vs,H1,I1,r1,q1⟩=>?_) hs rfl))
 cases r1 with
 |nil=>exact q1.elim
 |@cons x u xr ur ru rr =>
  cases rr with
  |cons _ _=>exact q1.elim
  |nil =>
  obtain⟨a,rfl,⟨xs,hq⟩,q⟩:=q1
  cases ru
  obtain⟨its,rv,p,hz⟩:=I1.list hq
  refine call_enumerate_list p.isList fun h' he hit hz' hk=>?_
  have I2:Inv X pins σ H1 { s1 with heap:=h' }:=I1.kept (t':=s1.toks) hk
  refine wpAny_pyIter_enum he ?_
  refine⟨s1.heap.objs.size+1,[s1.heap.objs.size+1,s1.heap.objs.size],EnumAt (s1.heap.objs.size+1) s1.heap.objs.size a,Ite X.K a,H1,rfl,I2,zax3 a _ _,⟨⟨_,he⟩,hit,Nat.succ_ne_self _⟩,fun b hb=>?_,q⟩
  rcases (by simpa using hb:b=s1.heap.objs.size+1∨b=s1.heap.objs.size) with rfl | rfl
  ·exact I1.fpOk (zce9 _) (I1.hok.fresh (zce9 _))
  ·exact I1.fpOk (zbl1 _) (I1.hok.fresh (zbl1 _))
end L2
namespace DL
open PySem.Spec L2
def zu5 (i:Nat):List D→List D
 |[]=>[]
 |d::ds=>.tup [.int i,d]::zu5 (i+1) ds
theorem zu4:∀(i:Nat) (ds:List D),(zu5 i ds).length=ds.length
 |_,[]=>rfl
 |i,d::ds=>by simp [zu5,zu4 (i+1) ds]
theorem zaj7:∀(i:Nat) (ds:List D) (j:Nat) (d:D),ds[j]?=some d→(zu5 i ds)[j]?=some (.tup [.int ((i+j:Nat):Int),d])
 |_,[],j,d,h=>by simp at h
 |i,e::ds,0,d,h=>by simp at h;subst h;simp [zu5]
 |i,e::ds,j+1,d,h=>by
  have:=zaj7 (i+1) ds j d (by simpa using h)
  simp only [zu5,zbu1,this]
  rw [show i+1+j=i+(j+1) by lia]
end DL
namespace L2
open PySem.Spec
noncomputable def clOf (cells:List (Str×Addr)):List (Str×NameKind)→List (Str×Addr)→List (Str×Addr)
 |[],acc=>acc
 |(n,k)::r,acc=>if k == .free then clOf cells r ((n,(cells.lookup n).getD 0)::acc) else clOf cells r acc
theorem zs2 {cells:List (Str×Addr)}:∀ {names:List (Str×NameKind)}{acc:List (Str×Addr)}{x:Str}{c:Addr},(∀y∈names,y.2=.free→∃c,cells.lookup y.1=some c)→(clOf cells names acc).lookup x=some c→acc.lookup x=some c∨cells.lookup x=some c
 |[],acc,x,c,_,h=>.inl h
 |(n,k)::r,acc,x,c,hy,h=>by
  unfold clOf at h
  have hr:∀y∈r,y.2=.free→∃c,cells.lookup y.1=some c:=fun y h1=>hy y (zbj2 _ h1)
  split at h
  ·rename_i hk
   rcases zs2 hr h with z | z
   ·rw [zbm8]at z
    split at z
    ·rename_i e
     have e:x=n:=by simpa using e
     obtain⟨c',hc'⟩:=hy (n,k) (zbj7 ..) (by simpa using hk)
     simp only [hc',zcd0]at z
     cases z
     rw [e];exact .inr hc'
    ·exact .inl z
   ·exact .inr z
  ·exact zs2 hr h
theorem zab3 {cells:List (Str×Addr)}:∀ {names:List (Str×NameKind)}{acc:List (Str×Addr)}{x:Str},(∃c,acc.lookup x=some c)→∃c,(clOf cells names acc).lookup x=some c
 |[],acc,x,h=>h
 |(n,k)::r,acc,x,h=>by
  unfold clOf
  split
  ·refine zab3 ?_
   rw [zbm8]
   split
   ·exact⟨_,rfl⟩
   ·exact h
  ·exact zab3 h
theorem zy6 {cells:List (Str×Addr)}:∀ {names:List (Str×NameKind)}{acc:List (Str×Addr)}{x:Str},(x,NameKind.free)∈names→∃c,(clOf cells names acc).lookup x=some c
 |(n,k)::r,acc,x,h=>by
  unfold clOf
  rcases zbj9.mp h with z | z
  ·cases z
   rw [if_pos (by rfl)]
   refine zab3 ⟨(cells.lookup n).getD 0,?_⟩
   simp [zbm8]
  ·split
   ·exact zy6 z
   ·exact zy6 z
theorem zq8 {scope:Scope}{env:Env} (h:∀y∈scope.names,y.2=.free→∃c,env.cells.lookup y.1=some c):closureFor scope env=pure (clOf env.cells scope.names []):=by
 unfold closureFor
 have key:∀(names:List (Str×NameKind)) (acc:List (Str×Addr)),(∀y∈names,y.2=.free→∃c,env.cells.lookup y.1=some c) →
   (forIn names acc fun (x:Str×NameKind) (cs:List (Str×Addr))=>(do
    if x.2 == .free then
     let a ← cellOf env x.1
     pure (ForInStep.yield ((x.1,a)::cs))
    else pure (ForInStep.yield cs):Sem (ForInStep (List (Str×Addr)))))=pure (clOf env.cells names acc):=by
  intro names
  induction names with
  |nil=>intro acc _;rfl
  |cons y r ih =>
   intro acc hy
   obtain⟨n,k⟩:=y
   have hr:∀y∈r,y.2=.free→∃c,env.cells.lookup y.1=some c:=fun y h1=>hy y (zbj2 _ h1)
   rw [List.forIn_cons]
   unfold clOf
   by_cases hk:(k == NameKind.free)=true
   ·obtain⟨c,hc⟩:=hy (n,k) (zbj7 ..) (by simpa using hk)
    have hc':cellOf env n=pure c:=by unfold cellOf;rw [hc]
    simp only [hk,if_true,hc']
    rw [← ih _ hr]
    simp only [hc,zcd0]
    rfl
   ·have hk':(k == NameKind.free)=false:=by simpa using hk
    simp only [hk',zbu2,if_false]
    rw [← ih _ hr]
    rfl
 have:=key scope.names [] h
 simp only [bind_pure_comp]at this ⊢
 rw [this]
 rfl
theorem zh9 {env:Env}:∀ {names:List (Str×NameKind)}{x:Str}{k':NameKind},(names.map fun (n,k)=>if (k == NameKind.free&&env.scope.kind == .function&&env.kindOf n == some .cell) then (n,NameKind.cell) else (n,k)).lookup x=some k' →
  ∃k,(x,k)∈names∧(k'=k∨(k=.free∧k'=.cell))
 |[],x,k',h=>by simp at h
 |(n,k)::r,x,k',h=>by
  rw [zbk4]at h
  by_cases hc:(k == NameKind.free&&env.scope.kind == .function&&env.kindOf n == some .cell)=true
  ·simp only [hc,if_true,zbm8]at h
   split at h
   ·rename_i e
    have e:x=n:=by simpa using e
    cases h
    simp only [zbj5,beq_iff_eq]at hc
    have hk:k=.free:=by simpa using hc.1.1
    exact⟨k,by rw [e];exact zbj7 ..,.inr ⟨hk,rfl⟩⟩
   ·obtain⟨q,a,b⟩:=zh9 h
    exact⟨q,zbj2 _ a,b⟩
  ·have hc':(k == NameKind.free&&env.scope.kind == .function&&env.kindOf n == some .cell)=false:=by simpa using hc
   simp only [hc',zbu2,if_false,zbm8]at h
   split at h
   ·rename_i e
    have e:x=n:=by simpa using e
    cases h
    exact⟨_,by rw [e];exact zbj7 ..,.inl rfl⟩
   ·obtain⟨q,a,b⟩:=zh9 h
    exact⟨q,zbj2 _ a,b⟩
theorem zw7 {prog:Program}{w:World}{A:Around}{R:Result→zbk7→Prop}{s:zbk7}{elt target iter:Expr}{ifs:List Expr}{scope:Scope}{pos:Pos}{it acc:Value}{env:Env} (I:Nat→zbk7→Prop)
  (turn:∀n s,I n s→wpAny (model prog w) A (pyNext it) (fun r s₁=>match r with
   |none=>R (.ok .next) s₁
   |some v=>wpAny (model prog w) A (letOwnedTupleGo target it v) (fun _ s₁'=>wpAny (model prog w) A (assign target env v) (fun _ s₂ =>
     wpAny (model prog w) A (forIn ifs true fun c r=>if r=true then do let ok ← isTrue c env (eval c env);pure (ForInStep.yield ok) else pure (ForInStep.yield r)) (fun ok s₃ =>
      if ok=true then wpAny (model prog w) A (eval elt env) (fun x s₄ =>
       wpAny (model prog w) A (call (.builtin "list.append") [acc,x]) (fun _ s₅ => ∃m,m<n∧I m s₅) (fun _ _=>False) s₄) (fun _ _=>False) s₃
      else ∃m,m<n∧I m s₃) (fun _ _=>False) s₂) (fun _ _=>False) s₁') (fun _ _=>False) s₁) (fun _ _=>False) s)
  (n:Nat) (h:I n s):codeAny (model prog w) A (.compLoop (.ListComp elt [⟨target,iter,ifs,0⟩] scope pos) 0 it acc env) R s:=by
 refine codeAny_loop rfl I (fun n s hI=>?_) n h
 show wpAny _ A ((compTurn (.ListComp elt [⟨target,iter,ifs,0⟩] scope pos) 0 it acc env).onRaise (fun x=>do noteFrame x env;theTreesLotGoes x)) _ _ s
 refine wpAny_noted ?_
 rw [compTurn_list]
 refine zbk2 (wpAny_standAt (zbk2 (wpAny_mono (turn n s hI) (fun r s₁ h₁=>?_) fun _ _ h'=>h'.elim)))
 cases r with
 |none=>exact zbm0 h₁
 |some v =>
  refine zbk2 (wpAny_mono h₁ (fun _ s₁' h₁'=>?_) fun _ _ h'=>h'.elim)
  refine zbk2 (wpAny_mono h₁' (fun _ s₂ h₂=>zbk2 (wpAny_mono h₂ (fun ok s₃ h₃=>?_) fun _ _ h'=>h'.elim)) fun _ _ h'=>h'.elim)
  cases ok with
  |false=>exact zbm0 ⟨rfl,h₃⟩
  |true =>
   exact zbk2 (zbk2 (wpAny_mono h₃ (fun x s₄ h₄=>zbk2 (wpAny_mono h₄ (fun _ s₅ h₅=>zbm0 (zbm0 ⟨rfl,h₅⟩)) fun _ _ h'=>h'.elim)) fun _ _ h'=>h'.elim))
theorem zaf6 {x:Str}{c:Addr}:∀ {names:List (Str×NameKind)}{n:Nat}{acc:List (Str×Addr)},(cellsFrom n names acc).lookup x=some c→acc.lookup x=some c∨n≤c
 |[],n,acc,h=>.inl h
 |(y,k)::r,n,acc,h=>by
  unfold cellsFrom at h
  split at h
  ·rcases zaf6 h with z | z
   ·rw [zbm8]at z
    split at z
    ·cases z;exact .inr (zbl1 _)
    ·exact .inl z
   ·exact .inr (by lia)
  ·exact zaf6 h
theorem zat2 {x:Str}:∀ {names:List (Str×NameKind)}{n:Nat}{acc:List (Str×Addr)},(∃c,acc.lookup x=some c)→∃c,(cellsFrom n names acc).lookup x=some c
 |[],n,acc,h=>h
 |(y,k)::r,n,acc,h=>by
  unfold cellsFrom
  split
  ·refine zat2 ?_
   rw [zbm8]
   split
   ·exact⟨_,rfl⟩
   ·exact h
  ·exact zat2 h
theorem zap6 {x:Str}:∀ {names:List (Str×NameKind)}{n:Nat}{acc:List (Str×Addr)},(x,NameKind.cell)∈names→∃c,(cellsFrom n names acc).lookup x=some c
 |(y,k)::r,n,acc,h=>by
  unfold cellsFrom
  rcases zbj9.mp h with z | z
  ·cases z
   rw [if_pos (by rfl)]
   exact zat2 ⟨n,by simp [zbm8]⟩
  ·split
   ·exact zap6 z
   ·exact zap6 z
theorem cf_ge {x:Str}{c:Addr}{lo:Nat}:∀ {names:List (Str×NameKind)}{n:Nat}{acc:List (Str×Addr)},lo≤n→(∀c,acc.lookup x=some c→lo≤c)→(cellsFrom n names acc).lookup x=some c→lo≤c
 |[],n,acc,_,ha,h=>ha c h
 |(y,k)::r,n,acc,hn,ha,h=>by
  unfold cellsFrom at h
  split at h
  ·refine cf_ge (n:=n+1) (by lia) (fun c' h'=>?_) h
   rw [zbm8]at h'
   split at h'
   ·cases h';exact hn
   ·exact ha c' h'
  ·exact cf_ge hn ha h
theorem zbg4 {x:Str}{c:Addr}:∀ {names:List (Str×NameKind)}{n:Nat}{acc:List (Str×Addr)},(x,NameKind.cell)∈names→(cellsFrom n names acc).lookup x=some c→n≤c
 |(y,k)::r,n,acc,hm,h=>by
  unfold cellsFrom at h
  rcases zbj9.mp hm with z | z
  ·cases z
   rw [if_pos (by rfl)]at h
   refine cf_ge (lo:=n) (n:=n+1) (by lia) (fun c' h'=>?_) h
   rw [zbm8,beq_self_eq_true]at h'
   cases h'
   exact zbl1 _
  ·split at h
   ·have:=zbg4 z h;lia
   ·exact zbg4 z h
theorem zbg3 {x:Str}:∀ {names:List (Str×NameKind)}{n:Nat}{acc:List (Str×Addr)},(x,NameKind.cell)∉names→(cellsFrom n names acc).lookup x=acc.lookup x
 |[],n,acc,_=>rfl
 |(y,k)::r,n,acc,h=>by
  have hr:(x,NameKind.cell)∉r:=fun z=>h (zbj2 _ z)
  unfold cellsFrom
  split
  ·rename_i hk
   rw [zbg3 hr,zbm8]
   split
   ·rename_i e
    exact absurd (zbj9.mpr (.inl (by rw [show x=y by simpa using e,show k=NameKind.cell by simpa using hk]))) h
   ·rfl
  ·exact zbg3 hr
theorem zbg6:∀ {names:List (Str×NameKind)}{n:Nat}{acc:List (Str×Addr)},(∀x c,acc.lookup x=some c→c<n)→(∀x y c,acc.lookup x=some c→acc.lookup y=some c→x=y) →
  ∀x y c,(cellsFrom n names acc).lookup x=some c→(cellsFrom n names acc).lookup y=some c→x=y
 |[],n,acc,_,hi=>hi
 |(z,k)::r,n,acc,hb,hi=>by
  unfold cellsFrom
  split
  ·refine zbg6 (n:=n+1) (fun x c h=>?_) (fun x y c h1 h2=>?_)
   ·rw [zbm8]at h
    split at h
    ·cases h;exact zbo2 _
    ·exact zbr5 (hb x c h)
   ·rw [zbm8]at h1 h2
    split at h1
    ·rename_i e1
     cases h1
     split at h2
     ·rename_i e2;rw [show x=z by simpa using e1,show y=z by simpa using e2]
     ·exact absurd (hb y _ h2) (zbp5 _)
    ·split at h2
     ·cases h2;exact absurd (hb x _ h1) (zbp5 _)
     ·exact hi x y c h1 h2
  ·exact zbg6 hb hi
theorem zap7 {x:Str}{c:Addr}:∀ {names:List (Str×NameKind)}{h:Heap}{acc:List (Str×Addr)},(∀c,acc.lookup x=some c→∃v,h.IsCell c v)→(cellsFrom h.objs.size names acc).lookup x=some c→∃v,(pushCells h names).IsCell c v
 |[],h,acc,ha,e=>ha c e
 |(y,k)::r,h,acc,ha,e=>by
  unfold cellsFrom at e
  unfold pushCells
  split at e
  ·rename_i hk
   rw [if_pos hk]
   rw [show h.objs.size+1=(h.push { cls:=.type "cell",data:=.cell none }).objs.size from (zbs7 ..).symm]at e
   refine zap7 (fun c' e'=>?_) e
   rw [zbm8]at e'
   split at e'
   ·cases e';exact⟨none,_,zbm7 _ rfl,rfl⟩
   ·obtain⟨v,z⟩:=ha c' e'
    exact⟨v,z.keeps fun b o q=>zbk0 _ q⟩
  ·rename_i hk
   rw [if_neg hk]
   exact zap7 ha e
theorem zj9 {M:Model}{A:Around}{E:Value→zbk7→Prop}{s:zbk7}{scope:Scope}{globals:Addr}{cl:List (Str×Addr)}{qual:Str}{func:Option Addr}{code:Value}{env:Env}{builtins:Addr}{Q:Env→zbk7→Prop}
  (hQ:∀h',h'.Ns s.heap.objs.size (fun _=>none)→(∀b o,s.heap.get? b=some o→h'.get? b=some o)→(∀x c,(∀c,cl.lookup x=some c→∃v,s.heap.IsCell c v)→(cellsFrom (s.heap.objs.size+1) scope.names cl).lookup x=some c→∃v,h'.IsCell c v) →
   Q (newEnv scope s.heap.objs.size globals (cellsFrom (s.heap.objs.size+1) scope.names cl) qual func code (some env) builtins) { s with heap:=h',toks:=s.toks }) :
  wpAny M A (newFunctionEnv scope globals cl [] qual func code (some env) builtins) Q E s:=by
 simp only [newFunctionEnv,zca4,if_true]
 refine zbk2 (wpAny_alloc ?_)
 refine zbk2 (wpAny_layCells _ (fun name kind cells=>by cases hkc:kind == NameKind.cell<;>simp [hkc]) _ _ _ _ ?_)
 have sz:(s.heap.push { cls:=.type "dict",data:=.dict #[] }).objs.size=s.heap.objs.size+1:=zbs7 ..
 rw [show ({ s with heap:=s.heap.push { cls:=.type "dict",data:=.dict #[] } }:zbk7).heap.objs.size=s.heap.objs.size+1 from sz]
 rw [List.forIn_nil]
 refine zbk2 (zbm0 (zbm0 ?_))
 refine hQ _ ((Heap.Ns.new s.heap (.type "dict")).keeps (pushCells_keeps _ _)) (fun b o e=>pushCells_keeps _ _ b o (zbk0 _ e)) fun x c ha e=>?_
 rw [← sz]at e
 exact zap7 (fun c' e'=>let ⟨v,z⟩:=ha c' e';⟨v,z.keeps fun b o q=>zbk0 _ q⟩) e
noncomputable abbrev blk (X:Cx) (N':List Str) (scope:Scope) (C:Addr) (s₃:zbk7) (H₃:Hp) (fp:List Addr) (pins:List (Addr×Obj)):Cx :=
 { X with N:=N',s₀:=s₃,H₀:=H₃,env:=compEnvC scope (cellsFrom (C+1) scope.names (clOf X.env.cells scope.names [])) C X.env,outer:=X.stack,stack:=X.stack,ex:=fp,fn:=fun x=>scope.names.lookup x == some .cell,calm:=true,pn:=X.pn++pins,xe:=fun _ _=>False }
structure CompSc (X:Cx) (scope:Scope):Prop where
 kind:scope.kind=.function
 free:∀y∈scope.names,y.2=.free→X.env.kindOf y.1=some .cell∨X.env.kindOf y.1=some .free
 names:∀y∈scope.names,scope.names.lookup y.1=some y.2
section
variable {X:Cx}{pins:List (Addr×Obj)}{σ:L2.St}{H:Hp}{s:zbk7}{scope:Scope}{N':List Str}{fp:List Addr}
theorem CompSc.frees (S:CompSc X scope) (ok:X.Ok):∀y∈scope.names,y.2=.free→∃c,X.env.cells.lookup y.1=some c:=fun y hy hf=>ok.has y.1 (S.free y hy hf)
theorem CompSc.cells (S:CompSc X scope) (ok:X.Ok) {x:Str}{c:Addr} (h:(clOf X.env.cells scope.names []).lookup x=some c):X.env.cells.lookup x=some c:=by
 rcases zs2 (S.frees ok) h with z | z
 ·simp at z
 ·exact z
theorem CompSc.nc (S:CompSc X scope) {x:Str} (h:(x,NameKind.free)∈scope.names):(x,NameKind.cell)∉scope.names:=fun z=>by
 have w1:=S.names _ h
 have w2:=S.names _ z
 rw [show (x,NameKind.cell).1=(x,NameKind.free).1 from rfl,w1]at w2
 cases w2
theorem CompSc.cls (S:CompSc X scope) (I:Inv X pins σ H s) {x:Str}{c:Addr} (h:(clOf X.env.cells scope.names []).lookup x=some c):c<s.heap.objs.size:=by
 obtain⟨v,o,ho,_⟩:=I.cell x c (S.cells I.ok h)
 exact zbk8 ho
theorem CompSc.old (S:CompSc X scope) (I:Inv X pins σ H s) {x:Str}{c:Addr} (h:(cellsFrom (s.heap.objs.size+1) scope.names (clOf X.env.cells scope.names [])).lookup x=some c):X.env.cells.lookup x=some c∨s.heap.objs.size<c:=by
 rcases zaf6 h with z | z
 ·exact .inl (S.cells I.ok z)
 ·exact .inr z
theorem blk_ok (I:Inv X pins σ H s) (S:CompSc X scope) (hc:X.calm=true) (hf:∀b∈fp,FpOk X pins H b) (hlt:∀b∈fp,b<s.heap.objs.size):(blk X N' scope s.heap.objs.size s H fp pins).Ok where
 mod:=I.ok.mod
 kind:=S.kind
 glob:=I.ok.glob
 blt:=I.ok.blt
 above:=zbl1 _
 inj:=zbg6 (fun x c h=>zbr5 (S.cls I h)) fun x y c h1 h2=>I.ok.inj x y c (S.cells I.ok h1) (S.cells I.ok h2)
 has:=fun x hx=>by
  have hx:(relabel scope X.env).names.lookup x=some .cell∨(relabel scope X.env).names.lookup x=some .free:=hx
  have:(x,NameKind.free)∈scope.names∨(x,NameKind.cell)∈scope.names:=by
   rcases hx with hx | hx
   ·obtain⟨k,a,b⟩:=zh9 hx
    rcases b with b | b
    ·rw [← b]at a;exact .inr a
    ·rw [b.1]at a;exact .inl a
   ·obtain⟨k,a,b⟩:=zh9 hx
    rcases b with b | b
    ·rw [← b]at a;exact .inl a
    ·cases b.2
  rcases this with z | z
  ·exact zat2 (zy6 z)
  ·exact zap6 z
 cab:=fun x c h e=>by
  have h:(scope.names.lookup x == some NameKind.cell)=true:=h
  have h:scope.names.lookup x=some .cell:=by simpa using h
  exact Nat.le_of_succ_le (zbg4 (PySem.mem_of_lookup h) e)
 hd:=fun _=>I.ok.hd hc
 frames:=I.ok.frames
 stk:=.inl rfl
 exf:=fun b hb=>⟨zbl7 (hlt b hb),fun x c h=>by
  rcases S.old I h with z | z
  ·exact (hf b hb).2.2.2.2.1 x c z
  ·exact zbr3 (zbv6 (hlt b hb) z)⟩
 bs:=fun b o e=>I.bs b o e
 bsz:=zbk3 I.ok.bsz I.sz
 noex:=fun b o e hb=>by
  rcases (hf b hb).2.2.2.1 with z | z
  ·exact I.ok.noex b o e z
  ·exact absurd (zbk9 (zbk8 e) (zbk3 I.ok.bsz z)) (zbp5 _)
 exfs:=fun b hb z=>(zbj9.mp (I.stkSub b z)).elim (hf b hb).2.1 (hf b hb).2.2.1
 funs:=I.stack
 frf:=I.stkFree
 tabs:=fun p hp=>I.base.tbls _ _ (I.ok.tabs p hp)
theorem zaf9 (I:Inv X pins σ H s) (S:CompSc X scope) (hc:X.calm=true) (hf:∀b∈fp,FpOk X pins H b) (hlt:∀b∈fp,b<s.heap.objs.size) {h1:Heap}{t1:Nat}{m:Str→Option Value}{σ':L2.St}
  (hns:h1.Ns s.heap.objs.size m) (hk:∀b o,s.heap.get? b=some o→h1.get? b=some o) (hcl:∀x c,(∀c,(clOf X.env.cells scope.names []).lookup x=some c→∃v,s.heap.IsCell c v)→(cellsFrom (s.heap.objs.size+1) scope.names (clOf X.env.cells scope.names [])).lookup x=some c→∃v,h1.IsCell c v) (hl:σ'.length=N'.length)
  (cap:∀(i:Nat) (x:Str) (v:V),N'[i]?=some x→σ'[i]?=some (some v)→(x,NameKind.free)∈scope.names∧∃j:Nat,X.N[j]?=some x∧σ[j]?=some (some v)) :
  Inv (blk X N' scope s.heap.objs.size s H fp pins) [] σ' H { s with heap:=h1,toks:=t1 } where
 ok:=blk_ok I S hc hf hlt
 os:=rfl
 bare:=I.bare
 base:=Un.kept hk
 loc:=⟨m,hns,fun i x v e1 e2 vs=>by
  obtain⟨hfree,j,j1,j2⟩:=cap i x v e1 e2
  obtain⟨m0,hn0,hl0⟩:=I.loc
  have vis:Vis X.env.scope x:=by
   rcases S.free _ hfree rfl with z | z
   ·exact .inr (.inl z)
   ·exact .inr (.inr z)
  obtain⟨u,r,l⟩:=hl0 j x v j1 j2 vis
  refine⟨u,r,?_⟩
  rcases l with ⟨k,_⟩ | ⟨k,c,e,z⟩
  ·exfalso
   rcases S.free _ hfree rfl with q | q
   ·rw [k]at q;cases q
   ·rw [k]at q;cases q
  ·obtain⟨c',hc'⟩:=zy6 (cells:=X.env.cells) (acc:=[]) hfree
   have e':=S.cells I.ok hc'
   rw [e]at e';cases e'
   refine .inr ⟨?_,c,by rw [show (blk X N' scope s.heap.objs.size s H fp pins).env.cells.lookup x=_ from zbg3 (S.nc hfree)];exact hc',?_⟩
   ·have vs:(relabel scope X.env).names.lookup x=some .local∨(relabel scope X.env).names.lookup x=some .cell∨(relabel scope X.env).names.lookup x=some .free:=vs
    rcases vs with q | q
    ·obtain⟨k2,a,b⟩:=zh9 q
     rcases b with b | b
     ·rw [← b]at a
      have w1:=S.names _ a
      have w2:=S.names _ hfree
      rw [show (x,NameKind.local).1=(x,NameKind.free).1 from rfl,w2]at w1
      cases w1
     ·cases b.2
    ·exact q
   ·obtain⟨o,ho,hd⟩:=z
    exact⟨o,hk _ _ ho,hd⟩⟩
 cell:=fun x c h=>hcl x c (fun c' h'=>I.cell x c' (S.cells I.ok h')) h
 free:=I.hok.fresh (zbl1 _)
 freeC:=fun x c h=>by
  rcases S.old I h with z | z
  ·exact I.freeC x c z
  ·exact I.hok.fresh (zbx0 z)
 pin:=fun p hp=>by
  have hp:p∈(X.pn++pins)++[]:=hp
  rw [zbu6]at hp
  obtain⟨a,b,c,d,e⟩:=I.pin p hp
  exact⟨hk _ _ a,b,zbl7 (zbk8 a),fun z=>(zbj9.mp (I.stkSub _ z)).elim c d,e⟩
 hok:=I.hok.kept hk
 len:=hl
theorem zy7 {H3 H':Hp}{s':zbk7}{h'':Heap}{σ':L2.St}{C:Addr}{pins':List (Addr×Obj)} (I:Inv X pins σ H3 s) (hf:∀b∈fp,FpOk X pins H3 b) (hC:C=s.heap.objs.size) (I':Inv (blk X N' scope C s H3 fp pins) pins' σ' H' s') (hb:Heap.SameBut C s'.heap h''):Inv X pins σ H' { s' with heap:=h'' }:=by
 subst hC
 have bs:Un (frs X.stack) fp H3 H' s.heap s'.heap:=I'.base
 have nC:∀b o,s.heap.get? b=some o→b≠s.heap.objs.size:=fun b o e=>zbl7 (zbk8 e)
 have tr:∀b,b≠s.heap.objs.size→h''.get? b=s'.heap.get? b:=fun b n=>hb.2 b n
 have u:Un (frs X.stack) fp H3 H' s.heap h'' :=
  ⟨fun b o e n h1 h2=>(tr b (nC b o e)).trans (bs.keep b o e n h1 h2),fun b o e n h1 h2=>by obtain⟨sl,q⟩:=bs.slot b o e n h1 h2;exact⟨sl,(tr b (nC b o e)).trans q⟩,bs.free,
   fun b o e h1=>by obtain⟨o',q⟩:=bs.there b o e h1;exact⟨o',(tr b (nC b o e)).trans q⟩,bs.tups,bs.frzs,bs.tbls⟩
 have cf:H' s.heap.objs.size=none:=I'.free
 have hok:HOk X.prog X.w H' h'':=fun b o e=>by
  have nb:b≠s.heap.objs.size:=fun z=>by rw [z,cf]at e;cases e
  refine (I'.hok b o e).stay (fun c v hc q=>(tr c ?_).trans q) (fun _ q=>q) (fun _ _ q=>q) fun _ _ _ q=>q
  rcases hc with w | w
  ·rw [w];exact nb
  ·exact fun z=>by rw [z,cf]at w;cases w
 obtain⟨h0,g0,d0,t0,o0⟩:=s'
 have e:o0=s.os:=I'.os
 subst e
 exact I.call (g':=g0) (t':=t0) (d':=d0) u hok I'.bare fun b hb'=>by
  obtain⟨f0,f1,f2,f3,f4,f5⟩:=hf b hb'
  exact⟨f3,f1,f4,f5⟩
end
end L2
namespace L2
open PySem.Spec
noncomputable def PTs (Y:Cx) (ifs:List Expr) (t:TT):Prop :=
 ∀(pins:List (Addr×Obj)) (s:zbk7) (σ:L2.St) (H:Hp) (Q:Bool→Hp→Prop),Inv Y pins σ H s→t σ H Q →
  wpAny (model Y.prog Y.w) Y.A (forIn ifs true fun c r=>if r=true then do let ok ← isTrue c Y.env (eval c Y.env);pure (ForInStep.yield ok) else pure (ForInStep.yield r)) (TP Y pins σ Q) Y.xe s
theorem pts_nil {Y:Cx}:PTs Y [] (fun _ H Q=>Q true H):=fun pins s σ H Q I h=>wpAny_tests_nil ⟨H,I,h⟩
theorem pts_one {Y:Cx}{c:Expr}{t:TT} (h:PT Y c t):PTs Y [c] t:=fun pins s σ H Q I q=>wpAny_tests_one (h pins s σ H Q I q)
def capV (n:Nat) (cap:List Nat) (σ:L2.St):L2.St:=zbj8 n none++cap.map fun j=>(σ[j]?).getD none
noncomputable def zal6 (n:Nat) (cap:List Nat) (wi:TI) (g:TG) (tt:TT) (te:TE):TE:=fun σ H Q=>wi σ H fun J H1 => ∀D,H1 D=none→∃W:Nat→Nat→L2.St→Hp→Prop,(∃m,W 0 m (capV n cap σ) (upd H1 D (.lst [])))∧∀i m σ' H',W i m σ' H' →
 (J.stop i H'∧Q (.ref D) H')∨(J.go i H'∧∃N:L2.St→Hp→Prop,(∀σ'' H'',N σ'' H''→∃m',m' < m∧W (i+1) m' σ'' H'')∧∀x H2,J.yld i H' x H2→g x σ' H2 fun σ2 H3=>tt σ2 H3 fun b H4 =>
  if b=true then te σ2 H4 fun v H5 => ∃vs,H5 D=some (.lst vs)∧vs.length<sizeLine∧N σ2 (upd H5 D (.lst (vs++[v]))) else N σ2 H4)
theorem zba3 {X:Cx}{elt tg iter:Expr}{ifs:List Expr}{scope:Scope}{pos:Pos}{n:Nat}{cap:List Nat}{N':List Str}{wi:TI}{g:TG}{tt:TT}{te:TE} (S:CompSc X scope) (hc:X.calm=true) (hi:PI X tg iter wi)
  (hN:N'.length=n+cap.length) (hcap:∀(k:Nat) (j:Nat),cap[k]?=some j→∃x,N'[n+k]?=some x∧X.N[j]?=some x∧(x,NameKind.free)∈scope.names)
  (hg:∀C s₃ H₃ fp pins,PG (blk X N' scope C s₃ H₃ fp pins) tg g) (ht:∀C s₃ H₃ fp pins,PTs (blk X N' scope C s₃ H₃ fp pins) ifs tt) (he:∀C s₃ H₃ fp pins,PE (blk X N' scope C s₃ H₃ fp pins) elt te)
  (hs:∀x,foldedSetIterable iter X.env x=pure x:=by intro _;rfl):PE X (.ListComp elt [⟨tg,iter,ifs,0⟩] scope pos) (zal6 n cap wi g tt te):=by
 intro pins s σ H Q I h
 rw [eval_ListComp]
 refine wpAny_comprehension_free (use:=none) rfl hs (zq8 (S.frees I.ok)) S.kind (fun x hx hl=>by rw [S.names x hx,hl]) (thn (hi pins s σ H _ I h) fun v s1 h1=>thn h1 fun itv s2 h2=>?_)
 obtain⟨it,fp,tn,J,H2,e,I2,T,st2,f2,R⟩:=h2
 subst e
 have lt2:∀b∈fp,b<s2.heap.objs.size:=fun b hb=>by obtain⟨o,e,_⟩:=T.obj _ _ st2 b hb;exact zbk8 e
 have hD:H2 s2.heap.objs.size=none:=I2.fresh
 obtain⟨W,⟨m0,w0⟩,turn⟩:=R s2.heap.objs.size hD
 have I3:Inv X pins σ (upd H2 s2.heap.objs.size (.lst [])) { s2 with heap:=s2.heap.push { cls:=.type "list",data:=.seq ([]:List Value).toArray },toks:=s2.toks }:=I2.lnew (t':=s2.toks) .nil (by simp)
 have f3:∀b∈fp,FpOk X pins (upd H2 s2.heap.objs.size (.lst [])) b:=fun b hb=>⟨by rw [zc9 (zbl7 (lt2 b hb))];exact (f2 b hb).1,(f2 b hb).2⟩
 refine wpAny_newObj_type (zj9 fun h₁ hns₁ hk hcl₁=>?_)
 have lt3:∀b∈fp,b<(s2.heap.push { cls:=.type "list",data:=.seq ([]:List Value).toArray }).objs.size:=fun b hb=>by rw [zbs7];exact zbr5 (lt2 b hb)
 have I4:Inv (blk X N' scope (s2.heap.push { cls:=.type "list",data:=.seq ([]:List Value).toArray }).objs.size { s2 with heap:=s2.heap.push { cls:=.type "list",data:=.seq ([]:List Value).toArray },toks:=s2.toks } (upd H2 s2.heap.objs.size (.lst [])) fp pins) [] (capV n cap σ) (upd H2 s2.heap.objs.size (.lst [])) { s2 with heap:=h₁,toks:=s2.toks } :=
  zaf9 I3 S hc f3 lt3 (t1:=s2.toks) hns₁ hk hcl₁ (by simp [capV,hN]) (fun i x v e1 e2=>by
   unfold capV at e2
   by_cases hi:i<n
   ·rw [zbp2 (by simpa using hi),zbq5]at e2
    split at e2<;>cases e2
   ·rw [zbo9 (by simpa using hi),zbn0,zbo4]at e2
    cases ej:cap[i - n]? with
    |none=>rw [ej]at e2;cases e2
    |some j =>
     rw [ej]at e2
     obtain⟨x',a1,a2,a3⟩:=hcap (i - n) j ej
     have:n+(i - n)=i:=by lia
     rw [this,e1]at a1
     cases a1
     refine⟨a3,j,a2,?_⟩
     have e2:(σ[j]?).getD none=some v:=by simpa using e2
     cases q:σ[j]? with
     |none=>rw [q]at e2;cases e2
     |some z=>rw [q]at e2;have:z=some v:=e2;rw [this])
 have loop:codeAny (model X.prog X.w) X.A (.compLoop (.ListComp elt [⟨tg,iter,ifs,0⟩] scope pos) 0 (.ref it) (.ref s2.heap.objs.size) (compEnvC scope (cellsFrom ((s2.heap.push { cls:=.type "list",data:=.seq ([]:List Value).toArray }).objs.size+1) scope.names (clOf X.env.cells scope.names [])) (s2.heap.push { cls:=.type "list",data:=.seq ([]:List Value).toArray }).objs.size X.env))
   (compPost (model X.prog X.w) X.A X.xe none (EP X pins σ Q) (.ref s2.heap.objs.size) (s2.heap.push { cls:=.type "list",data:=.seq ([]:List Value).toArray }).objs.size) { s2 with heap:=h₁,toks:=s2.toks }:=by
  generalize hY:(blk X N' scope (s2.heap.push { cls:=.type "list",data:=.seq ([]:List Value).toArray }).objs.size { s2 with heap:=s2.heap.push { cls:=.type "list",data:=.seq ([]:List Value).toArray },toks:=s2.toks } (upd H2 s2.heap.objs.size (.lst [])) fp pins)=Y at I4
  have st4:tn 0 h₁:=T.keep _ _ _ st2 fun b hb o e=>hk b o (zbk0 _ e)
  have stat:∀ {H':Hp},(∀b∈fp,H' b=none)→∀b∈fp,FpOk Y [] H' b:=fun hn b hb=>by
   subst hY
   obtain⟨f0,f1,f2',f3',f4,f5⟩:=f3 b hb
   exact⟨hn b hb,zbl7 (lt3 b hb),fun z=>(zbj9.mp (I3.stkSub b z)).elim f1 f2',.inl hb,fun x c e=>(by
    rcases S.old I3 e with z | z
    ·exact f4 x c z
    ·exact zbr3 (zbv6 (lt3 b hb) z)),fun p hp=>f5 p (by simpa using hp)⟩
  have hgY:PG Y tg g:=hY ▸ hg _ _ _ _ _
  have htY:PTs Y ifs tt:=hY ▸ ht _ _ _ _ _
  have heY:PE Y elt te:=hY ▸ he _ _ _ _ _
  have yp:Y.prog=X.prog:=by subst hY;rfl
  have yw:Y.w=X.w:=by subst hY;rfl
  have yK:Y.K=X.K:=by subst hY;rfl
  have yA:Y.A=X.A:=by subst hY;rfl
  have yc:Y.calm=true:=by subst hY;rfl
  have yx:Y.xe=fun _ _=>False:=by subst hY;rfl
  have ye:Y.env=compEnvC scope (cellsFrom ((s2.heap.push { cls:=.type "list",data:=.seq ([]:List Value).toArray }).objs.size+1) scope.names (clOf X.env.cells scope.names [])) (s2.heap.push { cls:=.type "list",data:=.seq ([]:List Value).toArray }).objs.size X.env:=by subst hY;rfl
  rw [← ye]
  refine zw7 (fun n s' => ∃i σ' H',Inv Y [] σ' H' s'∧tn i s'.heap∧(∀b∈fp,H' b=none)∧W i n σ' H') ?_ m0 ⟨0,_,_,I4,st4,fun b hb=>(f3 b hb).1,w0⟩
  rintro n s3 ⟨i,σ3,H3,I5,st3,fr3,w3⟩
  rcases turn i n σ3 H3 w3 with ⟨stop,qn⟩ | ⟨go,N,hNN,step⟩
  ·have d:=T.done Y yp yw yK yc i [] s3 σ3 H3 (fun _ _=>False) I5 (stat fr3) st3 stop
   rw [yA]at d
   refine thn d fun r s4 ⟨hr,I6⟩=>?_
   subst hr
   obtain⟨m,hm,_⟩:=I6.loc
   rw [ye]at hm
   refine⟨m,hm,fun h' hb=>⟨.ref s2.heap.objs.size,H3,?_,rfl,qn⟩⟩
   subst hY
   exact zy7 I3 f3 rfl I6 hb
  ·have d:=T.item Y yp yw yK yc i [] s3 σ3 H3 (fun _ _=>False) I5 (stat fr3) st3 go
   rw [yA]at d
   refine thn d fun r s4 ⟨u,hr,h4⟩=>?_
   subst hr
   refine thn h4 fun _ s5 ⟨x,H5,I6,r5,y5,st5,fr5⟩=>?_
   have I6':=I6.pinned (stat fr5) (T.obj _ _ st5)
   have a:=hgY _ s5 σ3 H5 x u _ I6' r5 (step x H5 y5)
   rw [yp,yw,yA,yx]at a
   refine thn a fun _ s6 ⟨σ6,H6,I7,q6⟩=>?_
   have b:=htY _ s6 σ6 H6 _ I7 q6
   rw [yp,yw,yA,yx]at b
   refine thn b fun ok s7 ⟨H7,I8,q7⟩=>?_
   have again:∀ {s9:zbk7}{H9:Hp},Inv Y ([]++zp5 fp s5.heap) σ6 H9 s9→N σ6 H9→∃m,m<n∧∃i σ' H',Inv Y [] σ' H' s9∧tn i s9.heap∧(∀b∈fp,H' b=none)∧W i m σ' H':=fun {s9 H9} I9 n9=>by
    obtain⟨m',hm,w9⟩:=hNN σ6 H9 n9
    refine⟨m',hm,i+1,σ6,H9,I9.unpinned,T.keep _ _ _ st5 fun b hb o e=>(I9.pin (b,o) (zbi9 _ (zbi9 _ (zf2 hb e)))).1,fun b hb=>?_,w9⟩
    obtain⟨o,e,d⟩:=T.obj _ _ st5 b hb
    exact (I9.pin (b,o) (zbi9 _ (zbi9 _ (zf2 hb e)))).2.1
   cases ok with
   |false=>exact iteF (again I8 (by simpa using q7))
   |true =>
    rw [if_pos rfl]at q7
    refine iteT ?_
    have c:=heY _ s7 σ6 H7 _ I8 q7
    rw [yp,yw,yA,yx]at c
    refine thn c fun z s8 ⟨vz,H8,I9,r9,vs,hv,hl,n9⟩=>?_
    have ap:=zz9 (X:=Y) ([]++zp5 fp s5.heap) s8 σ6 H8 (.ref s2.heap.objs.size) [vz] (.ref s2.heap.objs.size) [z] (fun _ H9=>N σ6 H9) I9 rfl (.cons r9 .nil) ⟨_,vs,vz,rfl,rfl,hv,hl,n9⟩
    rw [yp,yw,yA,yx]at ap
    exact thn ap fun _ s9 ⟨_,H9,I10,_,n10⟩=>again I10 n10
 exact codeAny_compStart_list loop (T.self _ 0 _ _ _ (T.keep _ _ _ st2 fun b hb o e=>hk b o (zbk0 _ e)) loop)
theorem ps_compU {X:Cx}{i₀:Nat}{y₀:Str}{py spos:Pos}{elt tg iter:Expr}{ifs:List Expr}{scope:Scope}{pos:Pos}{n:Nat}{cap:List Nat}{N':List Str}{wi:TI}{g:TG}{tt:TT}{te:TE} (S:CompSc X scope) (hc:X.calm=true) (hi:PI X tg iter wi)
  (hN:N'.length=n+cap.length) (hcap:∀(k:Nat) (j:Nat),cap[k]?=some j→∃x,N'[n+k]?=some x∧X.N[j]?=some x∧(x,NameKind.free)∈scope.names)
  (hg:∀C s₃ H₃ fp pins,PG (blk X N' scope C s₃ H₃ fp pins) tg g) (ht:∀C s₃ H₃ fp pins,PTs (blk X N' scope C s₃ H₃ fp pins) ifs tt) (he:∀C s₃ H₃ fp pins,PE (blk X N' scope C s₃ H₃ fp pins) elt te)
  (hNd:X.N.Nodup) (hi₀:X.N[i₀]?=some y₀) (hy:Loc X.env.scope y₀) (hsw:swapsWith (.ListComp elt [⟨tg,iter,ifs,0⟩] scope pos) (some (.Name y₀ py)) spos.line X.env=pure true) (hf:X.fn y₀=true∨X.env.scope.names.lookup y₀=some .local)
  (hs:∀x,foldedSetIterable iter X.env x=pure x:=by intro _;rfl):PS X (.Assign [.Name y₀ py] (.ListComp elt [⟨tg,iter,ifs,0⟩] scope pos) spos) (fun D σ H=>zal6 n cap wi g tt te σ H fun v H1=>D.nx (σ.set i₀ (some v)) H1):=by
 intro pins s σ H Ed I h
 rw [exec_Assign_Name_used y₀ py _ spos hsw]
 refine zbk2 (wpAny_standAt (zbk2 ?_))
 show wpAny (model X.prog X.w) X.A (comprehension (.ListComp elt [⟨tg,iter,ifs,0⟩] scope pos) scope X.env _ (newList []) false (eval iter X.env) (some (assign (.Name y₀ py) X.env)) >>= fun _=>pure ()) _ _ s
 refine zbk2 (thn (Q:=fun _ s'=>SP X pins Ed .next s') ?_ fun _ s' hq=>zbm0 (zbm0 hq))
 refine wpAny_comprehension_free (use:=some (assign (.Name y₀ py) X.env)) rfl hs (zq8 (S.frees I.ok)) S.kind (fun x hx hl=>by rw [S.names x hx,hl]) (thn (hi pins s σ H _ I h) fun v s1 h1=>thn h1 fun itv s2 h2=>?_)
 obtain⟨it,fp,tn,J,H2,e,I2,T,st2,f2,R⟩:=h2
 subst e
 have lt2:∀b∈fp,b<s2.heap.objs.size:=fun b hb=>by obtain⟨o,e,_⟩:=T.obj _ _ st2 b hb;exact zbk8 e
 have hD:H2 s2.heap.objs.size=none:=I2.fresh
 obtain⟨W,⟨m0,w0⟩,turn⟩:=R s2.heap.objs.size hD
 have I3:Inv X pins σ (upd H2 s2.heap.objs.size (.lst [])) { s2 with heap:=s2.heap.push { cls:=.type "list",data:=.seq ([]:List Value).toArray },toks:=s2.toks }:=I2.lnew (t':=s2.toks) .nil (by simp)
 have f3:∀b∈fp,FpOk X pins (upd H2 s2.heap.objs.size (.lst [])) b:=fun b hb=>⟨by rw [zc9 (zbl7 (lt2 b hb))];exact (f2 b hb).1,(f2 b hb).2⟩
 refine wpAny_newObj_type (zj9 fun h₁ hns₁ hk hcl₁=>?_)
 have lt3:∀b∈fp,b<(s2.heap.push { cls:=.type "list",data:=.seq ([]:List Value).toArray }).objs.size:=fun b hb=>by rw [zbs7];exact zbr5 (lt2 b hb)
 have I4:Inv (blk X N' scope (s2.heap.push { cls:=.type "list",data:=.seq ([]:List Value).toArray }).objs.size { s2 with heap:=s2.heap.push { cls:=.type "list",data:=.seq ([]:List Value).toArray },toks:=s2.toks } (upd H2 s2.heap.objs.size (.lst [])) fp pins) [] (capV n cap σ) (upd H2 s2.heap.objs.size (.lst [])) { s2 with heap:=h₁,toks:=s2.toks } :=
  zaf9 I3 S hc f3 lt3 (t1:=s2.toks) hns₁ hk hcl₁ (by simp [capV,hN]) (fun i x v e1 e2=>by
   unfold capV at e2
   by_cases hi:i<n
   ·rw [zbp2 (by simpa using hi),zbq5]at e2
    split at e2<;>cases e2
   ·rw [zbo9 (by simpa using hi),zbn0,zbo4]at e2
    cases ej:cap[i - n]? with
    |none=>rw [ej]at e2;cases e2
    |some j =>
     rw [ej]at e2
     obtain⟨x',a1,a2,a3⟩:=hcap (i - n) j ej
     have:n+(i - n)=i:=by lia
     rw [this,e1]at a1
     cases a1
     refine⟨a3,j,a2,?_⟩
     have e2:(σ[j]?).getD none=some v:=by simpa using e2
     cases q:σ[j]? with
     |none=>rw [q]at e2;cases e2
     |some z=>rw [q]at e2;have:z=some v:=e2;rw [this])
 have loop:codeAny (model X.prog X.w) X.A (.compLoop (.ListComp elt [⟨tg,iter,ifs,0⟩] scope pos) 0 (.ref it) (.ref s2.heap.objs.size) (compEnvC scope (cellsFrom ((s2.heap.push { cls:=.type "list",data:=.seq ([]:List Value).toArray }).objs.size+1) scope.names (clOf X.env.cells scope.names [])) (s2.heap.push { cls:=.type "list",data:=.seq ([]:List Value).toArray }).objs.size X.env))
   (compPost (model X.prog X.w) X.A X.xe (some (assign (.Name y₀ py) X.env)) (fun _ s'=>SP X pins Ed .next s') (.ref s2.heap.objs.size) (s2.heap.push { cls:=.type "list",data:=.seq ([]:List Value).toArray }).objs.size) { s2 with heap:=h₁,toks:=s2.toks }:=by
  generalize hY:(blk X N' scope (s2.heap.push { cls:=.type "list",data:=.seq ([]:List Value).toArray }).objs.size { s2 with heap:=s2.heap.push { cls:=.type "list",data:=.seq ([]:List Value).toArray },toks:=s2.toks } (upd H2 s2.heap.objs.size (.lst [])) fp pins)=Y at I4
  have st4:tn 0 h₁:=T.keep _ _ _ st2 fun b hb o e=>hk b o (zbk0 _ e)
  have stat:∀ {H':Hp},(∀b∈fp,H' b=none)→∀b∈fp,FpOk Y [] H' b:=fun hn b hb=>by
   subst hY
   obtain⟨f0,f1,f2',f3',f4,f5⟩:=f3 b hb
   exact⟨hn b hb,zbl7 (lt3 b hb),fun z=>(zbj9.mp (I3.stkSub b z)).elim f1 f2',.inl hb,fun x c e=>(by
    rcases S.old I3 e with z | z
    ·exact f4 x c z
    ·exact zbr3 (zbv6 (lt3 b hb) z)),fun p hp=>f5 p (by simpa using hp)⟩
  have hgY:PG Y tg g:=hY ▸ hg _ _ _ _ _
  have htY:PTs Y ifs tt:=hY ▸ ht _ _ _ _ _
  have heY:PE Y elt te:=hY ▸ he _ _ _ _ _
  have yp:Y.prog=X.prog:=by subst hY;rfl
  have yw:Y.w=X.w:=by subst hY;rfl
  have yK:Y.K=X.K:=by subst hY;rfl
  have yA:Y.A=X.A:=by subst hY;rfl
  have yc:Y.calm=true:=by subst hY;rfl
  have yx:Y.xe=fun _ _=>False:=by subst hY;rfl
  have ye:Y.env=compEnvC scope (cellsFrom ((s2.heap.push { cls:=.type "list",data:=.seq ([]:List Value).toArray }).objs.size+1) scope.names (clOf X.env.cells scope.names [])) (s2.heap.push { cls:=.type "list",data:=.seq ([]:List Value).toArray }).objs.size X.env:=by subst hY;rfl
  rw [← ye]
  refine zw7 (fun n s' => ∃i σ' H',Inv Y [] σ' H' s'∧tn i s'.heap∧(∀b∈fp,H' b=none)∧W i n σ' H') ?_ m0 ⟨0,_,_,I4,st4,fun b hb=>(f3 b hb).1,w0⟩
  rintro n s3 ⟨i,σ3,H3,I5,st3,fr3,w3⟩
  rcases turn i n σ3 H3 w3 with ⟨stop,qn⟩ | ⟨go,N,hNN,step⟩
  ·have d:=T.done Y yp yw yK yc i [] s3 σ3 H3 (fun _ _=>False) I5 (stat fr3) st3 stop
   rw [yA]at d
   refine thn d fun r s4 ⟨hr,I6⟩=>?_
   subst hr
   obtain⟨m,hm,_⟩:=I6.loc
   rw [ye]at hm
   subst hY
   have IX:=zy7 I3 f3 rfl I6 (h'':=s4.heap) ⟨rfl,fun _ _=>rfl⟩
   have cf:H3 (s2.heap.push { cls:=.type "list",data:=.seq ([]:List Value).toArray }).objs.size=none:=I6.free
   have fC:FpOk X pins H3 (s2.heap.push { cls:=.type "list",data:=.seq ([]:List Value).toArray }).objs.size:=I3.fpOk (zbl1 _) cf
   obtain⟨c0,c1,c2,c3,c4,c5⟩:=fC
   refine wpAny_assign_Name (zag7 (s:=s4) IX hNd hi₀ hy (v:=.ref s2.heap.objs.size) rfl (fun s5 I7 ⟨a,sb,ha⟩=>?_) hf)
   have na:a≠(s2.heap.push { cls:=.type "list",data:=.seq ([]:List Value).toArray }).objs.size:=by
    rcases ha with z | z
    ·rw [z];exact fun w=>c1 w.symm
    ·exact c4 _ _ z
   refine⟨m,hm.sameBut sb (Ne.symm na),fun h' hb=>⟨_,H3,?_,qn⟩⟩
   exact I7.turned (t':=s5.toks) (fun b o n e=>(hb.2 b n).trans e) c0 c1 c3 c4 c5
  ·have d:=T.item Y yp yw yK yc i [] s3 σ3 H3 (fun _ _=>False) I5 (stat fr3) st3 go
   rw [yA]at d
   refine thn d fun r s4 ⟨u,hr,h4⟩=>?_
   subst hr
   refine thn h4 fun _ s5 ⟨x,H5,I6,r5,y5,st5,fr5⟩=>?_
   have I6':=I6.pinned (stat fr5) (T.obj _ _ st5)
   have a:=hgY _ s5 σ3 H5 x u _ I6' r5 (step x H5 y5)
   rw [yp,yw,yA,yx]at a
   refine thn a fun _ s6 ⟨σ6,H6,I7,q6⟩=>?_
   have b:=htY _ s6 σ6 H6 _ I7 q6
   rw [yp,yw,yA,yx]at b
   refine thn b fun ok s7 ⟨H7,I8,q7⟩=>?_
   have again:∀ {s9:zbk7}{H9:Hp},Inv Y ([]++zp5 fp s5.heap) σ6 H9 s9→N σ6 H9→∃m,m<n∧∃i σ' H',Inv Y [] σ' H' s9∧tn i s9.heap∧(∀b∈fp,H' b=none)∧W i m σ' H':=fun {s9 H9} I9 n9=>by
    obtain⟨m',hm,w9⟩:=hNN σ6 H9 n9
    refine⟨m',hm,i+1,σ6,H9,I9.unpinned,T.keep _ _ _ st5 fun b hb o e=>(I9.pin (b,o) (zbi9 _ (zbi9 _ (zf2 hb e)))).1,fun b hb=>?_,w9⟩
    obtain⟨o,e,d⟩:=T.obj _ _ st5 b hb
    exact (I9.pin (b,o) (zbi9 _ (zbi9 _ (zf2 hb e)))).2.1
   cases ok with
   |false=>exact iteF (again I8 (by simpa using q7))
   |true =>
    rw [if_pos rfl]at q7
    refine iteT ?_
    have c:=heY _ s7 σ6 H7 _ I8 q7
    rw [yp,yw,yA,yx]at c
    refine thn c fun z s8 ⟨vz,H8,I9,r9,vs,hv,hl,n9⟩=>?_
    have ap:=zz9 (X:=Y) ([]++zp5 fp s5.heap) s8 σ6 H8 (.ref s2.heap.objs.size) [vz] (.ref s2.heap.objs.size) [z] (fun _ H9=>N σ6 H9) I9 rfl (.cons r9 .nil) ⟨_,vs,vz,rfl,rfl,hv,hl,n9⟩
    rw [yp,yw,yA,yx]at ap
    exact thn ap fun _ s9 ⟨_,H9,I10,_,n10⟩=>again I10 n10
 exact codeAny_compStart_list loop (T.self _ 0 _ _ _ (T.keep _ _ _ st2 fun b hb o e=>hk b o (zbk0 _ e)) loop)
end L2
namespace DL
open PySem.Spec L2
structure Src (K:zbj0) (ds:List D) (J:It) (Good:List Addr→Hp→Prop):Prop where
 keep:∀P H P' H',Good P H→Same (hide P H) (hide P' H')→Good P' H'
 stop:∀P H,Good P H→J.stop ds.length H
 go:∀P H i,Good P H→i<ds.length→J.go i H
 yld:∀P H i x H',Good P H→Lists H P→J.yld i H x H'→i<ds.length→Same H H'∧∃d,ds[i]?=some d∧Rep K (hide P H') d x
abbrev DI:=Th→Option (Bool×List D)
def hidF (b:Bool) (A F:List Addr):List Addr:=if b then A++F else F
noncomputable def dI (K:zbj0) (F:List Addr) (fs:DI):TI:=fun σ H R => ∃A t b ds,RS K F H A t σ∧fs t=some (b,ds)∧∀J H1 Good,Same H H1→Src K ds J Good→Good (hidF b A F) H1→R J H1
theorem PI.imp {X:Cx}{tg iter:Expr}{t t':TI} (h:PI X tg iter t) (i:∀σ H R,t' σ H R→t σ H R):PI X tg iter t':=fun pins s σ H R I q=>h pins s σ H R I (i σ H R q)
def fsL (f:DE):DI:=fun t=>(f t).bind fun r=>match r.d with
 |.lst ds=>some (r.ok,ds)
 |_=>none
def fsE (f:DE):DI:=fun t=>(f t).bind fun r=>match r.d with
 |.lst ds=>some (r.ok,zu5 0 ds)
 |_=>none
noncomputable def fsR1 (f:DE):DI:=fun t=>(f t).bind fun r=>match r.d with
 |.int n=>if bigI n then some (true,rngD 0 n.toNat) else none
 |_=>none
noncomputable def fsR2 (f f':DE):DI:=fun t=>(f t).bind fun r=>(f' t).bind fun r'=>match r.d,r'.d with
 |.int lo,.int n=>if bigI n&&bigI lo then some (true,rngD lo (n - lo).toNat) else none
 |_,_=>none
theorem src_list {K:zbj0}{p:Addr}{vs:List V}{ds:List D} (hl:vs.length=ds.length):Src K ds (Itl K p) (fun P H=>SqL K (hide P H) p vs∧Reps K (hide P H) ds vs) where
 keep:=fun P H P' H' q s=>⟨SqL.mono s q.1,Reps.mono s q.2⟩
 stop:=fun P H q=>⟨vs,SqL.mono (zb7 _ _) q.1,by lia⟩
 go:=fun P H i q hi=>⟨vs,vs[i]'(by lia),SqL.mono (zb7 _ _) q.1,zbj6 (by lia)⟩
 yld:=fun P H i x H' q mu y hi=>by
  obtain⟨e1,e2⟩:=y
  subst e1
  exact⟨Same.refl _,q.2.getV (e2 vs (SqL.mono (zb7 _ _) q.1))⟩
theorem src_enum {K:zbj0}{p:Addr}{vs:List V}{ds:List D} (hl:vs.length=ds.length):Src K (zu5 0 ds) (Ite K p) (fun P H=>SqL K (hide P H) p vs∧Reps K (hide P H) ds vs) where
 keep:=fun P H P' H' q s=>⟨SqL.mono s q.1,Reps.mono s q.2⟩
 stop:=fun P H q=>⟨vs,SqL.mono (zb7 _ _) q.1,by rw [zu4];lia⟩
 go:=fun P H i q hi=>by
  rw [zu4]at hi
  exact⟨vs,vs[i]'(by lia),SqL.mono (zb7 _ _) q.1,zbj6 (by lia)⟩
 yld:=fun P H i x H' q mu y hi=>by
  obtain⟨l,v,hl0,rfl,rfl,hv⟩:=y
  obtain⟨d,hd,rd⟩:=q.2.getV (hv vs (SqL.mono (zb7 _ _) q.1))
  have sm:=zd4 (o:=HO.tup [.int i,v]) hl0
  refine⟨sm,_,zaj7 0 ds i d hd,?_⟩
  rw [zcd1]
  exact .tup (SqT.of (zd0 zc1 (zd6 mu hl0))) (.cons (.int _) (.cons (Rep.mono (zb6 sm) rd) .nil))
theorem zay3 {K:zbj0}{lo:Int}{n:Nat}:Src K (rngD lo n) (Itr lo n) (fun _ _=>True) where
 keep:=fun _ _ _ _ _ _=>trivial
 stop:=fun P H _=>by rw [zv1];exact zbl1 n
 go:=fun P H i _ hi=>by rw [zv1]at hi;exact hi
 yld:=fun P H i x H' _ _ y hi=>by
  rw [zv1]at hi
  obtain⟨e1,e2⟩:=y
  subst e1
  refine⟨Same.refl _,.int (lo+i),by simp [rngD,hi],?_⟩
  rw [e2];exact .int _
theorem RepEv.hidF {K:zbj0}{F A:List Addr}{H H':Hp}{r:Ev}{v:V} (m:Lists H (A++F)) (gs:Same H H') (q:RepEv K F A H H' r v):Rep K (hide (DL.hidF r.ok A F) H') r.d v:=by
 unfold DL.hidF
 split
 ·rename_i c;exact q.clean m gs c
 ·exact q.cleanF m
section
variable {X:Cx}{F:List Addr}{a b c:Expr}{es:List Expr}{fa fb fc:DE}{pos:Pos}{tg:Expr}
theorem zh4 (hl:PE X a (dE X.K F fa)):PI X tg a (dI X.K F (fsL fa)):=by
 refine PI.imp (zae2 hl) ?_
 rintro σ H R ⟨A,t,b,ds,RR,e,h⟩
 unfold fsL at e
 cases e1:fa t with
 |none=>rw [e1]at e;cases e
 |some r =>
  rw [e1]at e
  refine⟨A,t,r,RR,e1,fun v H1 gs q=>?_⟩
  have e:(match r.d with | .lst ds=>some (r.ok,ds) |_=>none)=some (b,ds):=e
  split at e
  case h_2=>cases e
  rename_i ds' z
  cases e
  have cl:=RepEv.hidF RR.mu gs q
  rw [z]at cl
  cases cl with
  |@lst _ p vs h1 h2=>exact⟨p,rfl,⟨vs,SqL.mono (zb7 _ _) h1⟩,h _ H1 _ gs (src_list h2.length) ⟨h1,h2⟩⟩
theorem pid_enum {elts:List Expr}{kk:Nat}{tp p1 p2:Pos} (hge:Gl X "enumerate") (hm:X.mg "enumerate"=none) (hl:PE X a (dE X.K F fa)) (hst:zbl2 [a] X.env=[(false,eval a X.env)]:=by rfl):PI X (.Tuple elts kk tp) (.Call (.Name "enumerate" p1) [a] [] p2) (dI X.K F (fsE fa)):=by
 refine PI.imp (pi_enum hge hm hl hst) ?_
 rintro σ H R ⟨A,t,b,ds,RR,e,h⟩
 unfold fsE at e
 cases e1:fa t with
 |none=>rw [e1]at e;cases e
 |some r =>
  rw [e1]at e
  refine⟨A,t,r,RR,e1,fun v H1 gs q=>?_⟩
  have e:(match r.d with | .lst ds=>some (r.ok,zu5 0 ds) |_=>none)=some (b,ds):=e
  split at e
  case h_2=>cases e
  rename_i ds' z
  cases e
  have cl:=RepEv.hidF RR.mu gs q
  rw [z]at cl
  cases cl with
  |@lst _ p vs h1 h2=>exact⟨p,rfl,⟨vs,SqL.mono (zb7 _ _) h1⟩,h _ H1 _ gs (src_enum h2.length) ⟨h1,h2⟩⟩
theorem zo2 {p1 p2:Pos} (hgr:Gl X "range") (hm:X.mg "range"=none) (ha:PE X a (dE X.K F fa)) (hst:zbl2 [a] X.env=[(false,eval a X.env)]:=by rfl):PI X tg (.Call (.Name "range" p1) [a] [] p2) (dI X.K F (fsR1 fa)):=by
 refine PI.imp (zah6 hgr hm (zj2 ha zp0 hst) hst) ?_
 rintro σ H R ⟨A,t,b,ds,RR,e,h⟩
 unfold fsR1 at e
 cases e1:fa t with
 |none=>rw [e1]at e;cases e
 |some r =>
  rw [e1]at e
  refine⟨A,t,r,RR,e1,fun v H1 gs q=>?_⟩
  have e:(match r.d with | .int n=>if bigI n then some (true,rngD 0 n.toNat) else none | _=>none)=some (b,ds):=e
  split at e
  case h_2=>cases e
  rename_i n z
  split at e
  case isFalse=>cases e
  rename_i ok
  simp only [bigI,decide_eq_true_eq]at ok
  cases e
  have p:=q.full
  rw [z]at p
  cases zf9 p
  exact⟨n,rfl,by lia,by lia,h _ H1 _ gs zay3 trivial⟩
theorem pid_rng2 {p1 p2:Pos} (hgr:Gl X "range") (hm:X.mg "range"=none) (ha:PE X a (dE X.K F fa)) (hb:PE X b (dE X.K F fb)) (hst:zbl2 [a,b] X.env=[(false,eval a X.env),(false,eval b X.env)]:=by rfl) (hst2:zbl2 [b] X.env=[(false,eval b X.env)]:=by rfl) :
  PI X tg (.Call (.Name "range" p1) [a,b] [] p2) (dI X.K F (fsR2 fa fb)):=by
 refine PI.imp (zah5 hgr hm (zj2 ha (zj2 hb zp0 hst2) (by rw [hst,hst2])) hst hst2) ?_
 rintro σ H R ⟨A,t,b,ds,RR,e,h⟩
 unfold fsR2 at e
 cases e1:fa t with
 |none=>rw [e1]at e;cases e
 |some r =>
  cases e2:fb t with
  |none=>rw [e1,e2]at e;cases e
  |some r' =>
   rw [e1,e2]at e
   refine⟨A,t,r,RR,e1,fun v H1 gs q=>⟨A,t,r',RR.grow gs,e2,fun v2 H2 gs2 q2=>?_⟩⟩
   have e:(match r.d,r'.d with
    |.int lo,.int n=>if bigI n&&bigI lo then some (true,rngD lo (n - lo).toNat) else none
    |_,_=>none)=some (b,ds):=e
   split at e
   case h_2=>cases e
   rename_i lo n z1 z2
   split at e
   case isFalse=>cases e
   rename_i ok
   simp only [bigI,zbj5,decide_eq_true_eq]at ok
   cases e
   have p:=q.full
   rw [z1]at p
   cases zf9 p
   have p':=q2.full
   rw [z2]at p'
   cases zf9 p'
   exact⟨lo,n,rfl,⟨by lia,by lia,by lia,by lia⟩,h _ H2 _ (gs.trans gs2) zay3 trivial⟩
end
noncomputable def capD (t:Th):List Nat→Option (Bool×List D)
 |[]=>some (true,[])
 |j::js=>(capD t js).bind fun q=>match t[j]? with
  |some (.val d)=>some (q.1,d::q.2)
  |some (.own xs)=>some (false,.lst xs::q.2)
  |some (.dp d)=>some (false,d::q.2)
  |_=>none
theorem zu7 {K:zbj0}{F A:List Addr}{H:Hp}{t:Th}{σ:L2.St} (R:RS K F H A t σ):∀ {cap:List Nat}{b:Bool}{ds:List D},capD t cap=some (b,ds)→∃vs:List V,(cap.map fun j=>(σ[j]?).getD none)=vs.map some∧Reps K (hide (hidF b A F) H) ds vs
 |[],b,ds,e=>by cases e;exact⟨[],rfl,.nil⟩
 |j::js,b,ds,e=>by
  unfold capD at e
  cases e1:capD t js with
  |none=>rw [e1]at e;cases e
  |some q =>
   obtain⟨b',ds'⟩:=q
   rw [e1]at e
   obtain⟨vs,h1,h2⟩:=zu7 R e1
   have e:(match t[j]? with
    |some (.val d)=>some (b',d::ds')
    |some (.own xs)=>some (false,.lst xs::ds')
    |some (.dp d)=>some (false,d::ds')
    |_=>none)=some (b,ds):=e
   have less:∀c:Bool,Same (hide (A++F) H) (hide (hidF c A F) H):=fun c=>zb3 H fun x z=>by
    cases c with
    |true=>exact z
    |false=>exact zbi9 _ z
   split at e
   ·rename_i d z
    cases e
    obtain⟨v,a1,a2⟩:=R.rel.getVal z
    exact⟨v::vs,by simp [a1,h1],.cons (Rep.mono (less _) a2) h2⟩
   ·rename_i xs z
    cases e
    obtain⟨p,us,a1,a2,a3,a4⟩:=R.rel.getOwn z
    refine⟨.ref p::vs,by simp [a1,h1],.cons (.lst (SqL.of (zd0 a3 (R.dj p a2))) (Reps.mono (less false) a4)) (Reps.mono (zb3 H fun x z=>?_) h2)⟩
    cases b' with
    |true=>exact zbi9 _ z
    |false=>exact z
   ·rename_i d z
    cases e
    obtain⟨v,B,a1,a2,a3,a4⟩:=R.rel.getDp R.nd z
    refine⟨v::vs,by simp [a1,h1],.cons (a4.rep (less false) fun b hb o w=>zd0 w (R.dj b (a2 b hb))) (Reps.mono (zb3 H fun x z=>?_) h2)⟩
    cases b' with
    |true=>exact zbi9 _ z
    |false=>exact z
   ·cases e
noncomputable def zh8 (k:D→Th→Option Th) (ft:DT) (fe:DE):List D→Th→Option (List D)
 |[],_=>some []
 |d::ds,t=>(k d t).bind fun t1=>(ft t1).bind fun b=>if b then (fe t1).bind fun r=>(zh8 k ft fe ds t1).map fun xs=>r.d::xs else zh8 k ft fe ds t1
noncomputable def ze3 (n:Nat) (cap:List Nat) (fs:DI) (k:D→Th→Option Th) (ft:DT) (fe:DE):DE:=fun t=>(fs t).bind fun q=>(capD t cap).bind fun c=>if q.2.length≤50000 then (zh8 k ft fe q.2 (zbj8 n Sl.no++c.2.map Sl.val)).bind fun xs=>if (q.1&&c.1)||flats xs then some (.nw xs) else none else none
theorem zab2 {k:D→Th→Option Th}{ft:DT}{fe:DE}:∀ {ds:List D}{t:Th}{xs:List D},zh8 k ft fe ds t=some xs→xs.length≤ds.length
 |[],t,xs,e=>by cases e;simp
 |d::ds,t,xs,e=>by
  unfold zh8 at e
  cases e1:k d t with
  |none=>rw [e1]at e;cases e
  |some t1 =>
   rw [e1]at e
   have e:((ft t1).bind fun b=>if b then (fe t1).bind fun r=>(zh8 k ft fe ds t1).map fun xs=>r.d::xs else zh8 k ft fe ds t1)=some xs:=e
   cases e2:ft t1 with
   |none=>rw [e2]at e;cases e
   |some b =>
    rw [e2]at e
    cases b with
    |false=>have:=zab2 (ds:=ds) (t:=t1) e;simp;lia
    |true =>
     have e:((fe t1).bind fun r=>(zh8 k ft fe ds t1).map fun xs=>r.d::xs)=some xs:=e
     cases e3:fe t1 with
     |none=>rw [e3]at e;cases e
     |some r =>
      rw [e3]at e
      have e:((zh8 k ft fe ds t1).map fun xs=>r.d::xs)=some xs:=e
      cases e4:zh8 k ft fe ds t1 with
      |none=>rw [e4]at e;cases e
      |some ys=>rw [e4]at e;cases e;have:=zab2 e4;simp;lia
end DL
namespace DL
open PySem.Spec L2
theorem RSl.noVals {K:zbj0}{H0 H:Hp}{vs:List V}{ds:List D} (r:Reps K H0 ds vs):∀n,RSl K H0 H (zbj8 n Sl.no++ds.map Sl.val) (zbj8 n none++vs.map some) []
 |0=>by simpa using RSl.start (t:=[]) (σ:=[]) .nil r
 |n+1=>.no (RSl.noVals r n)
theorem zg1 {P:List Addr}{H:Hp}{p:Addr}{o:HO} (hp:p∈P):Same (hide P H) (hide P (upd H p o)):=fun b u e=>by
 obtain⟨n,e⟩:=zl8 e
 exact zd0 (by rw [zc9 (fun z=>n (by rw [z];exact hp))];exact e) n
theorem RS.updF {K:zbj0}{P:List Addr}{H:Hp}{t:Th}{σ:L2.St}{p:Addr}{ws:List V} (R:RS K P H [] t σ) (hp:p∈P):RS K P (upd H p (.lst ws)) [] t σ where
 mu:=fun q hq=>by
  by_cases z:q=p
  ·exact⟨mL ws,by rw [z];exact zc1⟩
  ·obtain⟨us,w⟩:=R.mu q hq
   exact⟨us,by rw [zc9 z];exact w⟩
 nd:=zbm2
 dj:=fun p hp=>by cases hp
 rel:=RSl.mono (zg1 hp) R.rel fun q hq=>by cases hq
theorem zn0 {K:zbj0}{P A:List Addr}{H:Hp}{t:Th}{σ:L2.St} (R:RS K P H A t σ) (g:Gr [] H A H):A=[]:=by
 cases A with
 |nil=>rfl
 |cons a r =>
  rcases g.nw a (zbj7 ..) with z | z
  ·cases z
  ·obtain⟨vs,q⟩:=R.mu a (zbj1 _ (zbj7 ..))
   rw [q]at z;cases z
def zc7:DT:=fun _=>some true
theorem PTs.imp {Y:Cx}{ifs:List Expr}{t t':TT} (h:PTs Y ifs t) (i:∀σ H Q,t' σ H Q→t σ H Q):PTs Y ifs t':=fun pins s σ H Q I q=>h pins s σ H Q I (i σ H Q q)
theorem zf4 {Y:Cx}{F:List Addr}:PTs Y [] (dT Y.K F zc7):=PTs.imp pts_nil fun σ H Q ⟨A,t,b,R,e,h⟩=>by cases e;exact h H (Same.refl H)
theorem zt3 {Y:Cx}{F:List Addr}{c:Expr}{ft:DT} (h:PT Y c (dT Y.K F ft)):PTs Y [c] (dT Y.K F ft):=pts_one h
theorem zaq3 {X:Cx}{F:List Addr}{n:Nat}{cap:List Nat}{fs:DI}{g:TG}{kt:D→Th→Option Th}{ft:DT}{fe:DE} (hk:∀F',TgOk X.K F' g kt) {σ:L2.St}{H:Hp}{Q:VK} (h:dE X.K F (ze3 n cap fs kt ft fe) σ H Q) :
  zal6 n cap (dI X.K F fs) g (fun σ H Q => ∃F',dT X.K F' ft σ H Q) (fun σ H Q => ∃F',dE X.K F' fe σ H Q) σ H Q:=by
 obtain⟨A,t,r,R,e,h⟩:=h
 unfold ze3 at e
 cases e1:fs t with
 |none=>rw [e1]at e;cases e
 |some q =>
  obtain⟨b,ds⟩:=q
  cases e2:capD t cap with
  |none=>rw [e1,e2]at e;cases e
  |some q2 =>
   obtain⟨c,caps⟩:=q2
   rw [e1,e2]at e
   have e:(if ds.length≤50000 then (zh8 kt ft fe ds (zbj8 n Sl.no++caps.map Sl.val)).bind fun xs=>if (b&&c)||flats xs then some (Ev.nw xs) else none else none)=some r:=e
   split at e
   case isFalse=>cases e
   rename_i hlen
   cases e3:zh8 kt ft fe ds (zbj8 n Sl.no++caps.map Sl.val) with
   |none=>rw [e3]at e;cases e
   |some xs =>
    rw [e3]at e
    have e:(if (b&&c)||flats xs then some (Ev.nw xs) else none)=some r:=e
    split at e
    case isFalse=>cases e
    rename_i ok
    cases e
    have xl:=zab2 e3
    obtain⟨cvs,cv1,cv2⟩:=zu7 R e2
    -- what is hidden from the block,but its own list
    obtain⟨F',F'def⟩:∃F',F'=hidF (b&&c) A F:=⟨_,rfl⟩
    have subF:∀x∈F',x∈A++F:=fun x hx=>by
     rw [F'def]at hx
     unfold hidF at hx
     split at hx
     ·exact hx
     ·exact zbi9 _ hx
    have lessB:∀H:Hp,Same (hide (hidF b A F) H) (hide F' H):=fun H=>zb3 H fun x hx=>by
     rw [F'def]at hx
     cases b<;>cases c<;>simp [hidF]at hx ⊢<;>first | exact hx | exact .inr hx | (rcases hx with z | z<;>simp [z])
    have lessC:∀H:Hp,Same (hide (hidF c A F) H) (hide F' H):=fun H=>zb3 H fun x hx=>by
     rw [F'def]at hx
     cases b<;>cases c<;>simp [hidF]at hx ⊢<;>first | exact hx | exact .inr hx | (rcases hx with z | z<;>simp [z])
    have wi:zal6 n cap (dI X.K F fs) g (fun σ H Q => ∃F',dT X.K F' ft σ H Q) (fun σ H Q => ∃F',dE X.K F' fe σ H Q) σ H Q:=by
     refine⟨A,t,b,ds,R,e1,fun J H1 Good gs src gd Dd hD=>?_⟩
     have H1A:Lists H1 (A++F):=R.mu.mono gs
     have st0:Same (hide F' H1) (hide (Dd::F') (upd H1 Dd (.lst []))):=zk2 hD
     refine⟨fun i m σ' H'=>i+m=ds.length∧∃th acc rest vs,RS X.K (Dd::F') H' [] th σ'∧zh8 kt ft fe (ds.drop i) th=some rest∧acc++rest=xs∧H' Dd=some (.lst vs)∧Reps X.K (hide (Dd::F') H') acc vs∧Same H1 H'∧Good (Dd::F') H',
      ⟨ds.length,by lia,_,[],xs,[],⟨?_,zbm2,fun p hp=>(by cases hp),?_⟩,by simpa using e3,rfl,zc1,.nil,zd4 hD,src.keep _ _ _ _ gd (fun b o z=>st0 _ _ (lessB _ _ _ z))⟩,?_⟩
     ·intro q hq
      have hq:q∈Dd::F':=hq
      rcases zbj9.mp hq with z | z
      ·exact⟨mL [],by rw [z];exact zc1⟩
      ·obtain⟨us,w⟩:=H1A q (subF q z)
       exact⟨us,(zd4 hD) _ _ w⟩
     ·unfold capV
      rw [cv1]
      exact RSl.noVals (Reps.mono (fun b o z=>st0 _ _ (lessC H1 _ _ (zb6 gs _ _ z))) cv2) n
     ·rintro i m σ' H' ⟨hm,th,acc,rest,vs,RR,ec,ex,hv,hr,sm,gg⟩
      cases m with
      |zero =>
       have z:i=ds.length:=by lia
       subst z
       rw [zbq3]at ec
       cases ec
       rw [zbu6]at ex
       subst ex
       refine .inl ⟨src.stop _ _ gg,h _ H' (gs.trans sm) ⟨Dd,vs,rfl,Same.free gs hD,hv,?_⟩⟩
       rcases zbz6 _ _ ▸ ok with k | k
       ·have:F'=A++F:=by rw [F'def];unfold hidF;rw [k];rfl
        rw [← this];exact hr
       ·refine Reps.hid (P:=Dd ::(A++F)) (fun q hq=>?_) k (Reps.mono (zb7 _ _) hr)
        rcases zbj9.mp hq with z | z
        ·exact⟨mL vs,by rw [z];exact hv⟩
        ·obtain⟨us,w⟩:=H1A q z
         exact⟨us,sm _ _ w⟩
      |succ m =>
       have hil:i<ds.length:=by lia
       refine .inr ⟨src.go _ _ i gg hil,fun σ' H'=>i+1+m=ds.length∧∃th acc rest vs,RS X.K (Dd::F') H' [] th σ'∧zh8 kt ft fe (ds.drop (i+1)) th=some rest∧acc++rest=xs∧H' Dd=some (.lst vs)∧Reps X.K (hide (Dd::F') H') acc vs∧Same H1 H'∧Good (Dd::F') H',
        fun σ' H' q=>⟨m,zbo2 m,q⟩,fun x H2 y=>?_⟩
       obtain⟨gs2,d,hd,rd⟩:=src.yld _ _ i x H2 gg RR.mu y hil
       have ed:ds.drop i=d::ds.drop (i+1):=by
        have hd':ds[i]=d:=by
         rw [zbj6 hil]at hd
         exact Option.some.inj hd
        rw [← hd']
        exact zbm6 hil
       rw [ed]at ec
       unfold zh8 at ec
       cases k1:kt d th with
       |none=>rw [k1]at ec;cases ec
       |some t1 =>
        rw [k1]at ec
        have ec:((ft t1).bind fun b=>if b then (fe t1).bind fun r=>(zh8 kt ft fe (ds.drop (i+1)) t1).map fun xs=>r.d::xs else zh8 kt ft fe (ds.drop (i+1)) t1)=some rest:=ec
        refine hk (Dd::F') σ' H2 [] th t1 d x _ (RR.grow gs2) rd k1 fun σ2 A2 gr2 R2=>?_
        have A20:=zn0 R2 gr2
        subst A20
        cases k2:ft t1 with
        |none=>rw [k2]at ec;cases ec
        |some bb =>
         rw [k2]at ec
         refine⟨Dd::F',[],t1,bb,R2,k2,fun H3 gs3=>?_⟩
         cases bb with
         |false =>
          refine iteF ⟨by lia,t1,acc,rest,vs,R2.grow gs3,ec,ex,gs3 _ _ (gs2 _ _ hv),Reps.mono (zb6 (gs2.trans gs3)) hr,(sm.trans gs2).trans gs3,src.keep _ _ _ _ gg (zb6 (gs2.trans gs3))⟩
         |true =>
          have ec:((fe t1).bind fun r=>(zh8 kt ft fe (ds.drop (i+1)) t1).map fun xs=>r.d::xs)=some rest:=ec
          cases k3:fe t1 with
          |none=>rw [k3]at ec;cases ec
          |some re =>
           rw [k3]at ec
           have ec:((zh8 kt ft fe (ds.drop (i+1)) t1).map fun xs=>re.d::xs)=some rest:=ec
           cases k4:zh8 kt ft fe (ds.drop (i+1)) t1 with
           |none=>rw [k4]at ec;cases ec
           |some ys =>
            rw [k4]at ec
            cases ec
            refine iteT ⟨Dd::F',[],t1,re,R2.grow gs3,k3,fun v H4 gs4 q4=>⟨vs,gs4 _ _ (gs3 _ _ (gs2 _ _ hv)),?_,?_⟩⟩
            ·have l1:=hr.length
             have l2:acc.length+(ys.length+1)=xs.length:=by rw [← ex];simp
             exact zbk9 (show vs.length<50000 by lia) (by rw [sizeLine_eq];decide)
            ·have s4:=(gs2.trans gs3).trans gs4
             have hu:Same (hide (Dd::F') H4) (hide (Dd::F') (upd H4 Dd (.lst (vs++[v])))):=zg1 (zbj7 ..)
             have rv:=q4.cleanF ((R2.grow gs3).mu)
             refine⟨by lia,t1,acc++[re.d],ys,vs++[v],RS.updF ((R2.grow gs3).grow gs4) (zbj7 ..),k4,by simpa using ex,zc1,?_,?_,?_⟩
             ·exact (Reps.mono (fun b o z=>hu _ _ (zb6 s4 _ _ z)) hr).app (Reps.one (Rep.mono hu rv))
             ·exact fun b o z=>by
               rw [zc9 (fun w=>by rw [w,hD]at z;cases z)]
               exact s4 _ _ (sm _ _ z)
             ·exact src.keep _ _ _ _ gg (fun b o z=>hu _ _ (zb6 s4 _ _ z))
    exact wi
theorem ped_comp {X:Cx}{F:List Addr}{elt tg iter:Expr}{ifs:List Expr}{scope:Scope}{pos:Pos}{n:Nat}{cap:List Nat}{N':List Str}{fs:DI}{g:TG}{kt:D→Th→Option Th}{ft:DT}{fe:DE} (S:CompSc X scope) (hc:X.calm=true) (hi:PI X tg iter (dI X.K F fs))
  (hN:N'.length=n+cap.length) (hcap:∀(k:Nat) (j:Nat),cap[k]?=some j→∃x,N'[n+k]?=some x∧X.N[j]?=some x∧(x,NameKind.free)∈scope.names)
  (hg:∀C s₃ H₃ fp pins,PG (blk X N' scope C s₃ H₃ fp pins) tg g) (hk:∀F',TgOk X.K F' g kt) (ht:∀C s₃ H₃ fp pins F',PTs (blk X N' scope C s₃ H₃ fp pins) ifs (dT X.K F' ft)) (he:∀C s₃ H₃ fp pins F',PE (blk X N' scope C s₃ H₃ fp pins) elt (dE X.K F' fe))
  (hs:∀x,foldedSetIterable iter X.env x=pure x:=by intro _;rfl):PE X (.ListComp elt [⟨tg,iter,ifs,0⟩] scope pos) (dE X.K F (ze3 n cap fs kt ft fe)) :=
 PE.imp (zba3 (g:=g) S hc hi hN hcap hg (fun C s₃ H₃ fp pins pins' s σ H Q I ⟨F',q⟩=>ht C s₃ H₃ fp pins F' pins' s σ H Q I q) (fun C s₃ H₃ fp pins pins' s σ H Q I ⟨F',q⟩=>he C s₃ H₃ fp pins F' pins' s σ H Q I q) hs) fun _ _ _ h=>zaq3 hk h
noncomputable def zw6 (names:List (Str×NameKind)) (kind:Str→Option NameKind):Bool:=names.all fun y=>(y.2 != .free||kind y.1 == some .cell||kind y.1 == some .free)&&(names.lookup y.1 == some y.2)
theorem zak3 {X:Cx}{scope:Scope} (hk:scope.kind=.function:=by rfl) (h:zw6 scope.names X.env.kindOf=true:=by rfl):CompSc X scope:=by
 have h':=zbr1.mp h
 refine⟨hk,fun y hy hf=>?_,fun y hy=>?_⟩
 ·have:=h' y hy
  simp only [zbj5,zbz6,bne_iff_ne,beq_iff_eq]at this
  rcases this.1 with (z | z) |z
  ·exact absurd hf z
  ·exact .inl z
  ·exact .inr z
 ·have:=h' y hy
  simp only [zbj5,beq_iff_eq]at this
  exact this.2
noncomputable def zac2 (N' N:List Str) (n:Nat) (names:List (Str×NameKind)):Nat→List Nat→Bool
 |_,[]=>true
 |k,j::js=>(match N'[n+k]?,N[j]? with
  |some x,some y=>x == y&&names.any fun z=>z.1 == x&&z.2 == .free
  |_,_=>false)&&zac2 N' N n names (k+1) js
theorem zq9 {N' N:List Str}{n:Nat}{names:List (Str×NameKind)}:∀ {cap:List Nat}{k0:Nat},zac2 N' N n names k0 cap=true→∀(k j:Nat),cap[k]?=some j→∃x,N'[n+(k0+k)]?=some x∧N[j]?=some x∧(x,NameKind.free)∈names
 |[],k0,_,k,j,e=>by simp at e
 |i::js,k0,h,k,j,e=>by
  unfold zac2 at h
  rw [zbj5]at h
  cases k with
  |zero =>
   simp at e
   subst e
   have h1:=h.1
   split at h1
   ·rename_i x y z1 z2
    rw [zbj5,beq_iff_eq,zbv7]at h1
    obtain⟨e1,w,w1,w2⟩:=h1
    rw [zbj5,beq_iff_eq,beq_iff_eq]at w2
    obtain⟨a,b⟩:=w
    simp only at w2
    rw [w2.1,w2.2]at w1
    exact⟨x,by simpa using z1,by rw [z2,e1],w1⟩
   ·cases h1
  |succ k =>
   obtain⟨x,a,b,c⟩:=zq9 h.2 k j (by simpa using e)
   exact⟨x,by rw [show k0+(k+1)=k0+1+k by lia];exact a,b,c⟩
theorem zf5 {X:Cx}{F:List Addr}{elt tg iter:Expr}{ifs:List Expr}{scope:Scope}{pos:Pos}{fs:DI}{g:TG}{kt:D→Th→Option Th}{ft:DT}{fe:DE} (n:Nat) (cap:List Nat) (N':List Str) (hc:X.calm=true) (hi:PI X tg iter (dI X.K F fs))
  (hg:∀C s₃ H₃ fp pins,PG (blk X N' scope C s₃ H₃ fp pins) tg g) (hk:∀F',TgOk X.K F' g kt) (ht:∀C s₃ H₃ fp pins F',PTs (blk X N' scope C s₃ H₃ fp pins) ifs (dT X.K F' ft)) (he:∀C s₃ H₃ fp pins F',PE (blk X N' scope C s₃ H₃ fp pins) elt (dE X.K F' fe))
  (hkd:scope.kind=.function:=by rfl) (hcs:zw6 scope.names X.env.kindOf=true:=by rfl) (hN:N'.length=n+cap.length:=by rfl) (hcap:zac2 N' X.N n scope.names 0 cap=true:=by rfl)
  (hs:∀x,foldedSetIterable iter X.env x=pure x:=by intro _;rfl):PE X (.ListComp elt [⟨tg,iter,ifs,0⟩] scope pos) (dE X.K F (ze3 n cap fs kt ft fe)) :=
 ped_comp (zak3 hkd hcs) hc hi hN (fun k j e=>by simpa using zq9 hcap k j e) hg hk ht he hs
noncomputable def kIn:Ev→Ev→Option Ev:=fun r1 r2=>match r2.d with
 |.lst ds=>if scD r1.d&&ds.all (fun d=>scD d&&eqOk 0 d r1.d) then some (.cl (.bl (ds.any fun d=>eqD d r1.d))) else none
 |.tup ds=>if scD r1.d&&ds.all (fun d=>scD d&&eqOk 0 d r1.d) then some (.cl (.bl (ds.any fun d=>eqD d r1.d))) else none
 |_=>none
theorem in_D {K:zbj0}{H:Hp}{e:D}{u:V} (q:Rep K H e u) (se:scD e=true):∀ {ds:List D}{vs:List V},Reps K H ds vs→ds.all (fun d=>scD d&&eqOk 0 d e)=true→vs.all zu3=true∧inV u vs=ds.any fun d=>eqD d e
 |_,_,.nil,_=>⟨rfl,rfl⟩
 |_,_,.cons h r,k=>by
  simp only [zbn4,zbj5]at k
  obtain⟨f1,f2,e1⟩:=eqV_D h q k.1.1 se k.1.2
  obtain⟨a,b⟩:=in_D q se r (by simpa using k.2)
  unfold inV at b ⊢
  refine⟨by simp [f1,a],?_⟩
  rw [zbq6,zbq6,e1,b]
theorem zay4 {K:zbj0}{H:Hp}{e:D}{u:V} (q:Rep K H e u) (se:scD e=true):zu3 u=true:=by
 cases q<;>simp_all [scD,zu3]
theorem od_in {X:Cx}{F:List Addr}:OpD X F (compareOp .In) kIn:=by
 intro pins s σ H0 H A x y v u Q r1 r2 r I m g0 rx ry q1 q2 e hq
 unfold kIn at e
 have p1:=q1.full
 have p2:=q2.full
 split at e
 ·rename_i ds z
  rw [z]at p2
  split at e
  case isFalse=>cases e
  rename_i c
  rw [zbj5]at c
  cases e
  cases p2 with
  |@lst _ p vs h1 h2 =>
   obtain⟨a,b⟩:=in_D p1 c.1 h2 c.2
   exact zah7 pins s σ H x _ v u Q I rx ry ⟨p,vs,rfl,.inl h1,zay4 p1 c.1,a,by
    show Q (.bl (inV x vs)) H
    rw [b];exact hq _ H (Same.refl H) (.bl _)⟩
 ·rename_i ds z
  rw [z]at p2
  split at e
  case isFalse=>cases e
  rename_i c
  rw [zbj5]at c
  cases e
  cases p2 with
  |@tup _ p vs h1 h2 =>
   obtain⟨a,b⟩:=in_D p1 c.1 h2 c.2
   exact zah7 pins s σ H x _ v u Q I rx ry ⟨p,vs,rfl,.inr h1,zay4 p1 c.1,a,by
    show Q (.bl (inV x vs)) H
    rw [b];exact hq _ H (Same.refl H) (.bl _)⟩
 ·cases e
end DL
namespace L2
open PySem.Spec
abbrev EMS:=Addr→L2.St→Hp→(L2.St→Hp→Prop)→Prop
noncomputable def emT (e:Expr) (g2:Comprehension) (acc:Value) (env:Env):Sem Unit:=do
 let x ← eval g2.iter env
 standAt g2.iter.pos
 let x ← foldedSetIterable g2.iter env x
 let _ ← runOwn (.compStart e 1 (← holding [x] (pyIter x)) acc env) env
noncomputable def PEm (Y:Cx) (tree:Sem Unit) (em:L2.St→Hp→(L2.St→Hp→Prop)→Prop):Prop :=
 ∀(pins:List (Addr×Obj)) (s:zbk7) (σ:L2.St) (H:Hp) (R:L2.St→Hp→Prop),Inv Y pins σ H s→em σ H R→wpAny (model Y.prog Y.w) Y.A tree (fun _ s' => ∃σ' H',Inv Y pins σ' H' s'∧R σ' H') Y.xe s
end L2
namespace DL
open PySem.Spec L2
section
variable {X:Cx}{F:List Addr}{a b c:Expr}{es:List Expr}{fa fb fc:DE}{pos:Pos}
noncomputable def zx6:List Ev→Option Ev:=fun rs=>match rs with
 |[r]=>(match r.d with
  |.lst ds=>if r.ok||flats ds then some (.nw ds) else none
  |_=>none)
 |_=>none
theorem zap8:CallD X F (.type "list") zx6:=CallD.of zak6 fun H0 H A xs rs e Q m g q ek hq=>by
 unfold zx6 at ek
 split at ek
 ·rename_i r
  cases q with
  |cons q1 q2 =>
   cases q2
   split at ek
   ·rename_i ds z
    split at ek
    case isFalse=>cases ek
    rename_i c
    cases ek
    obtain⟨p,vs,rfl,h1,h2⟩:=q1.items m g z c
    exact⟨p,vs,rfl,.inl h1,fun l hl=>hq _ _ (zd4 hl) ⟨l,vs,rfl,Same.free g hl,zc1,Reps.mono (zk2 hl) h2⟩⟩
   ·cases ek
 ·cases ek
noncomputable def k2I (f:Int→Int→Int):List Ev→Option Ev:=fun rs=>match rs with
 |[r1,r2]=>(match r1.d,r2.d with
  |.int i,.int j=>some (.cl (.int (f i j)))
  |_,_=>none)
 |_=>none
theorem cd_2I {v:Value}{f:Int→Int→Int} (h:zm7 X v (fun xs H Q => ∃i j,xs=[.int i,.int j]∧Q (.int (f i j)) H)):CallD X F v (k2I f):=CallD.of h fun H0 H A xs rs e Q m g q ek hq=>by
 unfold k2I at ek
 split at ek
 ·rename_i r1 r2
  cases q with
  |cons q1 q' =>
   cases q' with
   |cons q2 q3 =>
    cases q3
    split at ek
    ·rename_i i j z1 z2
     cases ek
     have p1:=q1.full
     have p2:=q2.full
     rw [z1]at p1;rw [z2]at p2
     cases zf9 p1;cases zf9 p2
     exact⟨i,j,rfl,hq _ H (Same.refl H) (.int _)⟩
    ·cases ek
 ·cases ek
theorem cd_min (hc:X.calm=true):CallD X F (.builtin "min") (k2I fun i j=>if j<i then j else i):=cd_2I (zbh3 hc)
theorem cd_max (hc:X.calm=true):CallD X F (.builtin "max") (k2I fun i j=>if j > i then j else i):=cd_2I (zbh5 hc)
noncomputable def dSlU (hi:DE) (f:DE):DE:=fun t=>(f t).bind fun r=>(hi t).bind fun l=>match r.d,l.d with
 |.lst ds,.int i=>if r.ok||flats ds then some (.nw (ds.take (HT.sIx ds.length ds.length (some i)))) else none
 |_,_=>none
theorem zm9 {p2:Pos} (ha:PE X a (dE X.K F fa)) (hb:PE X b (dE X.K F fb)):PE X (.Subscript a (.Slice none (some b) none p2) pos) (dE X.K F (dSlU fb fa)):=by
 refine PE.imp (pe_slice sl_list ha po_none (po_some hb)) ?_
 rintro σ H Q ⟨A,t,r,R,e,h⟩
 unfold dSlU at e
 cases e1:fa t with
 |none=>rw [e1]at e;cases e
 |some r1 =>
  cases e2:fb t with
  |none=>rw [e1,e2]at e;cases e
  |some r2 =>
   rw [e1,e2]at e
   refine⟨A,t,r1,R,e1,fun x H1 gs1 q1=>⟨A,t,r2,R.grow gs1,e2,fun y H2 gs2 q2=>?_⟩⟩
   have e:(match r1.d,r2.d with
    |.lst ds,.int i=>if r1.ok||flats ds then some (Ev.nw (ds.take (HT.sIx ds.length ds.length (some i)))) else none
    |_,_=>none)=some r:=e
   split at e
   case h_2=>cases e
   rename_i ds i z1 z2
   split at e
   case isFalse=>cases e
   rename_i c
   cases e
   have p2':=q2.full
   rw [z2]at p2'
   cases zf9 p2'
   have gs:=gs1.trans gs2
   obtain⟨p,vs,rfl,h1,h2⟩:=(q1.mono gs2).items R.mu gs z1 c
   refine⟨i,rfl,p,vs,rfl,h1,fun l hl=>h _ _ (gs.trans (zd4 hl)) ⟨l,_,rfl,Same.free gs hl,zc1,Reps.mono (zk2 hl) ?_⟩⟩
   have e:cutV vs none (some i)=vs.take (HT.sIx ds.length ds.length (some i)):=by
    unfold cutV
    rw [h2.length,HT.sIx_none]
    simp
   rw [e]
   exact h2.take _
noncomputable def zbd1 (t:Th) (i:Nat) (r k:Ev):Option Out:=match t[i]?,k.d with
 |some (.own xs),.int n=>if r.ok then (ixN xs.length n).map fun j=>.nx (t.set i (.own (xs.set j r.d))) else none
 |_,_=>none
def zap1 (i:Nat) (fk fv:DE):DS:=fun t=>(fv t).bind fun r=>(fk t).bind fun k=>zbd1 t i r k
theorem zad9 (i:Nat) {x:Str}{p0 tpos:Pos} (hb:PE X b (dE X.K F fb)) (he:PE X a (dE X.K F fa)) (hN:X.N[i]?=some x:=by rfl) (hv:Vis X.env.scope x:=by first | exact Or.inl rfl | exact Or.inr (Or.inl rfl) |exact Or.inr (Or.inr rfl)) (hd:(x ==("__debug__":Str))=false:=by decide)
  (hcd:(x ==("__classdict__":Str))=false:=by decide)
  (ha:∀v,assign (.Subscript (.Name x p0) b tpos) X.env v=(do
   let ov ← holding [v] (eval (.Name x p0) X.env)
   let iv ← holding [v,ov] (eval b X.env)
   standAt tpos
   holding [v,ov,iv] (setItem ov iv v)
   release [v,ov,iv] []):=by intro _;rfl)
  (hs:swapsWithSole [.Subscript (.Name x p0) b tpos] a pos.line X.env=pure false:=by rfl) (hw:swappedStores [.Subscript (.Name x p0) b tpos] a X.env=pure none:=by rfl)
  (h1:(assignEach [.Subscript (.Name x p0) b tpos] X.env).map (·.2)=[assign (.Subscript (.Name x p0) b tpos) X.env]:=by rfl) :
  PS X (.Assign [.Subscript (.Name x p0) b tpos] a pos) (dS X.K F (zap1 i fb fa)):=by
 refine PS.imp (zaz6 he (pg_sub (zt4 (i:=i) hN hv hd hcd) hb set_list ha) hs hw h1) ?_
 rintro E σ H ⟨A,t,o,R,e,h⟩
 unfold zap1 at e
 cases e1:fa t with
 |none=>rw [e1]at e;cases e
 |some r =>
  cases e2:fb t with
  |none=>rw [e1,e2]at e;cases e
  |some kk =>
   rw [e1,e2]at e
   have e:zbd1 t i r kk=some o:=e
   unfold zbd1 at e
   split at e
   case h_2=>cases e
   rename_i xs n z1 z2
   split at e
   case isFalse=>cases e
   rename_i ok
   cases e3:ixN xs.length n with
   |none=>rw [e3]at e;cases e
   |some j =>
    rw [e3]at e
    cases e
    obtain⟨p,vs,a1,a2,a3,a4⟩:=R.rel.getOwn z1
    refine⟨A,t,r,R,e1,fun y H1 gs1 q1=>⟨_,a1,A,t,kk,R.grow gs1,e2,fun w H2 gs2 q2=>?_⟩⟩
    have p2:=q2.full
    rw [z2]at p2
    cases zf9 p2
    have gs:=gs1.trans gs2
    refine⟨p,vs,n,j,rfl,rfl,gs _ _ a3,by rw [a4.length];exact e3,?_⟩
    obtain⟨R',g'⟩:=(R.grow gs).write (es:=xs.set j r.d) (ws:=vs.set j y) z1 a1 (Reps.set ((q1.mono gs2).clean R.mu gs ok) j (Reps.mono (zb6 gs) a4))
    exact h _ _ _ ((Gr.of_same R.mu.left gs).trans g') R'
end
end DL
namespace DL
open PySem.Spec L2
section
variable {X:Cx}{F:List Addr}{a b c:Expr}{es:List Expr}{fa fb fc:DE}{g:DS}{pos:Pos}{tg:Expr}{gt:TG}{kt:D→Th→Option Th}
noncomputable def dCh (k k':Ev→Ev→Option Ev) (fa fb fc:DE):DT:=fun t=>(fa t).bind fun r1=>(fb t).bind fun r2=>(k r1 r2).bind fun r=>match r.d with
 |.bl true=>(fc t).bind fun r3=>(k' r2 r3).bind fun r'=>match r'.d with
  |.bl z=>some z
  |_=>none
 |.bl false=>some false
 |_=>none
noncomputable def rK (X:Cx) (F:List Addr) (k:Ev→Ev→Option Ev) (A:List Addr) (H0:Hp):R2:=fun x y H Q=>Lists H0 (A++F)∧Same H0 H∧∃r1 r2 r,RepEv X.K F A H0 H r1 x∧RepEv X.K F A H0 H r2 y∧k r1 r2=some r∧∀z H',Same H H'→RepEv X.K F A H0 H' r z→Q z H'
theorem OpD.toR {f:Value→Value→Sem Value}{k:Ev→Ev→Option Ev} (h:OpD X F f k) (A:List Addr) (H0:Hp):OpR X f (rK X F k A H0) :=
 fun pins s σ H x y v u Q I rx ry ⟨m,gs,r1,r2,r,q1,q2,e,hq⟩=>h pins s σ H0 H A x y v u Q r1 r2 r I m gs rx ry q1 q2 e hq
theorem zay7 {op op':CmpOp}{k k':Ev→Ev→Option Ev} (ho:OpD X F (compareOp op) k) (ho':OpD X F (compareOp op') k') (ha:PE X a (dE X.K F fa)) (hb:PE X b (dE X.K F fb)) (hc:PE X c (dE X.K F fc))
  (hm:lastMarks [op,op'] [b,c]=false:=by with_unfolding_all rfl):PT X (.Compare a [op,op'] [b,c] pos) (dT X.K F (dCh k k' fa fb fc)):=by
 intro pins s σ H Q I h
 obtain⟨A,t,bb,R,e,h⟩:=h
 refine pt_chain (ho.toR A H) (ho'.toR A H) ha hb hc hm pins s σ H Q I ?_
 unfold dCh at e
 cases e1:fa t with
 |none=>rw [e1]at e;cases e
 |some r1 =>
  cases e2:fb t with
  |none=>rw [e1,e2]at e;cases e
  |some r2 =>
   cases e3:k r1 r2 with
   |none=>rw [e1,e2]at e;simp only [zbj3,e3]at e;cases e
   |some r =>
    rw [e1,e2]at e
    simp only [zbj3,e3]at e
    refine⟨A,t,r1,R,e1,fun x H1 gs1 q1=>⟨A,t,r2,R.grow gs1,e2,fun y H2 gs2 q2=>?_⟩⟩
    have gs:=gs1.trans gs2
    refine⟨R.mu,gs,r1,r2,r,q1.mono gs2,q2.back gs1,e3,fun z H3 gs3 q3=>?_⟩
    have p:=q3.full
    split at e
    ·rename_i zz
     rw [zz]at p
     cases p
     refine⟨true,rfl,iteT ?_⟩
     cases e4:fc t with
     |none=>rw [e4]at e;cases e
     |some r3 =>
      rw [e4]at e
      simp only [zbj3]at e
      cases e5:k' r2 r3 with
      |none=>rw [e5]at e;cases e
      |some r' =>
       rw [e5]at e
       simp only [zbj3]at e
       refine⟨A,t,r3,(R.grow gs).grow gs3,e4,fun w H4 gs4 q4=>⟨R.mu,(gs.trans gs3).trans gs4,r2,r3,r',(q2.back gs1).mono (gs3.trans gs4),q4.back (gs.trans gs3),e5,fun z2 H5 gs5 q5=>?_⟩⟩
       have p5:=q5.full
       split at e
       ·rename_i z3 zz3
        cases e
        rw [zz3]at p5
        cases p5
        exact⟨_,rfl,h H5 (((gs.trans gs3).trans gs4).trans gs5)⟩
       ·cases e
    ·rename_i zz
     rw [zz]at p
     cases p
     cases e
     exact⟨false,rfl,iteF ⟨false,rfl,h H3 (gs.trans gs3)⟩⟩
    ·cases e
end
end DL
namespace DL
open PySem.Spec L2
def zp3:List D→Option (List Int)
 |[]=>some []
 |.int i::r=>(zp3 r).map fun ns=>i::ns
 |_::_=>none
theorem zu0:∀ {ds:List D}{ns:List Int},zp3 ds=some ns→ds=ns.map D.int
 |[],ns,e=>by cases e;rfl
 |.int i::r,ns,e=>by
  unfold zp3 at e
  cases e1:zp3 r with
  |none=>rw [e1]at e;cases e
  |some m=>rw [e1]at e;cases e;rw [zu0 e1];rfl
 |.non::r,ns,e=>by cases e
 |.bl _::r,ns,e=>by cases e
 |.str _::r,ns,e=>by cases e
 |.tup _::r,ns,e=>by cases e
 |.lst _::r,ns,e=>by cases e
theorem zn2 (ns:List Int):zp3 (ns.map D.int)=some ns:=by
 induction ns with
 |nil=>rfl
 |cons n r ih=>simp [zp3,ih]
theorem zk3 {K:zbj0}{H:Hp}:∀ {ns:List Int}{vs:List V},Reps K H (ns.map D.int) vs→vs=ns.map V.int
 |[],_,.nil=>rfl
 |n::r,_,.cons h q=>by cases zf9 h;rw [zk3 q];rfl
section
variable {X:Cx}{F:List Addr}{a b c:Expr}{es:List Expr}{fa fb fc:DE}{pos:Pos}
theorem call_sum (hc:X.calm=true):zm7 X (.builtin "sum") (fun xs H Q => ∃(p:Addr) (ns:List Int),xs=[.ref p]∧SqL X.K H p (ns.map V.int)∧Q (.int ns.sum) H):=by
 intro pins s σ H xs us Q I r h
 obtain⟨p,ns,rfl,hs,q⟩:=h
 obtain⟨u,rfl,ru⟩:=zw9 r
 cases ru
 obtain⟨its,rv,pl,_⟩:=I.list hs
 have hi:IntsAre its ns:=zn3 rv
 obtain⟨ys,e⟩:=hi.allInts.items
 have hl:s.heap.IsList p (intItems ys):=by rw [← e];exact PlainL.isL pl
 refine sum_intListG (I.ok.hd hc) hl fun h' tk t' hk=>⟨.int _,H,I.kept (t':=tk) hk,⟨t',rfl⟩,?_⟩
 have en:=nums_intItems ys
 rw [preSum_eq,zby5 (by simp)]
 have e2:numsOf (intItems ys).toList=ns:=by rw [← e];exact hi.numsOf
 rw [← nums_intItems,e2]
 exact q
noncomputable def kSum:List Ev→Option Ev:=fun rs=>match rs with
 |[r]=>(match r.d with
  |.lst ds=>(zp3 ds).map fun ns=>.cl (.int ns.sum)
  |_=>none)
 |_=>none
theorem cd_sum (hc:X.calm=true):CallD X F (.builtin "sum") kSum:=CallD.of (call_sum hc) fun H0 H A xs rs e Q m g q ek hq=>by
 unfold kSum at ek
 split at ek
 ·rename_i r
  cases q with
  |cons q1 q2 =>
   cases q2
   split at ek
   ·rename_i ds z
    cases e1:zp3 ds with
    |none=>rw [e1]at ek;cases ek
    |some ns =>
     rw [e1]at ek
     cases ek
     have p:=q1.full
     rw [z,zu0 e1]at p
     cases p with
     |lst h1 h2 =>
      rw [zk3 h2]at h1
      exact⟨_,ns,rfl,h1,hq _ H (Same.refl H) (.int _)⟩
   ·cases ek
 ·cases ek
end
end DL
namespace DL
open PySem.Spec L2
theorem zaf2 (i j:Int):eqD (.int i) (.int j)=decide (i=j):=by
 rw [zbp7,eqD_true];simp
theorem sm_iff {i:Int}:sm i=true↔i.natAbs<bnd:=by simp [sm]
theorem sm_lt {i:Int} (h:i.natAbs<2 ^ 256):sm i=true:=sm_iff.mpr (zbk9 h (by unfold bnd;exact zbm9 (by decide) (by decide)))
theorem sm_of {i:Int} (h1 : -10000000000000000000000000000000000000000000000000000000000000000000000000000<i) (h2:i<10000000000000000000000000000000000000000000000000000000000000000000000000000):sm i=true:=by
 apply sm_lt
 have:(2:Nat) ^ 256=115792089237316195423570985008687907853269984665640564039457584007913129639936:=by decide
 lia
theorem fmod_pos {a b:Int} (h:0<b):0≤a.fmod b∧a.fmod b<b:=by
 rw [zbw0 a (by lia)]
 exact⟨Int.emod_nonneg a (by lia),Int.emod_lt_of_pos a h⟩
theorem zat0 (d:D):eqD d d=true:=eqD_true.mpr rfl
theorem za8 {g1 g2:DS}{t t':Th} (h:g1 t=some (.nx t')):dSeq g1 g2 t=g2 t':=by simp [dSeq,h]
theorem seq_rt {g1 g2:DS}{t:Th}{r:Ev} (h:g1 t=some (.rt r)):dSeq g1 g2 t=some (.rt r):=by simp [dSeq,h]
theorem RepDs.length {K:zbj0}{H0 H:Hp}:∀ {ds:List D}{vs:List V}{B:List Addr},RepDs K H0 H ds vs B→vs.length=ds.length
 |_,_,_,.nil=>rfl
 |_,_,_,.cons _ r=>by simp [RepDs.length r]
theorem RSl.focusDp {K:zbj0}{H0 H:Hp}:∀ {t:Th}{σ:L2.St}{A:List Addr},RSl K H0 H t σ A→A.Nodup→∀ {i:Nat}{d:D},t[i]?=some (.dp d)→∃v B,σ[i]?=some (some v)∧(∀b∈B,b∈A)∧B.Nodup∧RepD K H0 H d v B ∧
  ∀H0' H' d2 B2,Same H0 H0'→RepD K H0' H' d2 v B2→B2.Sublist B→(∀q∈A,q∉B→∀o,H q=some o→H' q=some o)→∃A2,RSl K H0' H' (t.set i (.dp d2)) σ A2∧A2.Sublist A:=by
 intro _ _ _ h
 induction h with
 |nil =>
  intro n i d e
  simp at e
 |@no _ _ _ _ r ih =>
  intro n i d e
  cases i with
  |zero =>
   simp at e
  |succ i =>
   obtain⟨v,B,a,b,n',c,k⟩:=ih n (i:=i) (d:=d) (by simpa using e)
   refine⟨v,B,by simpa using a,b,n',c,fun H0' H' d2 B2 s q sb w=>?_⟩
   obtain⟨A2,x,y⟩:=k H0' H' d2 B2 s q sb w
   exact⟨A2,.no x,y⟩
 |@val _ v _ _ _ h r ih =>
  intro n i d e
  cases i with
  |zero =>
   simp at e
  |succ i =>
   obtain⟨v,B,a,b,n',c,k⟩:=ih n (i:=i) (d:=d) (by simpa using e)
   refine⟨v,B,by simpa using a,b,n',c,fun H0' H' d2 B2 s q sb w=>?_⟩
   obtain⟨A2,x,y⟩:=k H0' H' d2 B2 s q sb w
   exact⟨A2,.val (Rep.mono s h) x,y⟩
 |@own p _ _ _ _ _ h1 h2 r ih =>
  intro n i d e
  cases i with
  |zero =>
   simp at e
  |succ i =>
   have n0:=zbl6.mp n
   obtain⟨v,B,a,b,n',c,k⟩:=ih n0.2 (i:=i) (d:=d) (by simpa using e)
   refine⟨v,B,by simpa using a,fun x hx=>zbj2 _ (b x hx),n',c,fun H0' H' d2 B2 s q sb w=>?_⟩
   obtain⟨A2,x,y⟩:=k H0' H' d2 B2 s q sb (fun q hq=>w q (zbj2 _ hq))
   exact⟨p::A2,.own (w p (zbj7 ..) (fun z=>n0.1 (b p z)) _ h1) (Reps.mono s h2) x,y.cons₂ _⟩
 |@dp _ v C _ _ _ h r ih =>
  intro n i d e
  cases i with
  |zero =>
   simp at e;subst e
   have n0:=zbl0.mp n
   refine⟨v,C,rfl,fun x hx=>zbj1 _ hx,n0.1,h,fun H0' H' d2 B2 s q sb w=>?_⟩
   exact⟨_,.dp q (RSl.mono s r fun p hp=>w p (zbi9 _ hp) fun z=>n0.2.2 p z p hp rfl),List.Sublist.append sb (List.Sublist.refl _)⟩
  |succ i =>
   have n0:=zbl0.mp n
   obtain⟨v,B,a,b,n',c,k⟩:=ih n0.2.1 (i:=i) (d:=d) (by simpa using e)
   refine⟨v,B,by simpa using a,fun x hx=>zbi9 _ (b x hx),n',c,fun H0' H' d2 B2 s q sb w=>?_⟩
   obtain⟨A2,x,y⟩:=k H0' H' d2 B2 s q sb (fun q hq=>w q (zbi9 _ hq))
   exact⟨C++A2,.dp (RepD.mono s h fun p hp=>w p (zbj1 _ hp) fun z=>n0.2.2 p hp p (b p z) rfl) x,List.Sublist.append (List.Sublist.refl _) y⟩
noncomputable def toDn:Ev→Option D
 |.cl d=>if flat d then some d else none
 |.tm d=>if flat d then some d else none
 |.nw xs=>if flats xs then some (.lst xs) else none
 |.dn d=>some d
theorem RepEv.toDn {K:zbj0}{F A:List Addr}{H H':Hp}{r:Ev}{v:V}{d:D} (m:Lists H (A++F)) (g:Same H H') (h:RepEv K F A H H' r v) (e:toDn r=some d):RepEv K F A H H' (.dn d) v:=by
 cases r with
 |cl d0 =>
  simp only [DL.toDn]at e
  split at e
  ·rename_i f;cases e
   exact⟨[],zbm2,fun b hb=>(by cases hb),.flat f h⟩
  ·cases e
 |tm d0 =>
  simp only [DL.toDn]at e
  split at e
  ·rename_i f;cases e
   exact⟨[],zbm2,fun b hb=>(by cases hb),.flat f (Rep.hid (m.mono g) f (Rep.mono (zb7 _ _) h))⟩
  ·cases e
 |nw xs =>
  simp only [DL.toDn]at e
  split at e
  ·rename_i f;cases e
   obtain⟨p,vs,rfl,h1,h2,h3⟩:=h
   exact⟨[p],by simp,fun b hb=>by simp at hb;subst hb;exact h1,.lst h2 (RepDs.of_flat f h3)⟩
  ·cases e
 |dn d0=>cases e;exact h
abbrev DN:=Th→Option (D×List Nat)
abbrev DNs:=Th→Option (List D×List Nat)
theorem RepDs.appD {K:zbj0}{H0 H:Hp}{d:D}{v:V}{C:List Addr} (q:RepD K H0 H d v C):∀ {ds:List D}{vs:List V}{B:List Addr},RepDs K H0 H ds vs B→RepDs K H0 H (ds++[d]) (vs++[v]) (B++C)
 |_,_,_,.nil=>by
  have:=RepDs.cons q .nil
  simpa using this
 |_,_,_,.cons h r=>by
  have:=RepDs.cons h (RepDs.appD q r)
  simpa [zbx6] using this
noncomputable def zj6 (k:D→Th→Option Th) (ft:DT) (fe:DE):List D→Th→Option (List D)
 |[],_=>some []
 |d::ds,t=>(k d t).bind fun t1=>(ft t1).bind fun b=>if b then (fe t1).bind fun r=>(toDn r).bind fun d=>(zj6 k ft fe ds t1).map fun xs=>d::xs else zj6 k ft fe ds t1
noncomputable def zn4 (n:Nat) (cap:List Nat) (fs:DI) (k:D→Th→Option Th) (ft:DT) (fe:DE):DE:=fun t=>(fs t).bind fun q=>(capD t cap).bind fun c=>if q.2.length≤50000 then (zj6 k ft fe q.2 (zbj8 n Sl.no++c.2.map Sl.val)).map fun xs=>.dn (.lst xs) else none
theorem zab1 {k:D→Th→Option Th}{ft:DT}{fe:DE}:∀ {ds:List D}{t:Th}{xs:List D},zj6 k ft fe ds t=some xs→xs.length≤ds.length
 |[],t,xs,e=>by cases e;simp
 |d::ds,t,xs,e=>by
  unfold zj6 at e
  cases e1:k d t with
  |none=>rw [e1]at e;cases e
  |some t1 =>
   rw [e1]at e
   have e:((ft t1).bind fun b=>if b then (fe t1).bind fun r=>(toDn r).bind fun d=>(zj6 k ft fe ds t1).map fun xs=>d::xs else zj6 k ft fe ds t1)=some xs:=e
   cases e2:ft t1 with
   |none=>rw [e2]at e;cases e
   |some b =>
    rw [e2]at e
    cases b with
    |false=>have:=zab1 (ds:=ds) (t:=t1) e;simp;lia
    |true =>
     have e:((fe t1).bind fun r=>(toDn r).bind fun d=>(zj6 k ft fe ds t1).map fun xs=>d::xs)=some xs:=e
     cases e3:fe t1 with
     |none=>rw [e3]at e;cases e
     |some r =>
      rw [e3]at e
      have e:((toDn r).bind fun d=>(zj6 k ft fe ds t1).map fun xs=>d::xs)=some xs:=e
      cases e5:toDn r with
      |none=>rw [e5]at e;cases e
      |some d0 =>
       rw [e5]at e
       have e:((zj6 k ft fe ds t1).map fun xs=>d0::xs)=some xs:=e
       cases e4:zj6 k ft fe ds t1 with
       |none=>rw [e4]at e;cases e
       |some ys=>rw [e4]at e;cases e;have:=zab1 e4;simp;lia
theorem zag5 {X:Cx}{F:List Addr}{n:Nat}{cap:List Nat}{fs:DI}{g:TG}{kt:D→Th→Option Th}{ft:DT}{fe:DE} (hk:∀F',TgOk X.K F' g kt) {σ:L2.St}{H:Hp}{Q:VK} (h:dE X.K F (zn4 n cap fs kt ft fe) σ H Q) :
  zal6 n cap (dI X.K F fs) g (fun σ H Q => ∃F',dT X.K F' ft σ H Q) (fun σ H Q => ∃F',dE X.K F' fe σ H Q) σ H Q:=by
 obtain⟨A,t,r,R,e,h⟩:=h
 unfold zn4 at e
 cases e1:fs t with
 |none=>rw [e1]at e;cases e
 |some q =>
  obtain⟨b,ds⟩:=q
  cases e2:capD t cap with
  |none=>rw [e1,e2]at e;cases e
  |some q2 =>
   obtain⟨c,caps⟩:=q2
   rw [e1,e2]at e
   have e:(if ds.length≤50000 then (zj6 kt ft fe ds (zbj8 n Sl.no++caps.map Sl.val)).map fun xs=>Ev.dn (.lst xs) else none)=some r:=e
   split at e
   case isFalse=>cases e
   rename_i hlen
   cases e3:zj6 kt ft fe ds (zbj8 n Sl.no++caps.map Sl.val) with
   |none=>rw [e3]at e;cases e
   |some xs =>
    rw [e3]at e
    cases e
    have xl:=zab1 e3
    obtain⟨cvs,cv1,cv2⟩:=zu7 R e2
    -- what is hidden from the block,but its own list
    obtain⟨F',F'def⟩:∃F',F'=hidF (b&&c) A F:=⟨_,rfl⟩
    have subF:∀x∈F',x∈A++F:=fun x hx=>by
     rw [F'def]at hx
     unfold hidF at hx
     split at hx
     ·exact hx
     ·exact zbi9 _ hx
    have lessB:∀H:Hp,Same (hide (hidF b A F) H) (hide F' H):=fun H=>zb3 H fun x hx=>by
     rw [F'def]at hx
     cases b<;>cases c<;>simp [hidF]at hx ⊢<;>first | exact hx | exact .inr hx | (rcases hx with z | z<;>simp [z])
    have lessC:∀H:Hp,Same (hide (hidF c A F) H) (hide F' H):=fun H=>zb3 H fun x hx=>by
     rw [F'def]at hx
     cases b<;>cases c<;>simp [hidF]at hx ⊢<;>first | exact hx | exact .inr hx | (rcases hx with z | z<;>simp [z])
    have wi:zal6 n cap (dI X.K F fs) g (fun σ H Q => ∃F',dT X.K F' ft σ H Q) (fun σ H Q => ∃F',dE X.K F' fe σ H Q) σ H Q:=by
     refine⟨A,t,b,ds,R,e1,fun J H1 Good gs src gd Dd hD=>?_⟩
     have H1A:Lists H1 (A++F):=R.mu.mono gs
     have st0:Same (hide F' H1) (hide (Dd::F') (upd H1 Dd (.lst []))):=zk2 hD
     refine⟨fun i m σ' H'=>i+m=ds.length∧∃th acc rest vs B,RS X.K (Dd::F') H' [] th σ'∧zj6 kt ft fe (ds.drop i) th=some rest∧acc++rest=xs∧H' Dd=some (.lst vs)∧(RepDs X.K (hide (Dd::F') H') H' acc vs B∧B.Nodup∧Dd∉B∧∀b∈B,H1 b=none)∧Same H1 H'∧Good (Dd::F') H',
      ⟨ds.length,by lia,_,[],xs,[],[],⟨?_,zbm2,fun p hp=>(by cases hp),?_⟩,by simpa using e3,rfl,zc1,⟨.nil,zbm2,by simp,by simp⟩,zd4 hD,src.keep _ _ _ _ gd (fun b o z=>st0 _ _ (lessB _ _ _ z))⟩,?_⟩
     ·intro q hq
      have hq:q∈Dd::F':=hq
      rcases zbj9.mp hq with z | z
      ·exact⟨mL [],by rw [z];exact zc1⟩
      ·obtain⟨us,w⟩:=H1A q (subF q z)
       exact⟨us,(zd4 hD) _ _ w⟩
     ·unfold capV
      rw [cv1]
      exact RSl.noVals (Reps.mono (fun b o z=>st0 _ _ (lessC H1 _ _ (zb6 gs _ _ z))) cv2) n
     ·rintro i m σ' H' ⟨hm,th,acc,rest,vs,B,RR,ec,ex,hv,⟨hr,hnd,hDB,hfr⟩,sm,gg⟩
      cases m with
      |zero =>
       have z:i=ds.length:=by lia
       subst z
       rw [zbq3]at ec
       cases ec
       rw [zbu6]at ex
       subst ex
       refine .inl ⟨src.stop _ _ gg,h _ H' (gs.trans sm) ⟨Dd::B,zbl6.mpr ⟨hDB,hnd⟩,fun x hx=>?_,.lst hv (RepDs.hid (fun q hq=>?_) (zb7 _ _) hr)⟩⟩
       ·rcases zbj9.mp hx with rfl | z
        ·exact Same.free gs hD
        ·exact Same.free gs (hfr x z)
       ·rcases zbj4.mp hq with z | z
        ·rcases zbj9.mp z with rfl | z
         ·exact⟨mL vs,hv⟩
         ·exact hr.lists q z
        ·obtain⟨us,w⟩:=H1A q z
         exact⟨us,sm _ _ w⟩
      |succ m =>
       have hil:i<ds.length:=by lia
       refine .inr ⟨src.go _ _ i gg hil,fun σ' H'=>i+1+m=ds.length∧∃th acc rest vs B,RS X.K (Dd::F') H' [] th σ'∧zj6 kt ft fe (ds.drop (i+1)) th=some rest∧acc++rest=xs∧H' Dd=some (.lst vs)∧(RepDs X.K (hide (Dd::F') H') H' acc vs B∧B.Nodup∧Dd∉B∧∀b∈B,H1 b=none)∧Same H1 H'∧Good (Dd::F') H',
        fun σ' H' q=>⟨m,zbo2 m,q⟩,fun x H2 y=>?_⟩
       obtain⟨gs2,d,hd,rd⟩:=src.yld _ _ i x H2 gg RR.mu y hil
       have ed:ds.drop i=d::ds.drop (i+1):=by
        have hd':ds[i]=d:=by
         rw [zbj6 hil]at hd
         exact Option.some.inj hd
        rw [← hd']
        exact zbm6 hil
       rw [ed]at ec
       unfold zj6 at ec
       cases k1:kt d th with
       |none=>rw [k1]at ec;cases ec
       |some t1 =>
        rw [k1]at ec
        have ec:((ft t1).bind fun b=>if b then (fe t1).bind fun r=>(toDn r).bind fun d=>(zj6 kt ft fe (ds.drop (i+1)) t1).map fun xs=>d::xs else zj6 kt ft fe (ds.drop (i+1)) t1)=some rest:=ec
        refine hk (Dd::F') σ' H2 [] th t1 d x _ (RR.grow gs2) rd k1 fun σ2 A2 gr2 R2=>?_
        have A20:=zn0 R2 gr2
        subst A20
        cases k2:ft t1 with
        |none=>rw [k2]at ec;cases ec
        |some bb =>
         rw [k2]at ec
         refine⟨Dd::F',[],t1,bb,R2,k2,fun H3 gs3=>?_⟩
         cases bb with
         |false =>
          refine iteF ⟨by lia,t1,acc,rest,vs,B,R2.grow gs3,ec,ex,gs3 _ _ (gs2 _ _ hv),⟨RepDs.mono (zb6 (gs2.trans gs3)) hr fun p _ o w=>gs3 _ _ (gs2 _ _ w),hnd,hDB,hfr⟩,(sm.trans gs2).trans gs3,src.keep _ _ _ _ gg (zb6 (gs2.trans gs3))⟩
         |true =>
          have ec:((fe t1).bind fun r=>(toDn r).bind fun d=>(zj6 kt ft fe (ds.drop (i+1)) t1).map fun xs=>d::xs)=some rest:=ec
          cases k3:fe t1 with
          |none=>rw [k3]at ec;cases ec
          |some re =>
           rw [k3]at ec
           have ec:((toDn re).bind fun d=>(zj6 kt ft fe (ds.drop (i+1)) t1).map fun xs=>d::xs)=some rest:=ec
           cases k5:toDn re with
           |none=>rw [k5]at ec;cases ec
           |some de =>
           rw [k5]at ec
           have ec:((zj6 kt ft fe (ds.drop (i+1)) t1).map fun xs=>de::xs)=some rest:=ec
           cases k4:zj6 kt ft fe (ds.drop (i+1)) t1 with
           |none=>rw [k4]at ec;cases ec
           |some ys =>
            rw [k4]at ec
            cases ec
            refine iteT ⟨Dd::F',[],t1,re,R2.grow gs3,k3,fun v H4 gs4 q4=>⟨vs,gs4 _ _ (gs3 _ _ (gs2 _ _ hv)),?_,?_⟩⟩
            ·have l1:=hr.length
             have l2:acc.length+(ys.length+1)=xs.length:=by rw [← ex];simp
             exact zbk9 (show vs.length<50000 by lia) (by rw [sizeLine_eq];decide)
            ·have s3:=gs2.trans gs3
             have s4:=s3.trans gs4
             have hu:Same (hide (Dd::F') H4) (hide (Dd::F') (upd H4 Dd (.lst (vs++[v])))):=zg1 (zbj7 ..)
             have mu3:Lists H3 (Dd::F'):=(R2.grow gs3).mu
             obtain⟨B4,n4,f4,r4⟩:=q4.toDn (R2.grow gs3).mu gs4 k5
             have D3:H3 Dd=some (.lst vs):=s3 _ _ hv
             have nD4:Dd∉B4:=fun z=>by rw [f4 _ z]at D3;cases D3
             have off:∀b,b≠Dd→upd H4 Dd (.lst (vs++[v])) b=H4 b:=fun b n=>zc9 n
             refine⟨by lia,t1,acc++[de],ys,vs++[v],B++B4,RS.updF ((R2.grow gs3).grow gs4) (zbj7 ..),k4,by simpa using ex,zc1,⟨?_,?_,?_,?_⟩,?_,?_⟩
             ·refine RepDs.appD (RepD.mono hu (RepD.hid (mu3.mono gs4) (zb7 _ _) r4) fun b hb o w=>?_) (RepDs.mono (fun b o z=>hu _ _ (zb6 s4 _ _ z)) hr fun b hb o w=>?_)
              ·rw [off b fun z=>nD4 (z ▸ hb)];exact w
              ·rw [off b fun z=>hDB (z ▸ hb)];exact s4 _ _ w
             ·refine zbl0.mpr ⟨hnd,n4,fun x hx y hy e=>?_⟩
              subst e
              obtain⟨us,w⟩:=hr.lists x hx
              have:=s3 _ _ w
              rw [f4 x hy]at this;cases this
             ·intro z
              rcases zbj4.mp z with z | z
              ·exact hDB z
              ·exact nD4 z
             ·intro b hb
              rcases zbj4.mp hb with z | z
              ·exact hfr b z
              ·exact Same.free (sm.trans s3) (f4 b z)
             ·exact fun b o z=>by
               rw [zc9 (fun w=>by rw [w,hD]at z;cases z)]
               exact s4 _ _ (sm _ _ z)
             ·exact src.keep _ _ _ _ gg (fun b o z=>hu _ _ (zb6 s4 _ _ z))
    exact wi
theorem zba0 {X:Cx}{F:List Addr}{elt tg iter:Expr}{ifs:List Expr}{scope:Scope}{pos:Pos}{n:Nat}{cap:List Nat}{N':List Str}{fs:DI}{g:TG}{kt:D→Th→Option Th}{ft:DT}{fe:DE} (S:CompSc X scope) (hc:X.calm=true) (hi:PI X tg iter (dI X.K F fs))
  (hN:N'.length=n+cap.length) (hcap:∀(k:Nat) (j:Nat),cap[k]?=some j→∃x,N'[n+k]?=some x∧X.N[j]?=some x∧(x,NameKind.free)∈scope.names)
  (hg:∀C s₃ H₃ fp pins,PG (blk X N' scope C s₃ H₃ fp pins) tg g) (hk:∀F',TgOk X.K F' g kt) (ht:∀C s₃ H₃ fp pins F',PTs (blk X N' scope C s₃ H₃ fp pins) ifs (dT X.K F' ft)) (he:∀C s₃ H₃ fp pins F',PE (blk X N' scope C s₃ H₃ fp pins) elt (dE X.K F' fe))
  (hs:∀x,foldedSetIterable iter X.env x=pure x:=by intro _;rfl):PE X (.ListComp elt [⟨tg,iter,ifs,0⟩] scope pos) (dE X.K F (zn4 n cap fs kt ft fe)) :=
 PE.imp (zba3 (g:=g) S hc hi hN hcap hg (fun C s₃ H₃ fp pins pins' s σ H Q I ⟨F',q⟩=>ht C s₃ H₃ fp pins F' pins' s σ H Q I q) (fun C s₃ H₃ fp pins pins' s σ H Q I ⟨F',q⟩=>he C s₃ H₃ fp pins F' pins' s σ H Q I q) hs) fun _ _ _ h=>zag5 hk h
theorem zau9 {X:Cx}{F:List Addr}{elt tg iter:Expr}{ifs:List Expr}{scope:Scope}{pos:Pos}{fs:DI}{g:TG}{kt:D→Th→Option Th}{ft:DT}{fe:DE} (n:Nat) (cap:List Nat) (N':List Str) (hc:X.calm=true) (hi:PI X tg iter (dI X.K F fs))
  (hg:∀C s₃ H₃ fp pins,PG (blk X N' scope C s₃ H₃ fp pins) tg g) (hk:∀F',TgOk X.K F' g kt) (ht:∀C s₃ H₃ fp pins F',PTs (blk X N' scope C s₃ H₃ fp pins) ifs (dT X.K F' ft)) (he:∀C s₃ H₃ fp pins F',PE (blk X N' scope C s₃ H₃ fp pins) elt (dE X.K F' fe))
  (hkd:scope.kind=.function:=by rfl) (hcs:zw6 scope.names X.env.kindOf=true:=by rfl) (hN:N'.length=n+cap.length:=by rfl) (hcap:zac2 N' X.N n scope.names 0 cap=true:=by rfl)
  (hs:∀x,foldedSetIterable iter X.env x=pure x:=by intro _;rfl):PE X (.ListComp elt [⟨tg,iter,ifs,0⟩] scope pos) (dE X.K F (zn4 n cap fs kt ft fe)) :=
 zba0 (zak3 hkd hcs) hc hi hN (fun k j e=>by simpa using zq9 hcap k j e) hg hk ht he hs
section
variable {X:Cx}{F:List Addr}{a b c o:Expr}{es:List Expr}{fa fb fc:DE}{fs:List DE}{ga:DA}{g g1 g2:DS}{ft fu:DT}{pos:Pos}{st:Stmt}{rest:List Stmt}{tg:Expr}{gt:TG}{kt:D→Th→Option Th}
theorem rep_bl {K:zbj0}{H:Hp}{p:Bool}{v:V} (h:Rep K H (.bl p) v):v=.bl p:=by cases h;rfl
noncomputable def kRep:Ev→Ev→Option Ev:=fun r1 r2=>match r1,r2.d with
 |.nw xs,.int k=>if xs.length≤100&&decide (-1000000≤k∧k≤1000) then some (.nw (zbj8 k.toNat xs).flatten) else none
 |_,_=>none
theorem Reps.rep {K:zbj0}{H:Hp}{ds:List D}{vs:List V} (r:Reps K H ds vs):∀k:Nat,Reps K H (zbj8 k ds).flatten (zbj8 k vs).flatten
 |0=>by simpa using .nil
 |k+1=>by simpa [zbp3] using r.app (Reps.rep r k)
theorem ze7:OpD X F (binaryOp .Mult) kRep:=by
 intro pins s σ H0 H A x y v u Q r1 r2 r I m g0 rx ry q1 q2 e hq
 unfold kRep at e
 split at e
 ·rename_i xs k z
  split at e
  ·rename_i ok
   simp only [zbj5,decide_eq_true_eq]at ok
   cases e
   have p2:=q2.full
   rw [z]at p2
   cases zf9 p2
   obtain⟨p,vs,rfl,h1,h2,h3⟩:=q1
   refine op_rep pins s σ H _ _ v u Q I rx ry ⟨p,k,vs,rfl,rfl,h2,by lia,by lia,?_,fun l hl=>hq _ _ (zd4 hl) ⟨l,_,rfl,Same.free g0 hl,zc1,Reps.mono (zk2 hl) (Reps.rep (Reps.mono (zb3 H fun a z=>zbj2 _ z) h3) _)⟩⟩
   refine le_line ?_
   rw [h3.length]
   have h5:k.toNat≤1000:=by lia
   exact zbk3 (zbo0 ok.1 h5) (by decide)
  ·cases e
 ·cases e
def blsD:List D→Option (List Bool)
 |[]=>some []
 |.bl i::r=>(blsD r).map fun ns=>i::ns
 |_::_=>none
theorem zbi1:∀ {ds:List D}{ns:List Bool},blsD ds=some ns→ds=ns.map D.bl
 |[],ns,e=>by cases e;rfl
 |.bl i::r,ns,e=>by
  unfold blsD at e
  cases e1:blsD r with
  |none=>rw [e1]at e;cases e
  |some m=>rw [e1]at e;cases e;rw [zbi1 e1];rfl
 |.non::r,ns,e=>by cases e
 |.int _::r,ns,e=>by cases e
 |.str _::r,ns,e=>by cases e
 |.tup _::r,ns,e=>by cases e
 |.lst _::r,ns,e=>by cases e
theorem zaq9 {K:zbj0}{H:Hp}:∀ {ns:List Bool}{vs:List V},Reps K H (ns.map D.bl) vs→vs=ns.map V.bl
 |[],_,.nil=>rfl
 |n::r,_,.cons h q=>by cases rep_bl h;rw [zaq9 q];rfl
theorem zaf8:∀ {bs:List Bool}{its:List Value},Vals (bs.map V.bl) its→LSm.BoolsAre its bs
 |[],its,h=>by cases h;exact .nil
 |b::bs,its,h=>by
  cases h with
  |cons r rr=>cases r;exact .cons b (zaf8 rr)
theorem zac4 (hc:X.calm=true):zm7 X (.builtin "all") (fun xs H Q => ∃(p:Addr) (bs:List Bool),xs=[.ref p]∧SqL X.K H p (bs.map V.bl)∧Q (.bl (bs.all id)) H):=by
 intro pins s σ H xs us Q I r h
 obtain⟨p,bs,rfl,hs,q⟩:=h
 obtain⟨u,rfl,ru⟩:=zw9 r
 cases ru
 obtain⟨its,rv,pl,_⟩:=I.list hs
 have hb:=zaf8 rv
 have hl:=PlainL.isL pl
 have hlt:p<s.heap.objs.size:=by obtain⟨_,e,_⟩:=hl;exact zbk8 e
 refine call_all_walk (wpAny_pyIter_list hl ⟨s.heap.objs.size,[s.heap.objs.size,p],[s.heap.objs.size],its.toArray.size,_,_,fun i=>(bs[i]?).getD true,rfl,
  Walks.list (A:=X.A.in1) (I.ok.hd hc) _ p (zbl7 hlt) its.toArray,⟨⟨_,zbm7 _ rfl,rfl,rfl⟩,hl.push _⟩,fun i v s' Q' E' hP hQ=>?_,fun h' tk hk=>?_⟩)
 ·obtain⟨b,e,rfl⟩:=hb.get i v (by simpa using hP)
  have hQ:Q' ((bs[i]?).getD true) s':=hQ
  rw [e]at hQ
  exact wpAny_truthy_bool hQ
 ·have e:((zbl9 its.toArray.size).all fun i=>(bs[i]?).getD true)=bs.all id:=by
   rw [zbl4,hb.length,LSm.range_all]
  refine⟨.bl _,H,I.kept (t':=tk) (LSm.kept_iter hk),rfl,?_⟩
  rw [e];exact q
theorem zac3 (hc:X.calm=true):zm7 X (.builtin "any") (fun xs H Q => ∃(p:Addr) (bs:List Bool),xs=[.ref p]∧SqL X.K H p (bs.map V.bl)∧Q (.bl (bs.any id)) H):=by
 intro pins s σ H xs us Q I r h
 obtain⟨p,bs,rfl,hs,q⟩:=h
 obtain⟨u,rfl,ru⟩:=zw9 r
 cases ru
 obtain⟨its,rv,pl,_⟩:=I.list hs
 have hb:=zaf8 rv
 have hl:=PlainL.isL pl
 have hlt:p<s.heap.objs.size:=by obtain⟨_,e,_⟩:=hl;exact zbk8 e
 refine call_any_walk (wpAny_pyIter_list hl ⟨s.heap.objs.size,[s.heap.objs.size,p],[s.heap.objs.size],its.toArray.size,_,_,fun i=>(bs[i]?).getD false,rfl,
  Walks.list (A:=X.A.in1) (I.ok.hd hc) _ p (zbl7 hlt) its.toArray,⟨⟨_,zbm7 _ rfl,rfl,rfl⟩,hl.push _⟩,fun i v s' Q' E' hP hQ=>?_,fun h' tk hk=>?_⟩)
 ·obtain⟨b,e,rfl⟩:=hb.get i v (by simpa using hP)
  have hQ:Q' ((bs[i]?).getD false) s':=hQ
  rw [e]at hQ
  exact wpAny_truthy_bool hQ
 ·have e:((zbl9 its.toArray.size).any fun i=>(bs[i]?).getD false)=bs.any id:=by
   rw [zbl4,hb.length,LSm.range_any]
  refine⟨.bl _,H,I.kept (t':=tk) (LSm.kept_iter hk),rfl,?_⟩
  rw [e];exact q
noncomputable def kBls (f:List Bool→Bool):List Ev→Option Ev:=fun rs=>match rs with
 |[r]=>(match r.d with
  |.lst ds=>(blsD ds).map fun bs=>.cl (.bl (f bs))
  |_=>none)
 |_=>none
theorem cd_bls {id':String}{f:List Bool→Bool} (h:zm7 X (.builtin id') (fun xs H Q => ∃(p:Addr) (bs:List Bool),xs=[.ref p]∧SqL X.K H p (bs.map V.bl)∧Q (.bl (f bs)) H)):CallD X F (.builtin id') (kBls f):=by
 refine CallD.of h fun H0 H A xs rs e Q m g q ek hq=>?_
 unfold kBls at ek
 split at ek
 case h_2=>cases ek
 rename_i r
 cases q with
 |@cons _ v _ vs q1 q2 =>
  cases q2
  split at ek
  case h_2=>cases ek
  rename_i ds z
  cases e1:blsD ds with
  |none=>rw [e1]at ek;cases ek
  |some bs =>
   rw [e1]at ek
   cases ek
   have p:=q1.full
   rw [z,zbi1 e1]at p
   cases p with
   |@lst _ l us h1 h2 =>
    have:=zaq9 h2
    subst this
    exact⟨l,bs,rfl,h1,hq _ H (Same.refl H) (.bl _)⟩
end
end DL
namespace DL
open PySem.Spec L2
def zy9 (a b c:Int):Bool:=Builtin.Range.small a b c&&decide (c≠0∧c.natAbs<1000000∧0≤Builtin.Range.rangeSize a b c)
def rng3 (a b c:Int):List D:=(zbl9 (Builtin.Range.rangeSize a b c).toNat).map fun i=>.int (a+(i:Nat)*c)
def mkG (k:Nat) (N:List Str) (g:DS):List D→Option Ev:=fun ds=>if ds.length=k then (g (zac6 N ds)).bind zk5 else none
theorem ze8 {k:Nat}{N:List Str}{g:DS}{ds:List D}{r:Ev} (e:mkG k N g ds=some r):ds.length=k:=by
 unfold mkG at e
 split at e
 ·assumption
 ·cases e
theorem zg8 {k:Nat}{N:List Str}{g:DS}{ds:List D}{r:Ev} (e:mkG k N g ds=some r):∃o,g (zac6 N ds)=some o∧zk5 o=some r:=by
 unfold mkG at e
 split at e
 ·cases e1:g (zac6 N ds) with
  |none=>rw [e1]at e;cases e
  |some o=>rw [e1]at e;exact⟨o,rfl,e⟩
 ·cases e
section
variable {X:Cx}{F:List Addr}{elt tg iter:Expr}{ifs:List Expr}{scope:Scope}{pos spos py:Pos}{fs:DI}{g:TG}{kt:D→Th→Option Th}{ft:DT}{fe fc:DE}{i:Nat}{y:Str}
theorem compU {n:Nat}{cap:List Nat}{N':List Str} (up:∀ {σ:L2.St}{H:Hp}{Q:VK},dE X.K F fc σ H Q→zal6 n cap (dI X.K F fs) g (fun σ H Q => ∃F',dT X.K F' ft σ H Q) (fun σ H Q => ∃F',dE X.K F' fe σ H Q) σ H Q) (hc:X.calm=true) (hi:PI X tg iter (dI X.K F fs))
  (hg:∀C s₃ H₃ fp pins,PG (blk X N' scope C s₃ H₃ fp pins) tg g) (ht:∀C s₃ H₃ fp pins F',PTs (blk X N' scope C s₃ H₃ fp pins) ifs (dT X.K F' ft)) (he:∀C s₃ H₃ fp pins F',PE (blk X N' scope C s₃ H₃ fp pins) elt (dE X.K F' fe))
  (hNd:X.N.Nodup) (hi₀:X.N[i]?=some y) (hy:Loc X.env.scope y) (hsw:swapsWith (.ListComp elt [⟨tg,iter,ifs,0⟩] scope pos) (some (.Name y py)) spos.line X.env=pure true) (hf:X.fn y=true∨X.env.scope.names.lookup y=some .local)
  (hkd:scope.kind=.function) (hcs:zw6 scope.names X.env.kindOf=true) (hN:N'.length=n+cap.length) (hcap:zac2 N' X.N n scope.names 0 cap=true) (hs:∀x,foldedSetIterable iter X.env x=pure x) :
  PS X (.Assign [.Name y py] (.ListComp elt [⟨tg,iter,ifs,0⟩] scope pos) spos) (dS X.K F (dAsg i fc)):=by
 refine PS.imp (ps_compU (g:=g) (wi:=dI X.K F fs) (tt:=fun σ H Q => ∃F',dT X.K F' ft σ H Q) (te:=fun σ H Q => ∃F',dE X.K F' fe σ H Q) (zak3 hkd hcs) hc hi hN (fun k j e=>by simpa using zq9 hcap k j e) hg (fun C s₃ H₃ fp pins pins' s σ H Q I ⟨F',q⟩=>ht C s₃ H₃ fp pins F' pins' s σ H Q I q) (fun C s₃ H₃ fp pins pins' s σ H Q I ⟨F',q⟩=>he C s₃ H₃ fp pins F' pins' s σ H Q I q) hNd hi₀ hy hsw hf hs) ?_
 rintro E σ H ⟨A,t,o,R,e,h⟩
 unfold dAsg at e
 cases e1:fc t with
 |none=>rw [e1]at e;cases e
 |some r1 =>
  rw [e1]at e
  have e:(zn8 t i r1).map Out.nx=some o:=e
  cases e2:zn8 t i r1 with
  |none=>rw [e2]at e;cases e
  |some t' =>
   rw [e2]at e
   cases e
   refine up ⟨A,t,r1,R,e1,fun v H' gs q=>?_⟩
   obtain⟨A',g',R'⟩:=R.put gs q e2
   exact h _ _ _ g' R'
theorem zy0 (n:Nat) (cap:List Nat) (N':List Str) (hNd:X.N.Nodup) (hi₀:X.N[i]?=some y) (hy:Loc X.env.scope y) (hc:X.calm=true) (hi:PI X tg iter (dI X.K F fs))
  (hg:∀C s₃ H₃ fp pins,PG (blk X N' scope C s₃ H₃ fp pins) tg g) (hk:∀F',TgOk X.K F' g kt) (ht:∀C s₃ H₃ fp pins F',PTs (blk X N' scope C s₃ H₃ fp pins) ifs (dT X.K F' ft)) (he:∀C s₃ H₃ fp pins F',PE (blk X N' scope C s₃ H₃ fp pins) elt (dE X.K F' fe))
  (hsw:swapsWith (.ListComp elt [⟨tg,iter,ifs,0⟩] scope pos) (some (.Name y py)) spos.line X.env=pure true:=by rfl) (hf:X.fn y=true∨X.env.scope.names.lookup y=some .local:=by first | exact .inl rfl | exact .inr rfl)
  (hkd:scope.kind=.function:=by rfl) (hcs:zw6 scope.names X.env.kindOf=true:=by rfl) (hN:N'.length=n+cap.length:=by rfl) (hcap:zac2 N' X.N n scope.names 0 cap=true:=by rfl)
  (hs:∀x,foldedSetIterable iter X.env x=pure x:=by intro _;rfl):PS X (.Assign [.Name y py] (.ListComp elt [⟨tg,iter,ifs,0⟩] scope pos) spos) (dS X.K F (dAsg i (ze3 n cap fs kt ft fe))) :=
 compU (fun h=>zaq3 hk h) hc hi hg ht he hNd hi₀ hy hsw hf hkd hcs hN hcap hs
theorem zaz1 (n:Nat) (cap:List Nat) (N':List Str) (hNd:X.N.Nodup) (hi₀:X.N[i]?=some y) (hy:Loc X.env.scope y) (hc:X.calm=true) (hi:PI X tg iter (dI X.K F fs))
  (hg:∀C s₃ H₃ fp pins,PG (blk X N' scope C s₃ H₃ fp pins) tg g) (hk:∀F',TgOk X.K F' g kt) (ht:∀C s₃ H₃ fp pins F',PTs (blk X N' scope C s₃ H₃ fp pins) ifs (dT X.K F' ft)) (he:∀C s₃ H₃ fp pins F',PE (blk X N' scope C s₃ H₃ fp pins) elt (dE X.K F' fe))
  (hsw:swapsWith (.ListComp elt [⟨tg,iter,ifs,0⟩] scope pos) (some (.Name y py)) spos.line X.env=pure true:=by rfl) (hf:X.fn y=true∨X.env.scope.names.lookup y=some .local:=by first | exact .inl rfl | exact .inr rfl)
  (hkd:scope.kind=.function:=by rfl) (hcs:zw6 scope.names X.env.kindOf=true:=by rfl) (hN:N'.length=n+cap.length:=by rfl) (hcap:zac2 N' X.N n scope.names 0 cap=true:=by rfl)
  (hs:∀x,foldedSetIterable iter X.env x=pure x:=by intro _;rfl):PS X (.Assign [.Name y py] (.ListComp elt [⟨tg,iter,ifs,0⟩] scope pos) spos) (dS X.K F (dAsg i (zn4 n cap fs kt ft fe))) :=
 compU (fun h=>zag5 hk h) hc hi hg ht he hNd hi₀ hy hsw hf hkd hcs hN hcap hs
end
end DL
namespace DL
open PySem.Spec L2
section
variable {X:Cx}{F:List Addr}{a b c o:Expr}{es:List Expr}{fa fb fc:DE}{fs:List DE}{ga:DA}{g g1 g2:DS}{ft fu:DT}{pos:Pos}{st:Stmt}{rest:List Stmt}{tg:Expr}{gt:TG}{kt:D→Th→Option Th}
def zk9:Int→List Int→Int
 |m,[]=>m
 |m,n::r=>zk9 (if n<m then n else m) r
def zr8:Int→List Int→Int
 |m,[]=>m
 |m,n::r=>zr8 (if m<n then n else m) r
theorem zt9:∀(r:List Int) (m:Int),zk9 m r∈m::r∧∀a∈m::r,zk9 m r≤a
 |[],m=>⟨by simp [zk9],by simp [zk9]⟩
 |n::r,m=>by
  obtain⟨h1,h2⟩:=zt9 r (if n<m then n else m)
  have h3:=h2 (if n<m then n else m) (zbj7 ..)
  have k1:(if n<m then n else m)≤m:=by split<;>lia
  have k2:(if n<m then n else m)≤n:=by split<;>lia
  refine⟨?_,fun a ha=>?_⟩
  ·show zk9 (if n<m then n else m) r∈m::n::r
   rcases zbj9.mp h1 with z | z
   ·rw [z];split<;>simp
   ·simp [z]
  ·show zk9 (if n<m then n else m) r≤a
   rcases zbj9.mp ha with z | z
   ·subst z;lia
   ·rcases zbj9.mp z with w | w
    ·subst w;lia
    ·exact h2 a (zbj2 _ w)
theorem zae5:∀(r:List Int) (m:Int),zr8 m r∈m::r∧∀a∈m::r,a≤zr8 m r
 |[],m=>⟨by simp [zr8],by simp [zr8]⟩
 |n::r,m=>by
  obtain⟨h1,h2⟩:=zae5 r (if m<n then n else m)
  have h3:=h2 (if m<n then n else m) (zbj7 ..)
  have k1:m≤(if m<n then n else m):=by split<;>lia
  have k2:n≤(if m<n then n else m):=by split<;>lia
  refine⟨?_,fun a ha=>?_⟩
  ·show zr8 (if m<n then n else m) r∈m::n::r
   rcases zbj9.mp h1 with z | z
   ·rw [z];split<;>simp
   ·simp [z]
  ·show a≤zr8 (if m<n then n else m) r
   rcases zbj9.mp ha with z | z
   ·subst z;lia
   ·rcases zbj9.mp z with w | w
    ·subst w;lia
    ·exact h2 a (zbj2 _ w)
theorem zai3 {ys:Array (Int×Tok)}{j:Nat} (hj:j<ys.size):numAt ys j∈ys.toList.map (·.1):=by
 rw [numAt_eq];exact getD_mem (by simpa using hj)
theorem zbh2 (hc:X.calm=true):zm7 X (.builtin "min") (fun xs H Q => ∃(p:Addr) (ns:List Int) (M:Int),xs=[.ref p]∧SqL X.K H p (ns.map V.int)∧M∈ns∧(∀a∈ns,M≤a)∧Q (.int M) H):=by
 intro pins s σ H xs us Q I r h
 obtain⟨p,ns,M,rfl,hs,hm,hle,q⟩:=h
 obtain⟨u,rfl,ru⟩:=zw9 r
 cases ru
 obtain⟨its,rv,pl,_⟩:=I.list hs
 have hi:IntsAre its ns:=zn3 rv
 obtain⟨ys,e⟩:=hi.allInts.items
 have hl:s.heap.IsList p (intItems ys):=by rw [← e];exact PlainL.isL pl
 have hns:ys.toList.map (·.1)=ns:=by
  have e2:numsOf (intItems ys).toList=ns:=by rw [← e];exact hi.numsOf
  rw [← nums_intItems];exact e2
 have hsz:0<ys.size:=by
  have:0<ns.length:=zbs3 hm
  rw [← hns]at this;simpa using this
 refine min_intList (I.ok.hd hc) hl hsz fun v h' tk hv hk=>?_
 obtain⟨t,rfl⟩:=intItems_at hv
 obtain⟨h1,h2⟩:=argBest_lt (numAt ys) (ys.size - 1)
 refine⟨.int M,H,I.kept (t':=tk) hk,⟨t,?_⟩,q⟩
 have a1:=hle _ (hns ▸ zai3 (ys:=ys) (j:=argBest (fun i j=>decide (numAt ys i<numAt ys j)) (ys.size - 1)) (by lia))
 rw [← hns]at hm
 obtain⟨j,hj,ej⟩:=mem_getD hm
 have hj':j<ys.size:=by simpa using hj
 have a2:=h2 j (by lia)
 rw [numAt_eq ys j,ej]at a2
 congr 1
 lia
theorem zbh4 (hc:X.calm=true):zm7 X (.builtin "max") (fun xs H Q => ∃(p:Addr) (ns:List Int) (M:Int),xs=[.ref p]∧SqL X.K H p (ns.map V.int)∧M∈ns∧(∀a∈ns,a≤M)∧Q (.int M) H):=by
 intro pins s σ H xs us Q I r h
 obtain⟨p,ns,M,rfl,hs,hm,hle,q⟩:=h
 obtain⟨u,rfl,ru⟩:=zw9 r
 cases ru
 obtain⟨its,rv,pl,_⟩:=I.list hs
 have hi:IntsAre its ns:=zn3 rv
 obtain⟨ys,e⟩:=hi.allInts.items
 have hl:s.heap.IsList p (intItems ys):=by rw [← e];exact PlainL.isL pl
 have hns:ys.toList.map (·.1)=ns:=by
  have e2:numsOf (intItems ys).toList=ns:=by rw [← e];exact hi.numsOf
  rw [← nums_intItems];exact e2
 have hsz:0<ys.size:=by
  have:0<ns.length:=zbs3 hm
  rw [← hns]at this;simpa using this
 refine max_intList (I.ok.hd hc) hl hsz fun v h' tk hv hk=>?_
 obtain⟨t,rfl⟩:=intItems_at hv
 obtain⟨h1,h2⟩:=argBest_gt (numAt ys) (ys.size - 1)
 refine⟨.int M,H,I.kept (t':=tk) hk,⟨t,?_⟩,q⟩
 have a1:=hle _ (hns ▸ zai3 (ys:=ys) (j:=argBest (fun i j=>decide (numAt ys i > numAt ys j)) (ys.size - 1)) (by lia))
 rw [← hns]at hm
 obtain⟨j,hj,ej⟩:=mem_getD hm
 have hj':j<ys.size:=by simpa using hj
 have a2:=h2 j (by lia)
 rw [numAt_eq ys j,ej]at a2
 congr 1
 lia
end
end DL
namespace DL
open PySem.Spec L2
section
variable {X:Cx}{F:List Addr}{a b c o:Expr}{es:List Expr}{fa fb fc:DE}{fs:List DE}{ga:DA}{g g1 g2:DS}{ft fu:DT}{pos:Pos}{st:Stmt}{rest:List Stmt}{tg:Expr}{gt:TG}{kt:D→Th→Option Th}
noncomputable def zx7 (f:Int→List Int→Int):List Ev→Option Ev:=fun rs=>match rs with
 |[r]=>(match r.d with
  |.lst ds=>(match zp3 ds with
   |some (n::ns)=>some (.cl (.int (f n ns)))
   |_=>none)
  |_=>none)
 |_=>none
theorem zbg9 {id':String}{f:Int→List Int→Int} (h:∀n ns,zm7 X (.builtin id') (fun xs H Q => ∃p:Addr,xs=[.ref p]∧SqL X.K H p ((n::ns).map V.int)∧Q (.int (f n ns)) H)):CallD X F (.builtin id') (zx7 f):=by
 intro pins s σ H0 H A xs us Q rs r I m g v q ek hq
 unfold zx7 at ek
 split at ek
 case h_2=>cases ek
 rename_i r0
 cases q with
 |@cons _ y _ ys q1 q2 =>
  cases q2
  split at ek
  case h_2=>cases ek
  rename_i ds z
  split at ek
  case h_2=>cases ek
  rename_i n ns z2
  cases ek
  have p:=q1.full
  rw [z,zu0 z2]at p
  cases p with
  |@lst _ l ws h1 h2 =>
   rw [zk3 h2]at h1
   exact h n ns pins s σ H _ us Q I v ⟨l,rfl,h1,hq _ H (Same.refl H) (.int _)⟩
theorem cd_minL (hc:X.calm=true):CallD X F (.builtin "min") (zx7 zk9) :=
 zbg9 fun n ns pins s σ H xs us Q I v ⟨p,e,h1,q⟩=>zbh2 hc pins s σ H xs us Q I v ⟨p,n::ns,zk9 n ns,e,h1,(zt9 ns n).1,(zt9 ns n).2,q⟩
theorem cd_maxL (hc:X.calm=true):CallD X F (.builtin "max") (zx7 zr8) :=
 zbg9 fun n ns pins s σ H xs us Q I v ⟨p,e,h1,q⟩=>zbh4 hc pins s σ H xs us Q I v ⟨p,n::ns,zr8 n ns,e,h1,(zae5 ns n).1,(zae5 ns n).2,q⟩
theorem zax0:bootBuiltins "list"=some (.type "list"):=by decide +kernel
theorem vals_get:∀ {xs:List V}{us:List Value},xs.length=us.length→(∀(i:Nat) (x:V) (u:Value),xs[i]?=some x→us[i]?=some u→RelV x u)→Vals xs us
 |[],[],_,_=>.nil
 |[],_::_,h,_=>by simp at h
 |_::_,[],h,_=>by simp at h
 |x::xs,u::us,h,k=>.cons (k 0 x u rfl rfl) (vals_get (by simpa using h) fun i y w e1 e2=>k (i+1) y w (by simpa using e1) (by simpa using e2))
theorem zaw2 {lo k:Int}{n:Nat}{acc:Array Value} (h:ItemsOf (fun i v => ∃t,v=.int (lo+i*k) t) acc n):Vals ((zbl9 n).map fun i=>V.int (lo+(i:Nat)*k)) acc.toList:=by
 refine vals_get (by simp [h.1]) fun i x u e1 e2=>?_
 obtain⟨t,rfl⟩:=h.2 i u (by simpa using e2)
 have hi:i<n:=by
  cases Nat.lt_or_ge i n with
  |inl z=>exact z
  |inr z=>rw [zbo4,zbv2 (by simpa using z)]at e1;cases e1
 rw [zbo4,List.getElem?_range hi]at e1
 simp at e1
 subst e1
 exact⟨t,rfl⟩
theorem zae8 {pins:List (Addr×Obj)}{σ:L2.St}{H:Hp}{s:zbk7}{Q:VK}{lo hi k:Int}{t u v:Tok}{tk:Nat} (hc:X.calm=true) (I:L2.Inv X pins σ H s) (ok:zy9 lo hi k=true) (sz:Builtin.Range.rangeSize lo hi k≤50000)
  (q:∀p,H p=none→Q (.ref p) (upd H p (.lst ((zbl9 (Builtin.Range.rangeSize lo hi k).toNat).map fun i=>V.int (lo+(i:Nat)*k))))) :
  wpAny (model X.prog X.w) X.A (call (.type "list") [.ref s.heap.objs.size]) (EP X pins σ Q) X.xe { s with heap:=s.heap.push { cls:=.type "range",data:=.fields #[.int lo t,.int hi u,.int k v] },toks:=tk }:=by
 simp only [zy9,zbj5,decide_eq_true_eq]at ok
 have I1:L2.Inv X pins σ H { s with heap:=s.heap.push { cls:=.type "range",data:=.fields #[.int lo t,.int hi u,.int k v] },toks:=tk }:=I.kept fun b o e=>zbk0 _ e
 have en:Builtin.Range.rangeSize lo hi k=(((Builtin.Range.rangeSize lo hi k).toNat:Nat):Int):=by lia
 refine call_list_range (I.ok.hd hc) (IsRange.new ..) ok.1 en (by lia) fun h' tk' acc c' hk hS hacc=>?_
 refine⟨.ref _,_,I1.laid (o:=HO.lst ((zbl9 (Builtin.Range.rangeSize lo hi k).toNat).map fun i=>V.int (lo+(i:Nat)*k))) (t':=tk') hk (zbl1 _) ⟨?_,acc.toList,c',zaw2 hacc,by simpa using hS⟩,rfl,q _ I1.fresh⟩
 refine le_line ?_
 rw [zbl5,List.length_range];lia
noncomputable def rArgs:List D→Option (Int×Int×Int)
 |[.int n]=>some (0,n,1)
 |[.int i,.int j]=>some (i,j,1)
 |[.int i,.int j,.int k]=>some (i,j,k)
 |_=>none
noncomputable def zg4 (g:DA):DE:=fun t=>(g t).bind fun rs=>(rArgs (rs.map Ev.d)).bind fun q=>if zy9 q.1 q.2.1 q.2.2&&decide (Builtin.Range.rangeSize q.1 q.2.1 q.2.2≤50000) then some (.nw (rng3 q.1 q.2.1 q.2.2)) else none
theorem zj1 {p0 p1 p2:Pos} (hc:X.calm=true) (hgl:Gl X "list") (hml:X.mg "list"=none) (hgr:Gl X "range") (hmr:X.mg "range"=none) (ha:PA X (a::es) (dA X.K F ga))
  (hst:zbl2 [.Call (.Name "range" p1) (a::es) [] p2] X.env=[(false,eval (.Call (.Name "range" p1) (a::es) [] p2) X.env)]:=by rfl)
  (hst1:zbl2 (a::es) X.env=(false,eval a X.env)::zbl2 es X.env:=by rfl) (hst2:(zbs5 p2 (zbl2 es X.env)).any (·.1)=false:=by rfl) :
  PE X (.Call (.Name "list" p0) [.Call (.Name "range" p1) (a::es) [] p2] [] pos) (dE X.K F (zg4 ga)):=by
 intro pins s σ H Q I h
 obtain⟨A,t,r,R,e,h⟩:=h
 unfold zg4 at e
 cases e1:ga t with
 |none=>rw [e1]at e;cases e
 |some rs =>
  rw [e1]at e
  simp only [zbj3]at e
  cases e2:rArgs (rs.map Ev.d) with
  |none=>rw [e2]at e;cases e
  |some q =>
   rw [e2]at e
   simp only [zbj3]at e
   split at e
   case isFalse=>cases e
   rename_i ok
   simp only [zbj5,decide_eq_true_eq]at ok
   cases e
   have mk:∀(H1:Hp),Same H H1→∀p,H1 p=none→Q (.ref p) (upd H1 p (.lst ((zbl9 (Builtin.Range.rangeSize q.1 q.2.1 q.2.2).toNat).map fun i=>V.int (q.1+(i:Nat)*q.2.2)))):=fun H1 g1 p hp=>by
    refine h _ _ (g1.trans (zd4 hp)) ⟨p,_,rfl,Same.free g1 hp,zc1,?_⟩
    have e3:rng3 q.1 q.2.1 q.2.2=((zbl9 (Builtin.Range.rangeSize q.1 q.2.1 q.2.2).toNat).map fun i=>q.1+(i:Nat)*q.2.2).map D.int:=by simp [rng3]
    have e4:((zbl9 (Builtin.Range.rangeSize q.1 q.2.1 q.2.2).toNat).map fun i=>V.int (q.1+(i:Nat)*q.2.2))=((zbl9 (Builtin.Range.rangeSize q.1 q.2.1 q.2.2).toNat).map fun i=>q.1+(i:Nat)*q.2.2).map V.int:=by simp
    rw [e3,e4]
    exact Reps.ints _
   refine wpAny_Call_Name_kw (zp1 I hgl hml zax0 (PyProof.Rows.callWith_type1 ?_ (by rw [hst];rfl) rfl))
   rw [hst]
   show wpAny _ _ (spliced ((false,eval (.Call (.Name "range" p1) (a::es) [] p2) X.env)::zbs5 pos (zbl2 [] X.env))) _ _ s
   refine Calls.spliced_cons (Call_ (zp1 I hgr hmr boot_range (PyProof.Rows.callWith_type1 (thn (ha p2 pins s σ H (fun vs H1=>Same H H1∧RepEvs X.K F A H H1 rs vs) I ⟨A,t,rs,R,e1,fun vs H1 g1 q1=>⟨g1,q1⟩⟩) fun us s1 ⟨vs,H1,I1,r1,g1,q1⟩=>?_) hst1 hst2)))
   have full:=q1.full
   obtain⟨q0,qh,qk⟩:=q
   unfold rArgs at e2
   split at e2
   ·rename_i n z
    cases e2
    rw [z]at full
    have ev:=zk3 (ns:=[qh]) full
    subst ev
    obtain⟨u,rfl,ru⟩:=r1.one
    obtain⟨t1,rfl⟩:=ru
    exact call_range_1 (Calls.spliced_nil (zae8 hc I1 ok.1 ok.2 (mk H1 g1)))
   ·rename_i i j z
    cases e2
    rw [z]at full
    have ev:=zk3 (ns:=[q0,qh]) full
    subst ev
    obtain⟨u,w,rfl,ru,rw'⟩:=r1.two
    obtain⟨t1,rfl⟩:=ru
    obtain⟨t2,rfl⟩:=rw'
    exact call_range_2 (Calls.spliced_nil (zae8 hc I1 ok.1 ok.2 (mk H1 g1)))
   ·rename_i i j k z
    cases e2
    rw [z]at full
    have ev:=zk3 (ns:=[q0,qh,qk]) full
    subst ev
    cases r1 with
    |cons r rr =>
     cases rr with
     |cons r' rr =>
      cases rr with
      |cons r'' rr =>
       cases rr
       obtain⟨t1,rfl⟩:=r
       obtain⟨t2,rfl⟩:=r'
       obtain⟨t3,rfl⟩:=r''
       have ok':=ok.1
       simp only [zy9,zbj5,decide_eq_true_eq]at ok'
       have lg:qk.natAbs.log2<9000:=zbk1 (zbc1 (k:=20) (by have:=ok'.2.2.1;lia)) (by decide)
       exact call_range_3 ok'.2.1 (Calls.spliced_nil (zae8 hc I1 ok.1 ok.2 (mk H1 g1))) (.inl (PyProof.noPylong_of_log2 lg))
   ·cases e2
end
end DL
namespace DL
open PySem.Spec L2
def frzD:Sl→Sl
 |.own xs=>.val (.lst xs)
 |.dp d=>.val d
 |s=>s
def frzT (t:Th) (i:Nat):Th:=match t[i]? with
 |some s=>t.set i (frzD s)
 |none=>t
theorem zu1 (s:Sl) (t:Th) (i:Nat):frzT (s::t) (i+1)=s::frzT t i:=by
 unfold frzT
 simp only [zbu1]
 cases t[i]?<;>simp
theorem RSl.give {K:zbj0}{H0 H:Hp}:∀ {t:Th}{σ:L2.St}{A:List Addr} (i:Nat),RSl K H0 H t σ A→A.Nodup→∃(B A':List Addr),A'.Sublist A∧(∀b∈B,b∈A∧b∉A')∧∀H1,Same H0 H1→(∀b∈B,∀o,H b=some o→H1 b=some o)→RSl K H1 H (frzT t i) σ A'
 |_,_,_,i,.nil,_=>⟨[],[],List.Sublist.refl _,fun b hb=>(by cases hb),fun H1 e _=>by simpa [frzT] using RSl.nil⟩
 |_,_,A,0,.no r,n=>⟨[],A,List.Sublist.refl _,fun b hb=>(by cases hb),fun H1 e _=>.no (RSl.mono e r fun _ _ _ h=>h)⟩
 |_,_,A,0,.val h r,n=>⟨[],A,List.Sublist.refl _,fun b hb=>(by cases hb),fun H1 e _=>.val (Rep.mono e h) (RSl.mono e r fun _ _ _ h=>h)⟩
 |_,_,_,0,.own (p:=p) (A:=A) h1 h2 r,n=>by
  have n0:=zbl6.mp n
  refine⟨[p],A,zby2 _ _,fun b hb=>?_,fun H1 e k=>?_⟩
  ·simp at hb;subst hb;exact⟨zbj7 ..,n0.1⟩
  ·exact .val (.lst (SqL.of (k p (by simp) _ h1)) (Reps.mono e h2)) (RSl.mono e r fun _ _ _ h=>h)
 |_,_,_,0,.dp (B:=B) (A:=A) h r,n=>by
  have n0:=zbl0.mp n
  refine⟨B,A,zbw5 _ _,fun b hb=>⟨zbj1 _ hb,fun z=>n0.2.2 b hb b z rfl⟩,fun H1 e k=>?_⟩
  exact .val (h.rep e k) (RSl.mono e r fun _ _ _ h=>h)
 |_,_,_,i+1,.no r,n=>by
  obtain⟨B,A',a1,a2,a3⟩:=RSl.give i r n
  refine⟨B,A',a1,a2,fun H1 e k=>?_⟩
  rw [zu1];exact .no (a3 H1 e k)
 |_,_,_,i+1,.val h r,n=>by
  obtain⟨B,A',a1,a2,a3⟩:=RSl.give i r n
  refine⟨B,A',a1,a2,fun H1 e k=>?_⟩
  rw [zu1];exact .val (Rep.mono e h) (a3 H1 e k)
 |_,_,_,i+1,.own (p:=p) h1 h2 r,n=>by
  have n0:=zbl6.mp n
  obtain⟨B,A',a1,a2,a3⟩:=RSl.give i r n0.2
  refine⟨B,p::A',a1.cons₂ _,fun b hb=>⟨zbj2 _ (a2 b hb).1,fun z=>?_⟩,fun H1 e k=>?_⟩
  ·rcases zbj9.mp z with w | w
   ·exact n0.1 (w ▸ (a2 b hb).1)
   ·exact (a2 b hb).2 w
  ·rw [zu1];exact .own h1 (Reps.mono e h2) (a3 H1 e k)
 |_,_,_,i+1,.dp (B:=C) h r,n=>by
  have n0:=zbl0.mp n
  obtain⟨B,A',a1,a2,a3⟩:=RSl.give i r n0.2.1
  refine⟨B,C++A',List.Sublist.append (List.Sublist.refl _) a1,fun b hb=>⟨zbi9 _ (a2 b hb).1,fun z=>?_⟩,fun H1 e k=>?_⟩
  ·rcases zbj4.mp z with w | w
   ·exact n0.2.2 b w b (a2 b hb).1 rfl
   ·exact (a2 b hb).2 w
  ·rw [zu1];exact .dp (RepD.mono e h fun _ _ _ w=>w) (a3 H1 e k)
theorem RS.give {K:zbj0}{F A:List Addr}{H:Hp}{t:Th}{σ:L2.St} (R:RS K F H A t σ) (i:Nat):∃A',RS K F H A' (frzT t i) σ∧Gr A H A' H:=by
 obtain⟨B,A',a1,a2,a3⟩:=R.rel.give i R.nd
 have sub:∀x∈A',x∈A:=fun x hx=>a1.subset hx
 refine⟨A',⟨fun q hq=>R.mu q ((zbj4.mp hq).elim (fun z=>zbj1 _ (sub q z)) fun z=>zbi9 _ z),R.nd.sublist a1,fun p hp=>R.dj p (sub p hp),a3 _ (zb3 H fun a z=>(zbj4.mp z).elim (fun z=>zbj1 _ (sub a z)) fun z=>zbi9 _ z) fun b hb o h=>zd0 h fun z=>?_⟩,⟨fun _ _ _ h=>h,fun b hb=>?_,fun b hb=>.inl (sub b hb)⟩⟩
 ·rcases zbj4.mp z with w | w
  ·exact (a2 b hb).2 w
  ·exact R.dj b (a2 b hb).1 w
 ·obtain⟨vs,q⟩:=R.mu b (zbj1 _ hb)
  rw [q];simp
def dFrz (i:Nat) (g:DS):DS:=fun t=>g (frzT t i)
theorem dS_frz {K:zbj0}{F:List Addr}{g:DS}{i:Nat}{E:Ends}{σ:L2.St}{H:Hp} (h:dS K F (dFrz i g) E σ H):dS K F g E σ H:=by
 obtain⟨A,t,o,R,e,p⟩:=zap2 h
 obtain⟨A',R',gr⟩:=R.give i
 exact zbf4 R' e (p.back gr)
theorem zz1 {X:Cx}{F:List Addr}{g:DS}{st:Stmt} (i:Nat) (h:PS X st (dS X.K F g)):PS X st (dS X.K F (dFrz i g)):=PS.imp h fun _ _ _ q=>dS_frz q
section
variable {X:Cx}{F:List Addr}{a b c o:Expr}{es:List Expr}{fa fb fc:DE}{ga:DA}{pos:Pos}
theorem Reps.rev {K:zbj0}{H:Hp}:∀ {ds:List D}{vs:List V},Reps K H ds vs→Reps K H ds.reverse vs.reverse
 |_,_,.nil=>.nil
 |_,_,.cons h r=>by rw [zbv0,zbv0];exact (Reps.rev r).app (Reps.one h)
end
end DL
namespace DL
open PySem.Spec L2
section
variable {X:Cx}{F:List Addr}{a b c o:Expr}{es:List Expr}{fa fb fc:DE}{ga:DA}{pos:Pos}
def dChV (k k':Ev→Ev→Option Ev) (fa fb fc:DE):DE:=fun t=>(dCh k k' fa fb fc t).map fun z=>.cl (.bl z)
theorem zba1 {op op':CmpOp}{k k':Ev→Ev→Option Ev} (ho:OpD X F (compareOp op) k) (ho':OpD X F (compareOp op') k') (ha:PE X a (dE X.K F fa)) (hb:PE X b (dE X.K F fb)) (hc:PE X c (dE X.K F fc))
  (hm:lastMarks [op,op'] [b,c]=false:=by with_unfolding_all rfl):PE X (.Compare a [op,op'] [b,c] pos) (dE X.K F (dChV k k' fa fb fc)):=by
 intro pins s σ H Q I h
 obtain⟨A,t,rr,R,e,h⟩:=h
 refine pe_chain (ho.toR A H) (ho'.toR A H) ha hb hc hm pins s σ H Q I ?_
 unfold dChV dCh at e
 cases e1:fa t with
 |none=>rw [e1]at e;cases e
 |some r1 =>
  cases e2:fb t with
  |none=>rw [e1,e2]at e;cases e
  |some r2 =>
   cases e3:k r1 r2 with
   |none=>rw [e1,e2]at e;simp only [zbj3,e3]at e;cases e
   |some r =>
    rw [e1,e2]at e
    simp only [zbj3,e3]at e
    refine⟨A,t,r1,R,e1,fun x H1 gs1 q1=>⟨A,t,r2,R.grow gs1,e2,fun y H2 gs2 q2=>?_⟩⟩
    have gs:=gs1.trans gs2
    refine⟨R.mu,gs,r1,r2,r,q1.mono gs2,q2.back gs1,e3,fun z H3 gs3 q3=>?_⟩
    have p:=q3.full
    split at e
    ·rename_i zz
     rw [zz]at p
     cases p
     refine⟨true,rfl,iteT ?_⟩
     cases e4:fc t with
     |none=>rw [e4]at e;cases e
     |some r3 =>
      rw [e4]at e
      simp only [zbj3]at e
      cases e5:k' r2 r3 with
      |none=>rw [e5]at e;cases e
      |some r' =>
       rw [e5]at e
       simp only [zbj3]at e
       refine⟨A,t,r3,(R.grow gs).grow gs3,e4,fun w H4 gs4 q4=>⟨R.mu,(gs.trans gs3).trans gs4,r2,r3,r',(q2.back gs1).mono (gs3.trans gs4),q4.back (gs.trans gs3),e5,fun z2 H5 gs5 q5=>?_⟩⟩
       have p5:=q5.full
       split at e
       ·rename_i z3 zz3
        cases e
        rw [zz3]at p5
        cases p5
        exact h _ H5 (((gs.trans gs3).trans gs4).trans gs5) (.bl _)
       ·cases e
    ·rename_i zz
     rw [zz]at p
     cases p
     cases e
     exact⟨false,rfl,iteF (h _ H3 (gs.trans gs3) (.bl _))⟩
    ·cases e
noncomputable def rIdx (K:zbj0):V→List V→Hp→VK→Prop:=fun x vs H Q => ∃(l:Addr) (ns:List Int) (n:Int),x=.ref l∧vs=[.int n]∧SqL K H l (ns.map V.int)∧n∈ns∧ns.length≤100000∧Q (.int (ns.idxOf n:Nat)) H
theorem mt_index:MtR X "list.index" (rIdx X.K):=by
 intro pins s σ H x xs v us Q I rx rs h
 obtain⟨l,ns,n,rfl,rfl,hs,hn,hz,q⟩:=h
 cases rx
 obtain⟨u,rfl,ru⟩:=Vals.one rs
 obtain⟨t,rfl⟩:=ru
 obtain⟨its,rv,pl,_⟩:=I.list hs
 have hi:IntsAre its ns:=zn3 rv
 have hlen:=hi.length
 obtain⟨⟨cls,dd,data,sl⟩,ho,hc,m,hd⟩:=id (PlainL.isL pl)
 simp only at hc hd
 subst hc hd
 have hj:ns.idxOf n<ns.length:=List.idxOf_lt_length_iff.mpr hn
 refine call_meets zbx8 ⟨_,ho,rfl⟩ PySem.F.entry_list_index (PySem.F.args_list_index_2 _ _) (SeqAt.list_indexAt l its.toArray m dd sl (.int n t) (isInt n) (ns.idxOf n) (by simpa [hlen] using hj) (by lia) ?_ ?_)
  ⟨ho,fun y hy=>(eq_isInt n t hi y (by simpa using hy)).at _ _,⟨.int _,H,I.tok _,⟨_,rfl⟩,q⟩⟩
 ·show isInt n its[ns.idxOf n]=true
  rw [isInt_at n hi _ (by lia) hj]
  simpa using zca5 hj
 ·intro j hjs hlt
  show isInt n its[j]=false
  rw [isInt_at n hi j (by simpa using hjs) (by lia)]
  exact ne_of_lt_idxOf hlt _
noncomputable def kIdx:Ev→Ev→Option Ev:=fun r1 r2=>match r1.d,r2.d with
 |.lst ds,.int n=>(zp3 ds).bind fun ns=>if ns.contains n&&decide (ns.length≤100000) then some (.cl (.int (ns.idxOf n:Nat))) else none
 |_,_=>none
theorem zaz8 {apos cpos:Pos} (ha:PE X a (dE X.K F fa)) (hb:PE X b (dE X.K F fb)) (hst:zbl2 [b] X.env=[(false,eval b X.env)]:=by rfl)
  (hbase:attributeBase a "index" X.env (eval a X.env)=eval a X.env:=by rfl)
  (hfew:((zbs5 cpos (zbl2 [b] X.env)).all (fun x=>!x.1)&&(backToKw cpos (keywordEach [] X.env)).all (fun x=>x.1.isSome)
   && decide ([b].length+([]:List Keyword).length+(if ([]:List Keyword).isEmpty then 0 else 1)<30))=true:=by rfl)
  (hline:(apos.endLine == cpos.line)=true:=by rfl) (hplain:(zbs5 cpos (zbl2 [] X.env)).any (·.1)=false:=by rfl):PE X (.Call (.Attribute a "index" apos) [b] [] cpos) (dE X.K F (d2 kIdx fa fb)):=by
 refine PE.imp (pe_bm zbx7 zbx8 PySem.F.type_list_index mt_index ha (zj2 hb zp0 hst) hbase hfew hline hst hplain) ?_
 intro σ H Q h
 obtain⟨A,t,r1,r2,r,R,e1,e2,e,h,w⟩:=two h
 unfold kIdx at e
 split at e
 case h_2=>cases e
 rename_i ds n z1 z2
 cases e3:zp3 ds with
 |none=>rw [e3]at e;cases e
 |some ns =>
  rw [e3]at e
  simp only [zbj3]at e
  split at e
  case isFalse=>cases e
  rename_i ok
  simp only [zbj5,decide_eq_true_eq,List.contains_iff_mem]at ok
  cases e
  refine⟨A,t,r1,R,e1,fun u H1 gs q=>?_⟩
  have p:=q.full
  rw [z1,zu0 e3]at p
  cases p with
  |@lst _ l vs h1 h2 =>
   rw [zk3 h2]at h1
   refine⟨.inl ⟨rfl,_,h1⟩,A,t,r2,R.grow gs,e2,fun u2 H2 gs2 q2=>?_⟩
   have p2:=q2.full
   rw [z2]at p2
   cases zf9 p2
   exact⟨l,ns,n,rfl,rfl,SqL.mono gs2 h1,ok.1,ok.2,h _ H2 (gs.trans gs2) (.int _)⟩
end
end DL
namespace L2
open PySem.W
def bndS:Nat:=2 ^ 1048576
theorem zac5:∀ {ns:List Int}{n:Int},n∈ns→WData.weight (.int n)≤WData.weightAll (ns.map WData.int)
 |m::r,n,h=>by
  rw [zbk4]
  unfold WData.weightAll
  rcases zbj9.mp h with rfl | z
  ·lia
  ·have:=zac5 z;lia
theorem bnd_of {ns:List Int} (h:WData.layableAll [WData.list (ns.map WData.int)]=true):∀n∈ns,n.natAbs<bndS:=fun n hn=>by
 have h1:WData.layable (WData.list (ns.map WData.int))=true:=by simpa [WData.layableAll] using h
 have h2:WData.weight (WData.list (ns.map WData.int))≤2 ^ 20:=by
  unfold WData.layable at h1
  simp only [zbj5,decide_eq_true_eq]at h1
  exact h1.2
 have h3:WData.weight (.int n)≤2 ^ 20:=by
  refine zbk3 (zac5 hn) ?_
  have e:WData.weight (WData.list (ns.map WData.int))=WData.weightAll (ns.map WData.int):=by simp [WData.weight]
  rw [← e];exact h2
 by_cases z:n=0
 ·subst z;unfold bndS;exact zcf1 (by decide)
 ·have h4:n.natAbs.log2+1≤2 ^ 20:=by
   have:WData.weight (.int n)=n.natAbs.log2+1:=by simp [WData.weight,z]
   rw [← this];exact h3
  have h5:n.natAbs.log2<1048576:=by lia
  exact (Nat.log2_lt (by lia)).mp h5
end L2
namespace DL
open PySem.Spec L2
noncomputable def spM (K:zbj0) (G:List D→Option Ev):Sp:=fun vs H Q _ => ∃(Fo:List Addr) (p:Addr) (ws vs':List V) (xs ds:List D) (d:D),vs=.ref p::vs'∧Lists H (p::Fo)∧p∉Fo∧H p=some (.lst ws)∧Reps K (hide (p::Fo) H) xs ws∧Reps K (hide (p::Fo) H) ds vs'∧G (.lst xs::ds)=some (.cl d)∧scD d=true ∧
 ∀v H',(∀b o,b≠p→H b=some o→H' b=some o)→H' p≠none→(∀Hx,Rep K Hx d v)→Q v H'
structure CalM (P:Program) (w:World) (K:zbj0) (mg:Str→Option Value) (base:BHeap) (x:Str) (k:Nat) (G:List D→Option Ev):Prop where
 ex:∃(a:Addr) (fd:FuncData) (ps:List Str),mg x=some (.ref a)∧zbo8 K (.ref a)=true∧L2.Binds K fd ps []∧FnOk P w K mg base CX0 k a fd ps (spM K G)
section
variable {X:Cx}{F:List Addr}{a b c o:Expr}{es:List Expr}{fa fb fc:DE}{ga:DA}{pos pos2:Pos}
def ddp (ns:List Int):List Int:=ns.foldl step_dedup []
theorem zaj5 (ns:List Int):firstMet (fun i=>ns.getD i 0) ns.length=ddp ns:=by
 unfold firstMet ddp
 congr 1
 apply zby3
 ·simp
 ·intro i h1 h2
  simp [zbk5,h2]
theorem zbh1 (hc:X.calm=true):zm7 X (.type "set") (fun xs H Q => ∃(p:Addr) (ns:List Int),xs=[.ref p]∧SqL X.K H p (ns.map V.int)∧ns.length≤3000∧∀l,H l=none→Q (.ref l) (upd H l (.set (fun k=>(ddp ns).any (· == k)) (ddp ns).length))):=by
 intro pins s σ H xs us Q I r h
 obtain⟨p,ns,rfl,hs,hz,q⟩:=h
 obtain⟨u,rfl,ru⟩:=zw9 r
 cases ru
 obtain⟨its,rv,pl,_⟩:=I.list hs
 have hi:IntsAre its ns:=zn3 rv
 have hl:=hi.length
 refine call_set_list (ns:=ns) (I.ok.hd hc) (PlainL.isL pl) (by simpa using hi) (by rw [zbl4];unfold scanBound;lia) fun h' tk hS hk=>?_
 have e0:its.toArray.size=ns.length:=by rw [zbl4];exact hl
 rw [e0,zaj5]at hS
 refine⟨.ref _,_,I.laid (o:=HO.set (fun k=>(ddp ns).any (· == k)) (ddp ns).length) (t':=tk) (fun b u e=>hk b u (zbk8 e) e) (zbl1 _) hS,rfl,q _ (I.hok.fresh (zbl1 _))⟩
theorem zbh6:zm7 X (.builtin "len") (fun xs H Q => ∃(p:Addr) (S:Int→Bool) (n:Nat),xs=[.ref p]∧H p=some (.set S n)∧n≤100000∧Q (.int n) H):=by
 intro pins s σ H xs us Q I r h
 obtain⟨p,S,n,rfl,hH,hn,q⟩:=h
 obtain⟨u,rfl,ru⟩:=zw9 r
 cases ru
 have hS:s.heap.SetOf (intKind X.prog X.w) p S n:=I.hok _ _ hH
 obtain⟨ob,ho,ex,el,ep,tb,hd,_,_,en,hf⟩:=hS.objOf
 subst en
 have hfit:(el.size:Int)<2 ^ 63:=zca6 (show (el.size:Int)≤100000 by lia) (by decide)
 exact call_len_set ho ex hd hf hfit ⟨.int el.size,H,I.tok _,⟨_,rfl⟩,q⟩
noncomputable def zv7:List Ev→Option Ev:=fun rs=>match rs with
 |[r]=>(match r.d with
  |.lst ds=>(zp3 ds).bind fun ns=>if ns.length≤3000 then some (.cl (.int (ddp ns).length)) else none
  |_=>none)
 |_=>none
theorem ddp_le (ns:List Int):(ddp ns).length≤ns.length:=by
 rw [← zaj5]
 exact firstMet_length_le _ _
theorem bt_set:bootBuiltins "set"=some (.type "set"):=by decide +kernel
theorem zau8 {p1 p2:Pos} (hc:X.calm=true) (hg1:Gl X "len") (hm1:X.mg "len"=none) (hg2:Gl X "set") (hm2:X.mg "set"=none) (ha:PE X a (dE X.K F fa)) (hst:zbl2 [a] X.env=[(false,eval a X.env)]:=by rfl) (hst2:zbl2 [.Call (.Name "set" p2) [a] [] pos2] X.env=[(false,eval (.Call (.Name "set" p2) [a] [] pos2) X.env)]:=by rfl)
  (hpl:(zbs5 pos2 (zbl2 [] X.env)).any (·.1)=false:=by rfl) (hpl2:(zbs5 pos (zbl2 [] X.env)).any (·.1)=false:=by rfl) :
  PE X (.Call (.Name "len" p1) [.Call (.Name "set" p2) [a] [] pos2] [] pos) (dE X.K F (dT1 zv7 (za2 fa dNil))):=by
 refine PE.imp (zar7 zbh6 hg1 hm1 PySem.boot_len (zj2 (zba4 (zbh1 hc) hg2 hm2 bt_set (zj2 ha zp0 hst) (by decide) (by decide) hst hpl) zp0 hst2) (by decide) (by decide) hst2 hpl2) ?_
 rintro σ H Q ⟨A,t,r,R,e,h⟩
 unfold dT1 za2 dNil at e
 cases e1:fa t with
 |none=>rw [e1]at e;cases e
 |some r1 =>
  rw [e1]at e
  simp only [zbj3]at e
  unfold zv7 at e
  simp only at e
  split at e
  case h_2=>cases e
  rename_i ds z
  cases e2:zp3 ds with
  |none=>rw [e2]at e;cases e
  |some ns =>
   rw [e2]at e
   simp only [zbj3]at e
   split at e
   case isFalse=>cases e
   rename_i hz
   cases e
   refine⟨A,t,r1,R,e1,fun x H1 gs q=>?_⟩
   have p:=q.full
   rw [z,zu0 e2]at p
   cases p with
   |@lst _ l ws h1 h2 =>
    rw [zk3 h2]at h1
    refine⟨l,ns,rfl,h1,hz,fun l2 hl2=>?_⟩
    have:=ddp_le ns
    exact⟨l2,_,_,rfl,zc1,by lia,h _ _ (gs.trans (zd4 hl2)) (.int _)⟩
end
end DL
namespace DL
open PySem.Spec L2
def sV:D→V
 |.bl b=>.bl b
 |.int i=>.int i
 |.str x=>.str x
 |_=>.non
def keyD:D→Option Key
 |.int i=>some (Sum.inl i)
 |.str x=>some (Sum.inr x)
 |_=>none
theorem zar1 {K:zbj0}{H:Hp}{d:D}{v:V} (r:Rep K H d v) (s:scD d=true):v=sV d:=by
 cases r with
 |non=>rfl
 |bl b=>rfl
 |int i=>rfl
 |str x=>rfl
 |tup _ _=>cases s
 |lst _ _=>cases s
 |dct _ _ _=>cases s
 |pdc _=>cases s
theorem sc_rep {K:zbj0}{H:Hp}:∀ {d:D},scD d=true→Rep K H d (sV d)
 |.non,_=>.non
 |.bl b,_=>.bl b
 |.int i,_=>.int i
 |.str x,_=>.str x
 |.tup _,s=>by cases s
 |.lst _,s=>by cases s
 |.dct _ _,s=>by cases s
 |.pdc _,s=>by cases s
theorem sc_flatD:∀ {d:D},scD d=true→flat d=true
 |.non,_=>rfl
 |.bl b,_=>rfl
 |.int i,_=>rfl
 |.str x,_=>rfl
 |.tup _,s=>by cases s
 |.lst _,s=>by cases s
 |.dct _ _,s=>by cases s
 |.pdc _,s=>by cases s
theorem zar0 {K:zbj0}{H0 H:Hp}:∀ {ds:List D}{vs:List V}{B:List Addr},RepDs K H0 H ds vs B→ds.all scD=true→vs=ds.map sV∧B=[]
 |_,_,_,.nil,_=>⟨rfl,rfl⟩
 |_,_,_,.cons h r,s=>by
  simp only [zbn4,zbj5]at s
  obtain⟨a,b⟩:=zar0 r s.2
  subst a b
  cases h with
  |flat f q=>rw [zar1 q s.1];exact⟨rfl,rfl⟩
  |tup _ _=>exact absurd s.1 (by simp [scD])
  |lst _ _=>exact absurd s.1 (by simp [scD])
  |dct _ _ _=>exact absurd s.1 (by simp [scD])
  |pdc _=>exact absurd s.1 (by simp [scD])
theorem zad8 {K:zbj0}{H0 H:Hp}:∀ {ds:List D},ds.all scD=true→RepDs K H0 H ds (ds.map sV) []
 |[],_=>.nil
 |d::ds,s=>by
  simp only [zbn4,zbj5]at s
  exact .cons (B:=[]) (C:=[]) (.flat (sc_flatD s.1) (sc_rep s.1)) (zad8 s.2)
theorem RS.placeD {K:zbj0}{F A:List Addr}{H:Hp}{t:Th}{σ:L2.St}{i:Nat}{ks:List Key}{ds:List D} (R:RS K F H A t σ) (e:t[i]?=some (.dp (.dct ks ds))) (sc:ds.all scD=true) :
  ∃p,σ[i]?=some (some (.ref p))∧p∈A∧ks.length=ds.length∧H p=some (.dK (mkKV ks (ds.map sV))) ∧
   ∀H1 ks2 ds2,Same H H1→ks2.length=ds2.length→ds2.all scD=true →
    ∃A2,RS K F (L2.upd H1 p (.dK (mkKV ks2 (ds2.map sV)))) A2 (t.set i (.dp (.dct ks2 ds2))) σ∧Gr A H A2 (L2.upd H1 p (.dK (mkKV ks2 (ds2.map sV)))):=by
 obtain⟨v,B,a1,a2,a3,a4,a5⟩:=R.rel.focusDp R.nd e
 cases a4 with
 |flat f _=>simp [flat]at f
 |@dct _ _ p vs B' l h r =>
  obtain⟨rfl,rfl⟩:=zar0 r sc
  have pA:p∈A:=a2 p (by simp)
  refine⟨p,a1,pA,by simpa using l,h,fun H1 ks2 ds2 gs l2 sc2=>?_⟩
  have hh:Same (hide (A++F) H) (hide (A++F) (L2.upd H1 p (.dK (mkKV ks2 (ds2.map sV))))):=fun b o q=>by
   obtain⟨n,q⟩:=zl8 q
   have nb:b≠p:=fun z=>n (zbj1 _ (z ▸ pA))
   exact zd0 (by rw [zc9 nb];exact gs _ _ q) n
  obtain⟨A2,d1,d3⟩:=a5 _ _ (.dct ks2 ds2) [p] hh (.dct (by simpa using l2) zc1 (zad8 sc2)) (List.Sublist.refl _) (fun q hq nq o w=>by rw [zc9 (by simpa using nq)];exact gs _ _ w)
  have sub:∀x∈A2,x∈A:=fun x hx=>d3.subset hx
  have mu:Lists (L2.upd H1 p (.dK (mkKV ks2 (ds2.map sV)))) (A++F):=fun q hq=>by
   by_cases z:q=p
   ·exact⟨mD _,by rw [z];exact zc1⟩
   ·obtain⟨us,w⟩:=R.mu q hq
    exact⟨us,by rw [zc9 z];exact gs _ _ w⟩
  refine⟨A2,⟨fun q hq=>mu q ?_,R.nd.sublist d3,fun q hq=>R.dj q (sub q hq),RSl.mono (zb3 _ fun a z=>?_) d1 fun _ _ _ h=>h⟩,fun b o n h=>?_,fun b hb=>?_,fun b hb=>.inl (sub b hb)⟩
  ·exact (zbj4.mp hq).elim (fun z=>zbj1 _ (sub q z)) (fun z=>zbi9 _ z)
  ·exact (zbj4.mp z).elim (fun z=>zbj1 _ (sub a z)) (fun z=>zbi9 _ z)
  ·rw [zc9 (fun z=>n (by rw [z];exact pA))];exact gs _ _ h
  ·obtain⟨us,w⟩:=mu b (zbj1 _ hb)
   rw [w];simp
def zaj3:List Key→List D→Key→Option D
 |k'::ks,d::ds,k=>if k'=k then some d else zaj3 ks ds k
 |_,_,_=>none
def hasK (ks:List Key) (k:Key):Bool:=ks.any fun k'=>decide (k'=k)
noncomputable def zi7 (ks:List Key) (ds:List D) (k:Key) (d:D):List Key×List D :=
 if hasK ks k then (ks,zbx3 (fun k' d'=>if k'=k then d else d') ks ds) else (ks++[k],ds++[d])
theorem zae9 (k:Key):∀ {ks:List Key}{vs:List V},ks.length=vs.length→(valV (mkKV ks vs) k).isSome=hasK ks k
 |[],[],_=>rfl
 |k'::ks,d::ds,h=>by
  have i:=zae9 k (ks:=ks) (vs:=ds) (by simpa using h)
  unfold mkKV hasK at i ⊢
  simp only [zbq0,zbq6]
  by_cases e:k'=k
  ·rw [zs3 (p:=(k',d)) e,decide_eq_true e];rfl
  ·rw [zs4 (p:=(k',d)) e,decide_eq_false e,i];rfl
 |[],_::_,h=>by simp at h
 |_::_,[],h=>by simp at h
section
variable {X:Cx}{F:List Addr}{a b c o:Expr}{es:List Expr}{fa fb fc:DE}{ga:DA}{pos:Pos}
def zap3:DE:=fun _=>some (.dn (.dct [] []))
theorem zae3:PE X (.Dict [] [] pos) (dE X.K F zap3):=by
 refine PE.imp pe_dnewK ?_
 rintro σ H Q ⟨A,t,r,R,e,h⟩
 cases e
 intro p hp
 refine h _ _ (zd4 hp) ⟨[p],by simp,fun b hb=>by simp at hb;subst hb;exact hp,.dct (vs:=[]) rfl zc1 .nil⟩
noncomputable def kInD (neg:Bool):Ev→Ev→Option Ev:=fun r1 r2=>match r2.d with
 |.dct ks ds=>(keyD r1.d).map fun k=>.cl (.bl (if neg then !hasK ks k else hasK ks k))
 |_=>none
theorem zv6 {K:zbj0}{H:Hp}{d:D}{v:V}{k:Key} (r:Rep K H d v) (e:keyD d=some k):v=kV k:=by
 cases r<;>cases e<;>rfl
theorem zan7 (hu:X.A.units+64<cLine):OpD X F (compareOp .NotIn) (kInD true):=by
 intro pins s σ H0 H A x y v u Q r1 r2 r I m g0 rx ry q1 q2 e hq
 unfold kInD at e
 split at e
 case h_2=>cases e
 rename_i ks ds z
 cases ek:keyD r1.d with
 |none=>rw [ek]at e;cases e
 |some k =>
  rw [ek]at e
  cases e
  have p1:=zv6 q1.full ek
  have p2:=q2.full
  rw [z]at p2
  cases p2 with
  |@dct _ _ p vs l h1 h2 =>
   subst p1
   cases (show u=Value.ref p from ry)
   refine d_notIn (by lia) I (DGet.k h1) rx fun s' I'=>?_
   rw [zae9 k l]
   exact⟨.bl _,H,I',rfl,hq _ H (Same.refl H) (.bl _)⟩
noncomputable def zaw1:List Ev→Option Ev:=fun rs=>match rs with
 |[r]=>(match r.d with
  |.dct ks _=>some (.cl (.int ks.length))
  |_=>none)
 |_=>none
theorem zbg7:CallD X F (.builtin "len") zaw1:=CallD.of zbh7 fun H0 H A xs rs e Q m g q ek hq=>by
 unfold zaw1 at ek
 split at ek
 case h_2=>cases ek
 rename_i r
 split at ek
 case h_2=>cases ek
 rename_i ks ds z
 cases ek
 cases q with
 |cons q1 q2 =>
  cases q2
  have p:=q1.full
  rw [z]at p
  cases p with
  |@dct _ _ p vs l h1 h2 =>
   refine⟨p,_,rfl,h1,?_⟩
   have:(mkKV ks vs).length=ks.length:=by unfold mkKV;rw [zbq7];lia
   rw [this]
   exact hq _ H (Same.refl H) (.int _)
theorem zam6 (k:Key) (d:D) {ks:List Key}{ds:List D} (h:ks.length=ds.length):putK (mkKV ks (ds.map sV)) k (sV d)=mkKV (zi7 ks ds k d).1 ((zi7 ks ds k d).2.map sV)∧(zi7 ks ds k d).1.length=(zi7 ks ds k d).2.length:=by
 have ha:(mkKV ks (ds.map sV)).any (fun kv=>decide (kv.1=k))=hasK ks k:=by
  rw [zx8,zae9 k (by simpa using h)]
 unfold putK zi7
 rw [ha]
 by_cases hc:hasK ks k=true
 ·rw [if_pos hc,if_pos hc]
  refine⟨?_,by simp;lia⟩
  clear hc ha
  unfold mkKV
  induction ks generalizing ds with
  |nil=>simp
  |cons k' ks ih =>
   cases ds with
   |nil=>simp at h
   |cons d' ds =>
    have i:=ih (ds:=ds) (by simpa using h)
    simp only [zbk4,zbq0,zbp1,i]
    by_cases e:k'=k
    ·simp [e]
    ·simp [e]
 ·rw [if_neg hc,if_neg hc]
  refine⟨?_,by simp;lia⟩
  unfold mkKV
  rw [zbp8,List.zip_append (by simpa using h)]
  rfl
theorem zay6 {ks:List Key}{k:Key}{d:D} (sd:scD d=true):∀ {ds:List D},ds.all scD=true→(zi7 ks ds k d).2.all scD=true:=fun {ds} s=>by
 unfold zi7
 split
 ·show (zbx3 _ ks ds).all scD=true
  rename_i hc
  clear hc
  induction ks generalizing ds with
  |nil=>simp
  |cons k' ks ih =>
   cases ds with
   |nil=>simp
   |cons d' ds =>
    simp only [zbn4,zbj5]at s
    simp only [zbp1,zbn4,zbj5]
    refine⟨?_,ih s.2⟩
    split
    ·exact sd
    ·exact s.1
 ·show (ds++[d]).all scD=true
  rw [List.all_append,s]
  simp [sd]
noncomputable def zai7 (t:Th) (i:Nat) (r k:Ev):Option Out:=match t[i]?,keyD k.d with
 |some (.dp (.dct ks ds)),some kk=>if ds.all scD&&scD r.d&&decide (ks.length<100000) then some (.nx (t.set i (.dp (.dct (zi7 ks ds kk r.d).1 (zi7 ks ds kk r.d).2)))) else none
 |_,_=>none
def zaf5 (i:Nat) (fk fv:DE):DS:=fun t=>(fv t).bind fun r=>(fk t).bind fun k=>zai7 t i r k
theorem psd_dput (i:Nat) {x:Str}{p0 tpos:Pos} (hu:X.A.units+64<cLine) (hb:PE X b (dE X.K F fb)) (he:PE X a (dE X.K F fa)) (hN:X.N[i]?=some x:=by rfl) (hv:Vis X.env.scope x:=by first | exact Or.inl rfl | exact Or.inr (Or.inl rfl) |exact Or.inr (Or.inr rfl)) (hd:(x ==("__debug__":Str))=false:=by decide)
  (hcd:(x ==("__classdict__":Str))=false:=by decide) (hs:swapsWith a (some (.Subscript (.Name x p0) b tpos)) pos.line X.env=pure false:=by rfl) :
  PS X (.Assign [.Subscript (.Name x p0) b tpos] a pos) (dS X.K F (zaf5 i fb fa)):=by
 refine PS.imp (zaz5 (by lia) (zt4 (i:=i) hN hv hd hcd) hb he hs) ?_
 rintro E σ H ⟨A,t,o,R,e,h⟩
 unfold zaf5 at e
 cases e1:fa t with
 |none=>rw [e1]at e;cases e
 |some r =>
  cases e2:fb t with
  |none=>rw [e1,e2]at e;cases e
  |some kk =>
   rw [e1,e2]at e
   have e:zai7 t i r kk=some o:=e
   unfold zai7 at e
   split at e
   case h_2=>cases e
   rename_i ks ds k z ek
   split at e
   case isFalse=>cases e
   rename_i ok
   simp only [zbj5,decide_eq_true_eq]at ok
   cases e
   obtain⟨p,a1,a2,l,hp,mk⟩:=R.placeD z ok.1.1
   refine⟨A,t,r,R,e1,fun v0 H1 gs1 q1=>⟨_,a1,A,t,kk,R.grow gs1,e2,fun y H2 gs2 q2=>?_⟩⟩
   have gs:=gs1.trans gs2
   have ey:=zv6 q2.full ek
   have ev:=zar1 q1.full ok.1.2
   subst ey ev
   obtain⟨pz,pl⟩:=zam6 k r.d l
   obtain⟨A2,R',g'⟩:=mk H2 _ _ gs pl (zay6 ok.1.2 ok.1.1)
   have hlen:(mkKV ks (ds.map sV)).length<sizeLine:=by
    unfold mkKV
    rw [zbq7]
    exact zbk1 (zbt1 _ _) (zbk9 ok.2 (by rw [sizeLine_eq];decide))
   refine⟨p,_,rfl,DPut.k (gs _ _ hp) hlen,?_⟩
   rw [pz]
   exact h _ _ _ g' R'
end
end DL
namespace DL
open PySem.Spec L2
section
variable {X:Cx}{F:List Addr}{a b c o:Expr}{es:List Expr}{fa fb fc:DE}{ga:DA}{pos pos1:Pos}
noncomputable def spP (G:List (Int×Int)→List Int→Option (List (Int×Int))):Sp:=fun vs H Q _ => ∃(p:Addr) (ps ps':List (Int×Int)) (ns:List Int),vs=.ref p::ns.map V.int∧H p=some (.dT (pkv ps))∧G ps ns=some ps' ∧
 ∀H',(∀b o,b≠p→H b=some o→H' b=some o)→H' p=some (.dT (pkv ps'))→Q .non H'
structure CalP (P:Program) (w:World) (K:zbj0) (mg:Str→Option Value) (base:BHeap) (x:Str) (k:Nat) (G:List (Int×Int)→List Int→Option (List (Int×Int))):Prop where
 ex:∃(a:Addr) (fd:FuncData) (ps:List Str),mg x=some (.ref a)∧zbo8 K (.ref a)=true∧L2.Binds K fd ps []∧FnOk P w K mg base CX0 k a fd ps (spP G)
end
end DL
namespace DL
open PySem.Spec L2
def cmpI (mx:Bool) (i j:Int):Bool:=if mx then decide (i > j) else decide (i<j)
def lexI (mx:Bool):List Int→List Int→Bool
 |i::r,j::q=>if decide (i=j) then lexI mx r q else cmpI mx i j
 |_,_=>false
noncomputable def cmpD (mx:Bool):D→D→Option Bool
 |.int i,.int j=>some (cmpI mx i j)
 |.tup xs,.tup ys=>(zp3 xs).bind fun is=>(zp3 ys).bind fun js=>if is.length=js.length then some (lexI mx is js) else none
 |_,_=>none
noncomputable def zbi3 (mx:Bool) (fb:DE) (cs:List D):D→D→List D→Option D
 |b,_,[]=>some b
 |b,k,d::ds=>(fb (.val d::cs.map Sl.val)).bind fun r=>if flat r.d then (cmpD mx r.d k).bind fun c=>if c then zbi3 mx fb cs d r.d ds else zbi3 mx fb cs b k ds else none
noncomputable def dKey (mx:Bool) (cap:List Nat) (fa fb:DE):DE:=fun t=>(fa t).bind fun r=>(capD t cap).bind fun c=>match r.d with
 |.lst (d::ds)=>if (zp3 (d::ds)).isSome then (fb (.val d::c.2.map Sl.val)).bind fun k=>if flat k.d then (zbi3 mx fb c.2 d k.d ds).map Ev.cl else none else none
 |_=>none
end DL
namespace L2
open PySem.Spec PySem.W
def lamOf (x:Str):Str:=x++".<locals>."++"<lambda>"
theorem zai4 {β:Type}:∀ {l:List (Nat×β)}{a:Nat}{o:β},l.lookup a=some o→(a,o)∈l
 |[],_,_,e=>by cases e
 |(b,x)::r,a,o,e=>by
  rw [zbm8]at e
  cases hb:a == b with
  |true=>rw [hb]at e;cases e;rw [eq_of_beq hb];exact .head _
  |false=>rw [hb]at e;exact .tail _ (zai4 e)
def tbOf (K:Frag) (names:List Str):List (Addr×Str):=names.filterMap fun x=>(tabIn K x).map fun q=>(q.2,lamOf x)
theorem of_tbOf {K:Frag}{names:List Str}{p:Addr×Str} (h:p∈tbOf K names):∃x∈names,∃c,tabIn K x=some (c,p.1):=by
 obtain⟨x,hx,e⟩:=zbw3.mp h
 cases q:tabIn K x with
 |none=>rw [q]at e;cases e
 |some r=>rw [q]at e;cases e;exact⟨x,hx,r.1,q⟩
def TbOk (K:Frag) (names:List Str):Prop := ∀p∈tbOf K names,(tbOf K names).lookup p.1=some p.2∧K.lookup p.1=none
theorem tbOk_nil {K:Frag}:TbOk K []:=fun p hp=>by cases hp
theorem zbc7 {P:Program}{w:World}{K:Frag}{mg mb:Str→Option Value}{CX:CXT}{k:Nat}{fa a:Addr}{fd:FuncData}{x:Str}{sp:Sp}{s₁:zbk7}{vs:List Value}{ns:List Int}{names:List Str}
  (KX:K.In s₁.heap) (hns:s₁.heap.Ns mainGlobals mg) (hb:s₁.heap.Ns builtinsNs mb) (hbb:∀x:Str,x≠"__name__"→mb x=bootBuiltins x) (hlim:s₁.heap.NoLimit)
  (hbm:∃(bm:Addr) (ob:Obj),mg "__builtins__"=some (.ref bm)∧bm≠builtinsNs∧s₁.heap.get? bm=some ob∧ob.cls=.type "module"∧ob.dict=some builtinsNs∧ob.data=.plain) (hg:s₁.gens = #[])
  (ha:s₁.heap.get? a=some { cls:=.type "list",data:=.seq vs.toArray }) (hi:IntsAre vs ns) (hl:ns.length≤sizeLine) (hr:Room k callerA)
  (hT:∀x∈names,∀c P,tabIn K x=some (c,P)→CodeHd s₁.heap c P∧s₁.heap.get? P=some (tabObj #[])) (hn:TbOk K names)
  (F:∀base:BHeap,base.tabs=tbOf K names→K.In base→base.Ns mainGlobals mg→(∀x∈names,∀c P,tabIn K x=some (c,P)→CodeHd base c P)→FnOk P w K mg base CX k fa fd [x] sp)
  (hbind:∀(s:zbk7) (u:Value),BindsTo s fd ⟨[u],[]⟩ [(x,u)]) (hsp:∀H:Hp,SqL K H a (ns.map V.int)→sp [.ref a] H (fun v _=>v=.bl true) fun _ _ _=>False)
  (hCX:∀H e s',CX [] H s₁ (fun _ _ _=>False) e s'→False) :
  codeAny (model P w) callerA (.call (.ref fa) ⟨[.ref a],[]⟩) (fun r s'=>r=.ok (.ret (.bool true))∧OldK s₁.heap s'.heap∧s'.os=s₁.os∧AllBare s'.gens) s₁:=by
 have rv:=zag4 hi
 have lenV:=hi.length
 have tabH:∀p∈tbOf K names,∃c,CodeHd s₁.heap c p.1∧s₁.heap.get? p.1=some (tabObj #[]):=fun p hp=>by
  obtain⟨y,hy,c,e⟩:=of_tbOf hp
  exact⟨c,hT y hy c p.1 e⟩
 have core:∀H:Hp,SqL K H a (ns.map V.int)→HOk P w H s₁.heap→(∀p∈tbOf K names,H p.1=some (.tbl p.2)) →
   (∀b o,H b=some o→(b=a∧K.lookup a=none∧∃ob xs,o=.frz ob (.lst xs))∨∃q,o=.tbl q∧(b,q)∈tbOf K names) →
   codeAny (model P w) callerA (.call (.ref fa) ⟨[.ref a],[]⟩) (fun r s'=>r=.ok (.ret (.bool true))∧OldK s₁.heap s'.heap∧s'.os=s₁.os∧AllBare s'.gens) s₁:=by
  intro H hS hok hTB hH
  have free:∀ {b:Addr}{o:Obj},s₁.heap.get? b=some o→(o.cls=.type "list"→False)→o≠tabObj #[]→H b=none:=fun {b o} e n1 n2=>by
   cases q:H b with
   |none=>rfl
   |some u =>
    rcases hH b u q with ⟨rfl,_⟩ | ⟨qq,rfl,hm⟩
    ·rw [ha]at e;cases e;exact (n1 rfl).elim
    ·obtain⟨c,_,e2⟩:=tabH _ hm
     have e2:s₁.heap.get? b=some (tabObj #[]):=e2
     rw [e]at e2;cases e2;exact (n2 rfl).elim
  have nsK:∀ {b:Addr}{m:Str→Option Value},s₁.heap.Ns b m→(hidT s₁.heap H).Ns b m:=fun {b m} ⟨o,es,ep,e,d,r⟩=>⟨o,es,ep,zy3 e (by
   cases q:H b with
   |none=>rfl
   |some u =>
    rcases hH b u q with ⟨rfl,_⟩ | ⟨qq,rfl,hm⟩
    ·rw [ha]at e;cases e;cases d
    ·obtain⟨c,_,e2⟩:=tabH _ hm
     have e2:s₁.heap.get? b=some (tabObj #[]):=e2
     rw [e]at e2;cases e2;cases d),d,r⟩
  have hKb:K.In (hidT s₁.heap H):=fun b o e=>zy3 (KX b o e) (by
   cases q:H b with
   |none=>rfl
   |some u =>
    rcases hH b u q with ⟨rfl,n,_⟩ | ⟨qq,rfl,hm⟩
    ·rw [n]at e;cases e
    ·have n:K.lookup b=none:=(hn _ hm).2
     rw [n]at e;cases e)
  have hM:Mod K mg ⟨hidT s₁.heap H,tbOf K names⟩:=⟨hKb,nsK hns,⟨mb,nsK hb,hbb⟩,let ⟨mc,h1,h2⟩:=hlim;⟨mc,nsK h1,h2⟩,by
   obtain⟨bm,ob,b1,b2,b3,b4,b5,b6⟩:=hbm
   exact⟨bm,ob,b1,b2,zy3 b3 (free b3 (fun z=>by rw [b4]at z;simp at z) fun z=>by rw [z]at b4;cases b4),b4,b5,b6⟩⟩
  have hCd:∀x∈names,∀c P,tabIn K x=some (c,P)→CodeHd (hidT s₁.heap H) c P:=fun x hx c P e=>by
   obtain⟨⟨o,vs,file,tf,flags,tg,inF,text,tt,e1,r1,r⟩,_⟩:=hT x hx c P e
   exact⟨o,vs,file,tf,flags,tg,inF,text,tt,zy3 e1 (free e1 (fun z=>by rw [r1]at z;simp at z) fun z=>by rw [z]at r1;cases r1),r1,r⟩
  have e0:Env0 P w K mg ⟨hidT s₁.heap H,tbOf K names⟩ callerA [] s₁ H:=⟨rfl,hM,fun b o e=>of_hidT e,Nat.le_of_eq (zbd8 _ _),trivial,fun b hb=>absurd (show b∈([]:List Addr) from hb) (by simp),hok,.of_eq hg,hTB⟩
  refine codeAny_mono ((F ⟨hidT s₁.heap H,tbOf K names⟩ rfl hKb (nsK hns) hCd).run callerA [] s₁ H ⟨[.ref a],[]⟩ [.ref a] [.ref a] _ _ hr e0 (hbind s₁ (.ref a)) (.cons rfl .nil) (hsp H hS)) fun r s' h=>?_
  cases r with
  |error e=>exact (hCX H e s' h).elim
  |ok fl =>
   cases fl with
   |next=>exact False.elim h
   |brk=>exact False.elim h
   |cont=>exact False.elim h
   |ret u =>
    obtain⟨v,H',os,bare,un,hok',r',q⟩:=h
    have q':v=.bl true:=q
    subst q'
    obtain rfl:u=Value.bool true:=r'
    have kp:∀b o,s₁.heap.get? b=some o→s'.heap.get? b=some o∨∃qq,H b=some (.tbl qq):=fun b o e=>by
     cases q:H b with
     |none=>exact .inl (un.keep b o e q (by intro z;exact absurd (show b∈([]:List Addr) from z) (by simp)) (by simp))
     |some u =>
      rcases hH b u q with ⟨rfl,_,ob,xs,rfl⟩ | ⟨qq,rfl,hm⟩
      ·obtain⟨e1,_⟩:=hok b _ q
       obtain⟨e2,_⟩:=hok' b _ (un.frzs b ob _ q)
       rw [e]at e1;cases e1
       exact .inl e2
      ·exact .inr ⟨qq,rfl⟩
    refine⟨rfl,⟨fun b o e=>?_,fun b o e=>?_⟩,os,bare⟩
    ·rcases kp b o e with z | ⟨qq,z⟩
     ·exact .inl z
     ·rcases hH b _ z with ⟨_,_,ob,xs,z2⟩ | ⟨q2,z2,hm⟩
      ·cases z2
      ·obtain⟨c,C,e2⟩:=tabH _ hm
       have e2:s₁.heap.get? b=some (tabObj #[]):=e2
       rw [e]at e2
       cases e2
       obtain⟨ps,e3,_⟩:=hok' b _ (un.tbls b _ z)
       have C:CodeHd s₁.heap c b:=C
       exact .inr (.inl ⟨(C.tab e).isCodeTable,rfl, #[],ps,rfl,by simpa using e3⟩)
    ·rcases kp b o e with z | ⟨qq,z⟩
     ·exact⟨o,z⟩
     ·obtain⟨ps,e3,_⟩:=hok' b _ (un.tbls b _ z)
      exact⟨_,e3⟩
 have tabO:∀(H:Hp) (p:Addr×Str),p∈tbOf K names→ObjOk P w H s₁.heap p.1 (.tbl p.2):=fun H p hp=>by
  obtain⟨c,_,e⟩:=tabH p hp
  exact⟨#[],e,trivial,fun pos cv z=>by cases z⟩
 have lk:∀b q,(tbOf K names).lookup b=some q→(b,q)∈tbOf K names:=fun b q e=>zai4 e
 have aT:∀q,(a,q)∈tbOf K names→False:=fun q hm=>by
  obtain⟨c,_,e⟩:=tabH _ hm
  have e:s₁.heap.get? a=some (tabObj #[]):=e
  rw [ha]at e;cases e
 cases hk:K.lookup a with
 |some o =>
  have e:=KX a o hk
  rw [ha]at e
  cases e
  refine core (fun b=>((tbOf K names).lookup b).map HO.tbl) (.inr ⟨_,vs.toArray,_,hk,rfl,rfl,rfl,by rw [zbl4,lenV];exact hl,by simpa using rv⟩) (fun b u z=>?_) (fun p hp=>by simp only [(hn p hp).1,zbp0]) fun b u z=>?_
  ·cases q:(tbOf K names).lookup b with
   |none=>simp only [q]at z;cases z
   |some qq=>simp only [q]at z;cases z;exact tabO _ _ (lk b qq q)
  ·cases q:(tbOf K names).lookup b with
   |none=>simp only [q]at z;cases z
   |some qq=>simp only [q]at z;cases z;exact .inr ⟨qq,rfl,lk b qq q⟩
 |none =>
  refine core (fun b=>if b=a then some (.frz { cls:=.type "list",data:=.seq vs.toArray } (.lst (ns.map V.int))) else ((tbOf K names).lookup b).map HO.tbl) (.inl (.inr ⟨{ cls:=.type "list",data:=.seq vs.toArray },if_pos rfl⟩)) (fun b u z=>?_) (fun p hp=>?_) fun b u z=>?_
  ·by_cases hb:b=a
   ·have z':=(if_pos hb).symm.trans z
    cases z'
    subst hb
    exact⟨ha,by rw [zbl5];exact hl,vs,_,rv,ha⟩
   ·have z':=(if_neg hb).symm.trans z
    cases q:(tbOf K names).lookup b with
    |none=>simp only [q]at z';cases z'
    |some qq=>simp only [q]at z';cases z';exact tabO _ _ (lk b qq q)
  ·have:p.1≠a:=fun e=>aT p.2 (by rw [← e];exact hp)
   simp only [this,if_false,(hn p hp).1,zbp0]
  ·by_cases hb:b=a
   ·have z':=(if_pos hb).symm.trans z
    cases z'
    exact .inl ⟨hb,hk,_,_,rfl⟩
   ·have z':=(if_neg hb).symm.trans z
    cases q:(tbOf K names).lookup b with
    |none=>simp only [q]at z';cases z'
    |some qq=>simp only [q]at z';cases z';exact .inr ⟨qq,rfl,lk b qq q⟩
end L2
namespace L2
open PySem.W
theorem walk_ofT {l:zce0}{n k:Nat}{q:Program}{loose:List Str}{XP:(Str→Option Value)→Heap→Prop}{YP:World→Heap→Prop}{d:DefRec}{K:Params→zbj0}{CX:World→CXT}{sp:World→Sp}{x:Str}{names:List Str}
  (hn:l.most=some n) (hn2:n≤sizeLine) (hdf:d.params.defaults=[]) (hr:Room k callerA)
  (hY:∀(w:World) (h:Heap),YP w h→(K w.params).In h) (hrec:∀x∈names,∃dr,(recsOf q).find? (fun e=>e.name == x)=some dr)
  (F:∀(w:World) (mg:Str→Option Value) (fa:Addr) (h:Heap),(K w.params).In h→h.Ns mainGlobals mg→mg d.name=some (.ref fa) →
   TbOk (K w.params) names∧∃fd:FuncData,(∀(s:zbk7) (u:Value),BindsTo s fd ⟨[u],[]⟩ [(x,u)]) ∧
    ∀base:BHeap,base.tabs=tbOf (K w.params) names→(K w.params).In base→base.Ns mainGlobals mg→(∀x∈names,∀c P,tabIn (K w.params) x=some (c,P)→CodeHd base c P)→FnOk l.prog w (K w.params) mg base (CX w) k fa fd [x] (sp w))
  (hsp:∀(w:World) (H:Hp) (a:Addr) (ns:List Int),ns.length≤n→(∀i∈ns,i.natAbs<bndS)→SqL (K w.params) H a (ns.map V.int)→sp w [.ref a] H (fun v _=>v=.bl true) fun _ _ _=>False)
  (hCX:∀(w:World) (H:Hp) (s:zbk7) (e:Value) (s':zbk7),CX w [] H s (fun _ _ _=>False) e s'→False) :
  zch8 q loose XP YP l.row.toRowW d [] (fun f vs=>PySem.call f vs):=by
 intro w s₀ s₁ mg mb G Y fa o pm cd doc dV kV ho hd hcd hD hmg hg args vals as hpre hlay hrd hwl hlo
 obtain rfl:dV=.none:=Dflts.none hD hdf
 obtain rfl:kV=.none:=Dflts.noKw hD
 obtain⟨a,vs,ns,rfl,rfl,hobj,hints,hlen⟩:=Att.script_of hn hpre hwl
 have hb:=bnd_of hlay
 have KX:=hY w _ Y
 obtain⟨hok,fd,hbd,hF⟩:=F w mg fa _ KX G.T.g hmg
 refine enter_call (codeAny_mono (zbc7 KX G.T.g G.T.b G.T.builtins G.T.nolimit G.T.bmain hg hobj hints (zbk3 hlen hn2) hr (fun x hx c P e=>by
  obtain⟨dr,h⟩:=hrec x hx
  exact tab_of G.T KX h e) hok hF hbd (fun H hS=>hsp w H a ns hlen hb hS) fun H e s'=>hCX w H s₁ e s') fun r s' hq=>?_)
 obtain⟨rfl,h2,h3,h4⟩:=hq
 exact⟨.inl ⟨.bool true,.bool true,[],rfl,fun _=>rfl,.bool true,Att.post_true l _,fun _=>⟨List.Pairwise.nil,fun _ hm=>(nomatch hm)⟩⟩,h2,h3,h4⟩
end L2
namespace DL
open PySem.Spec L2
def isSt:Expr→Bool
 |.Starred _ _=>true
 |_=>false
theorem za9 {a:Expr}{es:List Expr}{env:Env} (h:isSt a=false):zbl2 (a::es) env=(false,eval a env)::zbl2 es env:=by
 cases a<;>first | rfl | cases h
theorem RS.putOwned {K:zbj0}{F A:List Addr}{H:Hp}{t:Th}{σ:L2.St}{i:Nat}{d:D}{v:V}{B:List Addr} (R:RS K (B++F) H A t σ) (nb:B.Nodup) (dj:∀b∈B,b∉F) (r:RepD K (hide (A++(B++F)) H) H d v B) (hi:i<t.length) :
  ∃A',(∀x∈A',x∈B∨x∈A)∧RS K F H A' (t.set i (.dp d)) (σ.set i (some v)):=by
 have lb:=r.lists
 obtain⟨A2,r2,sub2,nd2⟩:=RSl.setAny (s:=.dp d) (v:=v) (B:=B) (fun q=>.dp r q) i R.rel hi
 refine⟨A2,sub2,⟨fun p hp=>?_,nd2 R.nd nb (fun b hb z=>R.dj b z (zbj1 _ hb)),fun p hp=>?_,RSl.mono (zb3 H fun x hx=>?_) r2 fun _ _ _ w=>w⟩⟩
 ·rcases zbj4.mp hp with z | z
  ·rcases sub2 p z with w | w
   ·exact lb p w
   ·exact R.mu p (zbj1 _ w)
  ·exact R.mu p (zbi9 _ (zbi9 _ z))
 ·rcases sub2 p hp with w | w
  ·exact dj p w
  ·exact fun z=>R.dj p w (zbi9 _ z)
 ·rcases zbj4.mp hx with z | z
  ·rcases sub2 x z with w | w
   ·exact zbi9 _ (zbj1 _ w)
   ·exact zbj1 _ w
  ·exact zbi9 _ (zbi9 _ z)
theorem RS.less {K:zbj0}{F F' A:List Addr}{H:Hp}{t:Th}{σ:L2.St} (R:RS K F H A t σ) (h:∀b∈F',b∈F):RS K F' H A t σ :=
 ⟨fun p hp=>R.mu p ((zbj4.mp hp).elim (zbj1 _) fun z=>zbi9 _ (h p z)),R.nd,fun p hp z=>R.dj p hp (h p z),
  RSl.mono (zb3 H fun x hx=>(zbj4.mp hx).elim (zbj1 _) fun z=>zbi9 _ (h x z)) R.rel fun _ _ _ w=>w⟩
noncomputable def TgN (K:zbj0) (g:TG) (k:D→Th→Option Th):Prop :=
 ∀F σ H A B t t' d x (Q:L2.St→Hp→Prop),RS K (B++F) H A t σ→B.Nodup→(∀b∈B,b∉F)→RepD K (hide (A++(B++F)) H) H d x B→k d t=some t'→(∀σ2 A2,(∀x∈A2,x∈B∨x∈A)→RS K F H A2 t' σ2→Q σ2 H)→g x σ H Q
noncomputable def TgsN (K:zbj0) (g:TGs) (k:List D→Th→Option Th):Prop :=
 ∀F σ H A B t t' ds xs (Q:L2.St→Hp→Prop),RS K (B++F) H A t σ→B.Nodup→(∀b∈B,b∉F)→RepDs K (hide (A++(B++F)) H) H ds xs B→k ds t=some t'→(∀σ2 A2,(∀x∈A2,x∈B∨x∈A)→RS K F H A2 t' σ2→Q σ2 H)→g xs σ H Q
noncomputable def zad2 (i:Nat):D→Th→Option Th:=fun d t=>if i<t.length then some (if flat d then t.set i (.val d) else t.set i (.dp d)) else none
theorem zax6 {K:zbj0} (i:Nat):TgN K (zaw6 i) (zad2 i):=by
 intro F σ H A B t t' d x Q R nb dj r e h
 unfold zad2 at e
 split at e
 case isFalse=>cases e
 rename_i hi
 cases e
 split at h
 ·rename_i f
  have R1:RS K F H A t σ:=R.less fun b hb=>zbi9 _ hb
  have rp:Rep K (hide (A++F) H) d x:=Rep.hid R1.mu f (r.rep (zb7 _ _) fun _ _ _ w=>w)
  obtain⟨A',g',R'⟩:=R1.put (i:=i) (r:=.cl d) (v:=x) (t':=t.set i (.val d)) (Same.refl H) rp (by unfold zn8;rw [if_pos hi])
  refine h _ A' (fun y hy=>?_) R'
  rcases g'.nw y hy with z | z
  ·exact .inr z
  ·obtain⟨o,w⟩:=R'.mu y (zbj1 _ hy)
   rw [w]at z;cases z
 ·obtain⟨A',sub,R'⟩:=R.putOwned nb dj r hi
  exact h _ A' sub R'
theorem tns_nil {K:zbj0}:TgsN K gNil zr1:=by
 intro F σ H A B t t' ds xs Q R nb dj r e h
 cases r with
 |nil=>cases e;exact⟨rfl,h σ A (fun x hx=>.inr hx) R⟩
 |cons _ _=>cases e
theorem zaq2 {K:zbj0}{g:TG}{g':TGs}{k:D→Th→Option Th}{k':List D→Th→Option Th} (h1:TgN K g k) (h2:TgsN K g' k'):TgsN K (gCons g g') (ze6 k k'):=by
 intro F σ H A B t t' ds xs Q R nb dj r e h
 cases r with
 |nil=>cases e
 |@cons d v ds vs B1 C r1 r2 =>
  unfold ze6 at e
  cases e1:k d t with
  |none=>simp only [e1]at e;cases e
  |some t1 =>
   simp only [e1]at e
   have n0:=zbl0.mp nb
   have eq:B1++C++F=B1++(C++F):=zbx6 ..
   rw [eq]at R r1 r2
   refine⟨v,vs,rfl,h1 (C++F) σ H A B1 t t1 d v _ R n0.1 (fun b hb z=>?_) r1 e1 fun σ2 A2 s2 R2=>?_⟩
   ·rcases zbj4.mp z with w | w
    ·exact n0.2.2 b hb b w rfl
    ·exact dj b (zbj1 _ hb) w
   ·refine h2 F σ2 H A2 C t1 t' ds vs Q R2 n0.2.1 (fun b hb=>dj b (zbi9 _ hb)) (RepDs.mono (zb3 H fun x hx=>?_) r2 fun _ _ _ w=>w) e fun σ3 A3 s3 R3=>h σ3 A3 (fun x hx=>?_) R3
    ·rcases zbj4.mp hx with z | z
     ·rcases s2 x z with w | w
      ·exact zbi9 _ (zbj1 _ w)
      ·exact zbj1 _ w
     ·exact zbi9 _ (zbi9 _ z)
    ·rcases s3 x hx with z | z
     ·exact .inl (zbi9 _ z)
     ·rcases s2 x z with w | w
      ·exact .inl (zbj1 _ w)
      ·exact .inr w
theorem tn_tup {K:zbj0}{n:Nat}{g':TGs}{k':List D→Th→Option Th} (h2:TgsN K g' k'):TgN K (gTup K n g') (zr0 n k'):=by
 intro F σ H A B t t' d x Q R nb dj r e h
 unfold zr0 at e
 split at e
 ·rename_i ds
  split at e
  ·rename_i hl
   cases r with
   |flat f r =>
    cases r with
    |@tup _ p vs h1 hr=>exact⟨p,vs,rfl,SqT.mono (zb7 _ _) h1,by rw [hr.length];exact hl,h2 F σ H A [] t t' ds vs Q R nb dj (RepDs.of_flat (by simpa [DL.flat] using f) hr) e h⟩
   |@tup _ p vs _ h1 hr=>exact⟨p,vs,rfl,SqT.mono (zb7 _ _) h1,by rw [hr.length];exact hl,h2 F σ H A B t t' ds vs Q R nb dj hr e h⟩
  ·cases e
 ·cases e
theorem RSl.loseDp {K:zbj0}{H0 H:Hp}:∀ {t:Th}{σ:L2.St}{A:List Addr},RSl K H0 H t σ A→A.Nodup→∀ {i:Nat}{d:D},t[i]?=some (.dp d)→∃v B A',σ[i]?=some (some v)∧RepD K H0 H d v B∧RSl K H0 H (t.set i .no) σ A'∧(∀x∈A',x∈A)∧(∀x∈B,x∈A)∧(∀x∈A,x∈B∨x∈A')∧B.Nodup∧A'.Nodup∧(∀x∈A',x∉B):=by
 intro _ _ _ h
 induction h with
 |nil =>
  intro n i d e
  simp at e
 |@no _ _ _ _ r ih =>
  intro n i d e
  cases i with
  |zero =>
   simp at e
  |succ i =>
   obtain⟨v,B,A',a1,a2,a3,a4⟩:=ih n (i:=i) (d:=d) (by simpa using e)
   exact⟨v,B,A',by simpa using a1,a2,.no a3,a4⟩
 |@val _ _ _ _ _ h r ih =>
  intro n i d e
  cases i with
  |zero =>
   simp at e
  |succ i =>
   obtain⟨v,B,A',a1,a2,a3,a4⟩:=ih n (i:=i) (d:=d) (by simpa using e)
   exact⟨v,B,A',by simpa using a1,a2,.val h a3,a4⟩
 |@own p _ _ _ _ _ h1 h2 r ih =>
  intro n i d e
  cases i with
  |zero =>
   simp at e
  |succ i =>
   have n0:=zbl6.mp n
   obtain⟨v,B,A',a1,a2,a3,a4,a5,a6,a7,a8,a9⟩:=ih n0.2 (i:=i) (d:=d) (by simpa using e)
   refine⟨v,B,p::A',by simpa using a1,a2,.own h1 h2 a3,fun x hx=>?_,fun x hx=>zbj2 _ (a5 x hx),fun x hx=>?_,a7,zbl6.mpr ⟨fun z=>n0.1 (a4 p z),a8⟩,fun x hx z=>?_⟩
   ·rcases zbj9.mp hx with w | w
    ·rw [w];exact zbj7 ..
    ·exact zbj2 _ (a4 x w)
   ·rcases zbj9.mp hx with w | w
    ·rw [w];exact .inr (zbj7 ..)
    ·exact (a6 x w).imp id (zbj2 _)
   ·rcases zbj9.mp hx with w | w
    ·exact n0.1 (w ▸ a5 x z)
    ·exact a9 x w z
 |@dp _ v C _ _ A h r ih =>
  intro n i d e
  cases i with
  |zero =>
   simp at e;subst e
   have n0:=zbl0.mp n
   exact⟨v,C,A,rfl,h,.no r,fun x hx=>zbi9 _ hx,fun x hx=>zbj1 _ hx,fun x hx=>zbj4.mp hx,n0.1,n0.2.1,fun x hx z=>n0.2.2 x z x hx rfl⟩
  |succ i =>
   have n0:=zbl0.mp n
   obtain⟨v,B,A',a1,a2,a3,a4,a5,a6,a7,a8,a9⟩:=ih n0.2.1 (i:=i) (d:=d) (by simpa using e)
   refine⟨v,B,C++A',by simpa using a1,a2,.dp h a3,fun x hx=>?_,fun x hx=>zbi9 _ (a5 x hx),fun x hx=>?_,a7,zbl0.mpr ⟨n0.1,a8,fun x hx y hy e=>n0.2.2 x hx y (a4 y hy) e⟩,fun x hx z=>?_⟩
   ·rcases zbj4.mp hx with w | w
    ·exact zbj1 _ w
    ·exact zbi9 _ (a4 x w)
   ·rcases zbj4.mp hx with w | w
    ·exact .inr (zbj1 _ w)
    ·exact (a6 x w).imp id (zbi9 _)
   ·rcases zbj4.mp hx with w | w
    ·exact n0.2.2 x w x (a5 x z) rfl
    ·exact a9 x w z
theorem RS.takeDp {K:zbj0}{F A:List Addr}{H:Hp}{t:Th}{σ:L2.St}{i:Nat}{d:D} (R:RS K F H A t σ) (e:t[i]?=some (.dp d)) :
  ∃v B A',σ[i]?=some (some v)∧RS K (B++F) H A' (t.set i .no) σ∧B.Nodup∧(∀b∈B,b∉F)∧RepD K (hide (A'++(B++F)) H) H d v B∧(∀x∈A',x∈A)∧(∀x∈B,x∈A):=by
 obtain⟨v,B,A',a1,a2,a3,a4,a5,a6,a7,a8,a9⟩:=R.rel.loseDp R.nd e
 have s:Same (hide (A++F) H) (hide (A'++(B++F)) H):=zb3 H fun x hx=>by
  rcases zbj4.mp hx with z | z
  ·exact zbj1 _ (a4 x z)
  ·rcases zbj4.mp z with z | z
   ·exact zbj1 _ (a5 x z)
   ·exact zbi9 _ z
 refine⟨v,B,A',a1,⟨fun p hp=>?_,a8,fun p hp z=>?_,RSl.mono s a3 fun _ _ _ w=>w⟩,a7,fun b hb=>R.dj b (a5 b hb),RepD.mono s a2 fun _ _ _ w=>w,a4,a5⟩
 ·rcases zbj4.mp hp with z | z
  ·exact R.mu p (zbj1 _ (a4 p z))
  ·rcases zbj4.mp z with z | z
   ·exact R.mu p (zbj1 _ (a5 p z))
   ·exact R.mu p (zbi9 _ z)
 ·rcases zbj4.mp z with z | z
  ·exact a9 p hp z
  ·exact R.dj p (a4 p hp) z
theorem RS.aside {K:zbj0}{F A:List Addr}{H H':Hp}{t:Th}{σ:L2.St}{B:List Addr} (R:RS K F H A t σ) (g:Same H H') (fr:∀b∈B,H b=none) (lb:Lists H' B):RS K (B++F) H' A t σ:=by
 have np:∀b∈B,b∉A++F:=fun b hb=>zd6 R.mu (fr b hb)
 refine⟨fun p hp=>?_,R.nd,fun p hp z=>?_,RSl.mono (fun b o h=>?_) R.rel fun b _ o h=>g _ _ h⟩
 ·rcases zbj4.mp hp with z | z
  ·exact (R.mu.mono g) p (zbj1 _ z)
  ·rcases zbj4.mp z with z | z
   ·exact lb p z
   ·exact (R.mu.mono g) p (zbi9 _ z)
 ·rcases zbj4.mp z with z | z
  ·exact np p z (zbj1 _ hp)
  ·exact R.dj p hp z
 ·obtain⟨n,h⟩:=zl8 h
  refine zd0 (g _ _ h) fun z=>?_
  rcases zbj4.mp z with z | z
  ·exact n (zbj1 _ z)
  ·rcases zbj4.mp z with z | z
   ·rw [fr b z]at h;cases h
   ·exact n (zbi9 _ z)
section
variable {X:Cx}{F:List Addr}{a b c:Expr}{es:List Expr}{fa fb fc:DE}{pos:Pos}{tg:Expr}{gt:TG}{kt:D→Th→Option Th}
def zbf8 (kt:D→Th→Option Th) (f:DE):DS:=fun t=>(f t).bind fun r=>(toDn r).bind fun d=>(kt d t).map Out.nx
theorem psd_asgN (he:PE X a (dE X.K F fa)) (hg:PG X tg gt) (ht:TgN X.K gt kt) (hs:swapsWithSole [tg] a pos.line X.env=pure false:=by rfl) (hw:swappedStores [tg] a X.env=pure none:=by rfl)
  (h1:(assignEach [tg] X.env).map (·.2)=[assign tg X.env]:=by rfl):PS X (.Assign [tg] a pos) (dS X.K F (zbf8 kt fa)):=by
 refine PS.imp (zaz6 he hg hs hw h1) ?_
 rintro E σ H ⟨A,t,o,R,e,h⟩
 unfold zbf8 at e
 cases e1:fa t with
 |none=>rw [e1]at e;cases e
 |some r1 =>
  rw [e1]at e
  simp only [zbj3]at e
  cases e2:toDn r1 with
  |none=>rw [e2]at e;cases e
  |some d =>
   rw [e2]at e
   simp only [zbj3]at e
   cases e3:kt d t with
   |none=>rw [e3]at e;cases e
   |some t' =>
    rw [e3]at e
    cases e
    refine⟨A,t,r1,R,e1,fun v H' gs q=>?_⟩
    obtain⟨B,b1,b2,b3⟩:=q.toDn R.mu gs e2
    have R1:=R.aside gs b2 b3.lists
    have np:∀b∈B,b∉A++F:=fun b hb=>zd6 R.mu (b2 b hb)
    have r2:RepD X.K (hide (A++(B++F)) H') H' d v B:=RepD.mono (zb3 H' fun x hx=>by
     rcases zbj4.mp hx with z | z
     ·exact zbi9 _ (zbj1 _ z)
     ·rcases zbj4.mp z with z | z
      ·exact zbj1 _ z
      ·exact zbi9 _ (zbi9 _ z)) b3 fun _ _ _ w=>w
    refine ht F σ H' A B t t' d v E.nx R1 b1 (fun b hb z=>np b hb (zbi9 _ z)) r2 e3 fun σ2 A2 s2 R2=>h σ2 H' A2 ⟨fun b o _ w=>gs _ _ w,fun b hb=>?_,fun b hb=>?_⟩ R2
    ·obtain⟨us,u⟩:=R.mu b (zbj1 _ hb)
     rw [gs _ _ u];simp
    ·rcases s2 b hb with w | w
     ·exact .inr (b2 b w)
     ·exact .inl w
end
end DL
namespace DL
open PySem.Spec L2
abbrev DM:=Th→Option (D×Th)
abbrev DMs:=Th→Option (List D×Th)
structure Mv (K:zbj0) (F A:List Addr) (H H':Hp) (B A':List Addr) (t':Th) (σ:L2.St):Prop where
 sm:Same H H'
 nd:B.Nodup
 dj:∀b∈B,b∉F
 rs:RS K (B++F) H' A' t' σ
 fr:∀b∈B,b∈A∨H b=none
 sb:∀b∈A',b∈A
noncomputable def dM (K:zbj0) (F:List Addr) (f:DM):TE:=fun σ H Q => ∃A t d t',RS K F H A t σ∧f t=some (d,t')∧∀v H' B A',Mv K F A H H' B A' t' σ→RepD K (hide (A'++(B++F)) H') H' d v B→Q v H'
noncomputable def dMs (K:zbj0) (F:List Addr) (f:DMs):TA:=fun σ H Q => ∃A t ds t',RS K F H A t σ∧f t=some (ds,t')∧∀vs H' B A',Mv K F A H H' B A' t' σ→RepDs K (hide (A'++(B++F)) H') H' ds vs B→Q vs H'
theorem RSl.loseOwn {K:zbj0}{H0 H:Hp}:∀ {t:Th}{σ:L2.St}{A:List Addr},RSl K H0 H t σ A→A.Nodup→∀ {i:Nat}{ds:List D},t[i]?=some (.own ds)→∃p vs A',σ[i]?=some (some (.ref p))∧H p=some (.lst vs)∧Reps K H0 ds vs∧RSl K H0 H (t.set i .no) σ A'∧(∀x∈A',x∈A)∧p∈A∧(∀x∈A,x=p∨x∈A')∧A'.Nodup∧p∉A':=by
 intro _ _ _ h
 induction h with
 |nil =>
  intro n i d e
  simp at e
 |@no _ _ _ _ r ih =>
  intro n i d e
  cases i with
  |zero =>
   simp at e
  |succ i =>
   obtain⟨v,B,A',a1,a2,a2',a3,a4⟩:=ih n (i:=i) (ds:=d) (by simpa using e)
   exact⟨v,B,A',by simpa using a1,a2,a2',.no a3,a4⟩
 |@val _ _ _ _ _ h r ih =>
  intro n i d e
  cases i with
  |zero =>
   simp at e
  |succ i =>
   obtain⟨v,B,A',a1,a2,a2',a3,a4⟩:=ih n (i:=i) (ds:=d) (by simpa using e)
   exact⟨v,B,A',by simpa using a1,a2,a2',.val h a3,a4⟩
 |@own q vs _ _ _ A h1 h2 r ih =>
  intro n i d e
  cases i with
  |zero =>
   simp at e;subst e
   have n0:=zbl6.mp n
   exact⟨q,vs,A,rfl,h1,h2,.no r,fun x hx=>zbj2 _ hx,zbj7 ..,fun x hx=>zbj9.mp hx,n0.2,n0.1⟩
  |succ i =>
   have n0:=zbl6.mp n
   obtain⟨p,vs,A',a1,a2,a2',a3,a4,a5,a6,a7,a8⟩:=ih n0.2 (i:=i) (ds:=d) (by simpa using e)
   refine⟨p,vs,q::A',by simpa using a1,a2,a2',.own h1 h2 a3,fun x hx=>?_,zbj2 _ a5,fun x hx=>?_,zbl6.mpr ⟨fun z=>n0.1 (a4 q z),a7⟩,fun z=>?_⟩
   ·rcases zbj9.mp hx with w | w
    ·rw [w];exact zbj7 ..
    ·exact zbj2 _ (a4 x w)
   ·rcases zbj9.mp hx with w | w
    ·rw [w];exact .inr (zbj7 ..)
    ·exact (a6 x w).imp id (zbj2 _)
   ·rcases zbj9.mp z with w | w
    ·exact n0.1 (w ▸ a5)
    ·exact a8 w
 |@dp _ _ C _ _ _ h r ih =>
  intro n i d e
  cases i with
  |zero =>
   simp at e
  |succ i =>
   have n0:=zbl0.mp n
   obtain⟨p,vs,A',a1,a2,a2',a3,a4,a5,a6,a7,a8⟩:=ih n0.2.1 (i:=i) (ds:=d) (by simpa using e)
   refine⟨p,vs,C++A',by simpa using a1,a2,a2',.dp h a3,fun x hx=>?_,zbi9 _ a5,fun x hx=>?_,zbl0.mpr ⟨n0.1,a7,fun x hx y hy e=>n0.2.2 x hx y (a4 y hy) e⟩,fun z=>?_⟩
   ·rcases zbj4.mp hx with w | w
    ·exact zbj1 _ w
    ·exact zbi9 _ (a4 x w)
   ·rcases zbj4.mp hx with w | w
    ·exact .inr (zbj1 _ w)
    ·exact (a6 x w).imp id (zbi9 _)
   ·rcases zbj4.mp z with w | w
    ·exact n0.2.2 p w p a5 rfl
    ·exact a8 w
theorem RS.takeOwn {K:zbj0}{F A:List Addr}{H:Hp}{t:Th}{σ:L2.St}{i:Nat}{ds:List D} (R:RS K F H A t σ) (e:t[i]?=some (.own ds)) :
  ∃p vs A',σ[i]?=some (some (.ref p))∧RS K ([p]++F) H A' (t.set i .no) σ∧p∉F∧H p=some (.lst vs)∧Reps K (hide (A'++([p]++F)) H) ds vs∧(∀x∈A',x∈A)∧p∈A:=by
 obtain⟨p,vs,A',a1,a2,a2',a3,a4,a5,a6,a7,a8⟩:=R.rel.loseOwn R.nd e
 have s:Same (hide (A++F) H) (hide (A'++([p]++F)) H):=zb3 H fun x hx=>by
  rcases zbj4.mp hx with z | z
  ·exact zbj1 _ (a4 x z)
  ·rcases zbj4.mp z with z | z
   ·rw [zbk6.mp z];exact zbj1 _ a5
   ·exact zbi9 _ z
 refine⟨p,vs,A',a1,⟨fun q hp=>?_,a7,fun q hp z=>?_,RSl.mono s a3 fun _ _ _ w=>w⟩,R.dj p a5,a2,Reps.mono s a2',a4,a5⟩
 ·rcases zbj4.mp hp with z | z
  ·exact R.mu q (zbj1 _ (a4 q z))
  ·rcases zbj4.mp z with z | z
   ·rw [zbk6.mp z];exact R.mu p (zbj1 _ a5)
   ·exact R.mu q (zbi9 _ z)
 ·rcases zbj4.mp z with z | z
  ·rw [zbk6.mp z]at hp;exact a8 hp
  ·exact R.dj q (a4 q hp) z
section
variable {X:Cx}{F:List Addr}{a b c o:Expr}{es:List Expr}{fa fb fc:DE}{fn:DM}{fns:DMs}{pos:Pos}
noncomputable def mOwn (i:Nat):DM:=fun t=>match t[i]? with
 |some (.own xs)=>if flats xs then some (.lst xs,t.set i .no) else none
 |some (.dp d)=>some (d,t.set i .no)
 |some (.val d)=>if flat d then some (d,t) else none
 |_=>none
theorem pm_own (i:Nat) {x:Str} (hN:X.N[i]?=some x:=by rfl) (hv:Vis X.env.scope x:=by first | exact Or.inl rfl | exact Or.inr (Or.inl rfl) |exact Or.inr (Or.inr rfl)) (hd:(x ==("__debug__":Str))=false:=by decide)
  (hcd:(x ==("__classdict__":Str))=false:=by decide):PE X (.Name x pos) (dM X.K F (mOwn i)):=by
 refine PE.imp (zt4 (i:=i) hN hv hd hcd) ?_
 rintro σ H Q ⟨A,t,d,t',R,e,h⟩
 unfold mOwn at e
 split at e
 ·rename_i xs q
  split at e
  case isFalse=>cases e
  rename_i f
  cases e
  obtain⟨p,vs,A',a1,R1,a3,a4,a5,a6,a7⟩:=R.takeOwn q
  exact⟨_,a1,h _ H [p] A' ⟨Same.refl H,by simp,fun b hb=>by rw [zbk6.mp hb];exact a3,R1,fun b hb=>by rw [zbk6.mp hb];exact .inl a7,a6⟩ (.lst a4 (RepDs.of_flat f a5))⟩
 ·rename_i d0 q
  cases e
  obtain⟨v,B,A',a1,R1,a3,a4,a5,a6,a7⟩:=R.takeDp q
  exact⟨v,a1,h v H B A' ⟨Same.refl H,a3,a4,R1,fun b hb=>.inl (a7 b hb),a6⟩ a5⟩
 ·rename_i d0 q
  split at e
  case isFalse=>cases e
  rename_i f
  cases e
  obtain⟨v,h1,h2⟩:=R.rel.getVal q
  exact⟨v,h1,h v H [] A ⟨Same.refl H,zbm2,fun b hb=>(by cases hb),R,fun b hb=>(by cases hb),fun b hb=>hb⟩ (.flat f h2)⟩
 ·cases e
def mOf (f:DE):DM:=fun t=>(f t).bind fun r=>(toDn r).map fun d=>(d,t)
theorem zbd7 {A B F:List Addr}{H:Hp}:Same (hide (B++(A++F)) H) (hide (A++(B++F)) H):=zb3 H fun x hx=>by
 rcases zbj4.mp hx with z | z
 ·exact zbi9 _ (zbj1 _ z)
 ·rcases zbj4.mp z with z | z
  ·exact zbj1 _ z
  ·exact zbi9 _ (zbi9 _ z)
theorem pm_of (he:PE X a (dE X.K F fa)):PE X a (dM X.K F (mOf fa)):=by
 refine PE.imp he ?_
 rintro σ H Q ⟨A,t,d,t',R,e,h⟩
 unfold mOf at e
 cases e1:fa t with
 |none=>rw [e1]at e;cases e
 |some r =>
  rw [e1]at e
  simp only [zbj3]at e
  cases e2:toDn r with
  |none=>rw [e2]at e;cases e
  |some d0 =>
   rw [e2]at e
   cases e
   refine⟨A,t,r,R,e1,fun v H' gs q=>?_⟩
   obtain⟨B,b1,b2,b3⟩:=q.toDn R.mu gs e2
   exact h v H' B A ⟨gs,b1,fun b hb z=>zd6 R.mu (b2 b hb) (zbi9 _ z),R.aside gs b2 b3.lists,fun b hb=>.inr (b2 b hb),fun b hb=>hb⟩ (RepD.mono zbd7 b3 fun _ _ _ w=>w)
def mNil:DMs:=fun t=>some ([],t)
def zae7 (f:DM) (g:DMs):DMs:=fun t=>(f t).bind fun q=>(g q.2).bind fun w=>some (q.1::w.1,w.2)
theorem pms_nil:PA X [] (dMs X.K F mNil):=PA.imp zp0 fun σ H Q ⟨A,t,ds,t',R,e,h⟩=>by cases e;exact h [] H [] A ⟨Same.refl H,zbm2,fun b hb=>(by cases hb),R,fun b hb=>(by cases hb),fun b hb=>hb⟩ .nil
theorem zar5 (ha:∀F,PE X a (dM X.K F fn)) (hr:∀F,PA X es (dMs X.K F fns)) (hs:zbl2 (a::es) X.env=(false,eval a X.env)::zbl2 es X.env:=by rfl):PA X (a::es) (dMs X.K F (zae7 fn fns)):=by
 intro p pins s σ H Q I h
 obtain⟨A,t,ds,t',R,e,h⟩:=h
 unfold zae7 at e
 cases e1:fn t with
 |none=>rw [e1]at e;cases e
 |some q1 =>
  obtain⟨d1,t1⟩:=q1
  rw [e1]at e
  simp only [zbj3]at e
  cases e2:fns t1 with
  |none=>rw [e2]at e;cases e
  |some q2 =>
   obtain⟨ds2,t2⟩:=q2
   rw [e2]at e
   cases e
   rw [hs]
   show wpAny _ _ (spliced ((false,eval a X.env)::zbs5 p (zbl2 es X.env))) _ _ s
   refine Calls.spliced_cons (thn (ha F pins s σ H (fun v H1 => ∃B1 A1,Mv X.K F A H H1 B1 A1 t1 σ∧RepD X.K (hide (A1++(B1++F)) H1) H1 d1 v B1) I ⟨A,t,d1,t1,R,e1,fun v H1 B1 A1 m1 r1=>⟨B1,A1,m1,r1⟩⟩) fun u s1 ⟨x,H1,I1,rx,B1,A1,m1,r1⟩=>?_)
   refine thn (hr (B1++F) p pins s1 σ H1 (fun vs H2=>Q (x::vs) H2) I1 ⟨A1,t1,ds2,t2,m1.rs,e2,fun vs H2 B2 A2 m2 r2=>?_⟩) fun us s2 ⟨xs,H2,I2,rx2,q2⟩=>⟨x::xs,H2,I2,.cons rx rx2,q2⟩
   have l1:Lists H2 B1:=r1.lists.mono m2.sm
   have d21:∀b∈B2,b∉B1:=fun b hb z=>m2.dj b hb (zbj1 _ z)
   have mem:∀x,x∈A2++((B1++B2)++F)→x∈A2++(B2++(B1++F)):=fun x hx=>by
    simp only [zbj4]at hx ⊢
    rcases hx with z | (z | z) |z
    ·exact .inl z
    ·exact .inr (.inr (.inl z))
    ·exact .inr (.inl z)
    ·exact .inr (.inr (.inr z))
   have mem':∀x,x∈(B1++B2)++F→x∈B2++(B1++F):=fun x hx=>by
    simp only [zbj4]at hx ⊢
    rcases hx with (z | z) |z
    ·exact .inr (.inl z)
    ·exact .inl z
    ·exact .inr (.inr z)
   refine h (x::vs) H2 (B1++B2) A2 ⟨m1.sm.trans m2.sm,zbl0.mpr ⟨m1.nd,m2.nd,fun y hy z hz e=>d21 z hz (e ▸ hy)⟩,fun b hb=>?_,m2.rs.less mem',fun b hb=>?_,fun b hb=>m1.sb b (m2.sb b hb)⟩ (.cons (B:=B1) (C:=B2) (RepD.hid (fun y hy=>m2.rs.mu y (mem y hy)) (zb7 _ _) (RepD.mono (H0':=hide B1 H2) (fun b o w=>?_) r1 fun _ _ _ w=>m2.sm _ _ w)) (RepDs.mono (zb3 H2 mem) r2 fun _ _ _ w=>w))
   ·rcases zbj4.mp hb with z | z
    ·exact m1.dj b z
    ·exact fun w=>m2.dj b z (zbi9 _ w)
   ·rcases zbj4.mp hb with z | z
    ·exact m1.fr b z
    ·rcases m2.fr b z with w | w
     ·exact .inl (m1.sb b w)
     ·exact .inr (Same.free m1.sm w)
   ·obtain⟨n,w⟩:=zl8 w
    exact zd0 (m2.sm _ _ w) fun z=>n (zbi9 _ (zbj1 _ z))
def mTup (g:DMs):DM:=fun t=>(g t).bind fun q=>if q.1.length≤1000 then some (.tup q.1,q.2) else none
theorem pm_tup {x1} (h:PA X es (dMs X.K F fns)):PE X (.Tuple es x1 pos) (dM X.K F (mTup fns)):=by
 refine PE.imp (pe_tup h) ?_
 rintro σ H Q ⟨A,t,d,t',R,e,h⟩
 unfold mTup at e
 cases e1:fns t with
 |none=>rw [e1]at e;cases e
 |some q =>
  obtain⟨ds,t2⟩:=q
  rw [e1]at e
  simp only [zbj3]at e
  split at e
  case isFalse=>cases e
  rename_i hl
  cases e
  refine⟨A,t,ds,t',R,e1,fun vs H1 B A1 m1 r1=>⟨by rw [r1.length];exact le_line (by lia),fun p hp=>?_⟩⟩
  have s1:=zd4 (o:=HO.tup vs) hp
  have np:p∉A1++(B++F):=zd6 m1.rs.mu hp
  exact h _ _ B A1 ⟨m1.sm.trans s1,m1.nd,m1.dj,m1.rs.grow s1,m1.fr,m1.sb⟩ (.tup (SqT.of (zd0 zc1 np)) (RepDs.mono (zb6 s1) r1 fun _ _ _ w=>s1 _ _ w))
def zaw8 (f:DM):DS:=fun t=>(f t).bind fun q=>some (.rt (.dn q.1))
theorem psd_retM (ha:PE X a (dM X.K F fn)):PS X (.Return (some a) pos) (dS X.K F (zaw8 fn)):=by
 refine PS.imp (zaz3 ha) ?_
 rintro E σ H ⟨A,t,o,R,e,h⟩
 unfold zaw8 at e
 cases e1:fn t with
 |none=>rw [e1]at e;cases e
 |some q =>
  rw [e1]at e
  cases e
  refine⟨A,t,q.1,q.2,R,e1,fun v H' B A' m r1=>h v H' A (Gr.of_same R.mu.left m.sm) ⟨B,m.nd,fun b hb=>⟨m.fr b hb,m.dj b hb⟩,RepD.mono (zb3 H' fun a z=>zbi9 _ z) r1 fun _ _ _ w=>w⟩⟩
end
end DL
namespace TS
section
variable (κ π:Keyed→Int)
def rk (x:Keyed):Int:=κ x*1048576+π x
def Ris (l:List Keyed):Prop:=l.Pairwise fun a b=>rk κ π a≤rk κ π b
def Below (l m:List Keyed):Prop := ∀a∈l,∀b∈m,rk κ π a≤rk κ π b
variable {κ π}
structure Lo (X Y out:List Keyed) (i j:Nat):Prop where
 pm:out.Perm (X.take i++Y.take j)
 rs:Ris κ π out
 bx:Below κ π out (X.drop i)
 by':Below κ π out (Y.drop j)
variable {X Y out:List Keyed}{i j:Nat}
structure Hi (X Y out:List Keyed) (i j:Nat):Prop where
 pm:out.Perm (X.drop i++Y.drop j)
 rs:Ris κ π out.reverse
 bx:Below κ π (X.take i) out
 by':Below κ π (Y.take j) out
end
end TS
namespace TS
structure Cmp (M:Model) (A:Around) (E:Value→zbk7→Prop) (s:zbk7) (κ π:Keyed→Int) (a₀:Array Keyed) (kd:SortKind):Prop where
 lt:∀(st:SortSt) (x y:Keyed) (Q:Option Bool→SortSt→Prop),kindOf st=kd→x∈a₀.toList→y∈a₀.toList→Q (some (decide (κ x<κ y))) st→wpS M A E s (lt' x y) Q st
 pi:∀x∈a₀.toList,0≤π x∧π x<1048576
section
variable {M:Model}{A:Around}{E:Value→zbk7→Prop}{s:zbk7}{κ π:Keyed→Int}{a₀:Array Keyed}{kd:SortKind} (C:Cmp M A E s κ π a₀ kd)
structure SameS (st st':SortSt):Prop where
 arr:arrOf st'=arrOf st
 knd:kindOf st'=kindOf st
 pnd:pendingOf st'=pendingOf st
 fld:failedOf st'=failedOf st
theorem SameS.trans {a b c:SortSt} (h:SameS a b) (g:SameS b c):SameS a c:=⟨g.arr.trans h.arr,g.knd.trans h.knd,g.pnd.trans h.pnd,g.fld.trans h.fld⟩
structure Two (κ π:Keyed→Int) (a₀:Array Keyed) (xs ys:Array Keyed):Prop where
 mx:∀x∈xs.toList,x∈a₀.toList
 my:∀y∈ys.toList,y∈a₀.toList
 rx:Ris κ π xs.toList
 ry:Ris κ π ys.toList
 sep:∀x∈xs.toList,∀y∈ys.toList,π x≤π y
 px:0<xs.size
 py:0<ys.size
 first:∀x y,xs[0]?=some x→ys[0]?=some y→κ y<κ x
 last:∀x,xs[xs.size - 1]?=some x→∀y∈ys.toList,κ y<κ x
variable {xs ys:Array Keyed}{st:SortSt} (hk:kindOf st=kd) (T:Two κ π a₀ xs ys)
end
end TS
namespace TS
section
variable {M:Model}{A:Around}{E:Value→zbk7→Prop}{s:zbk7}{κ π:Keyed→Int}{a₀:Array Keyed}{kd:SortKind} (C:Cmp M A E s κ π a₀ kd)
def sepL (π:Keyed→Int) (l m:List Keyed):Prop := ∀a∈l,∀b∈m,π a≤π b
end
end TS
namespace TS
def kA (f:Keyed→Int) (xs:Array Keyed) (i:Nat):Int:=match xs[i]? with
 |some p=>f p
 |none=>0
structure Chg (xs zs:Array Keyed) (lo hi:Nat):Prop where
 pm:zs.Perm xs
 out:∀i,i<lo∨hi≤i→zs[i]?=xs[i]?
 ins:∀i,lo≤i→i<hi→∃j,lo≤j∧j<hi∧zs[i]?=xs[j]?
theorem Chg.size {xs zs:Array Keyed}{lo hi:Nat} (h:Chg xs zs lo hi):zs.size=xs.size:=h.pm.size_eq
section
variable {M:Model}{A:Around}{E:Value→zbk7→Prop}{s:zbk7}{κ π:Keyed→Int}{a₀:Array Keyed}{kd:SortKind} (C:Cmp M A E s κ π a₀ kd)
def rA (κ π:Keyed→Int) (xs:Array Keyed) (i:Nat):Int:=kA κ xs i*1048576+kA π xs i
structure TB (a₀:Array Keyed) (kd:SortKind) (st:SortSt):Prop where
 pm:(arrOf st).Perm a₀
 kind:kindOf st=kd
 fld:failedOf st=none
theorem TB.size {st:SortSt} (h:TB a₀ kd st):(arrOf st).size=a₀.size:=h.pm.size_eq
end
end TS
namespace TS
section
variable {M:Model}{A:Around}{E:Value→zbk7→Prop}{s:zbk7}{κ π:Keyed→Int}{a₀:Array Keyed}{kd:SortKind} (C:Cmp M A E s κ π a₀ kd)
structure Dn (κ π:Keyed→Int) (a₀:Array Keyed) (kd:SortKind) (st0:SortSt) (lo x q:Nat) (st:SortSt):Prop where
 tb:TB a₀ kd st
 pd:pendingOf st=pendingOf st0
 ch:Chg (arrOf st0) (arrOf st) lo (lo+x)
 le:q+1≤x
 un:∀i,lo+x - (q+1)≤i→(arrOf st)[i]?=(arrOf st0)[i]?
 eq:∀i,lo+x - (q+1)≤i→i<lo+x→kA κ (arrOf st) i=kA κ (arrOf st) (lo+x - 1)
 fl:∀i j,lo≤i→i≤j→j<lo+x - (q+1)→rA κ π (arrOf st) j≤rA κ π (arrOf st) i
 gt:∀i,lo≤i→i<lo+x - (q+1)→kA κ (arrOf st) (lo+x - 1)<kA κ (arrOf st) i
end
end TS
namespace TS
noncomputable def MatchP:Nat→List (List Keyed)→List (Nat×Nat×Nat)→Prop
 |_,[],[]=>True
 |lo,L::Ls,q::ps=>q.1=lo∧q.2.1=L.length∧MatchP (lo+L.length) Ls ps
 |_,_,_=>False
section
variable {M:Model}{A:Around}{E:Value→zbk7→Prop}{s:zbk7}{κ π:Keyed→Int}{a₀:Array Keyed}{kd:SortKind} (C:Cmp M A E s κ π a₀ kd)
structure Runs (κ π:Keyed→Int) (a₀:Array Keyed) (kd:SortKind) (st:SortSt) (Ls:List (List Keyed)) (post:List Keyed):Prop where
 tb:TB a₀ kd st
 ar:(arrOf st).toList=Ls.flatten++post
 mt:MatchP 0 Ls (pendingOf st).toList
 ok:∀L∈Ls,Ris κ π L∧L≠[]
 sp:Ls.Pairwise (sepL π)
end
end TS
namespace TS
section
variable {M:Model}{A:Around}{E:Value→zbk7→Prop}{s:zbk7}{κ π:Keyed→Int}{a₀:Array Keyed}{kd:SortKind} (C:Cmp M A E s κ π a₀ kd)
structure Btw (κ π:Keyed→Int) (a₀:Array Keyed) (kd:SortKind) (lo:Nat) (st:SortSt) (Ls:List (List Keyed)) (rest:List Keyed):Prop where
 rn:Runs κ π a₀ kd st Ls rest
 ln:Ls.flatten.length=lo
 sp:sepL π Ls.flatten rest
 up:rest.Pairwise fun a b=>π a≤π b
end
end TS
namespace DL
open PySem.Spec L2 TS
def zb4 (n:Nat):List Int:=(zbl9 n).map fun (i:Nat)=>(i:Int)
theorem zba9 {n i:Nat}{x:Int} (h:(zb4 n)[i]?=some x):x=(i:Int)∧i<n:=by
 unfold zb4 at h
 rw [zbo4]at h
 cases e:(zbl9 n)[i]? with
 |none=>rw [e]at h;cases h
 |some j =>
  rw [e]at h
  obtain⟨h1,h2⟩:=zbr0.mp e
  simp at h1 h2
  cases h
  exact⟨by rw [h2],h1⟩
theorem zy1 {i:Int} (h0:0≤i) (h1:i≤100000):Builtin.Range.rangeFitsLong i=true:=by
 unfold Builtin.Range.rangeFitsLong
 have e:(2:Int) ^ 63=9223372036854775808:=by decide
 rw [e]
 simp only [zbj5,decide_eq_true_eq]
 lia
theorem small_of {n:Int} (h0:0≤n) (h1:n≤100000):Builtin.Range.small 0 n 1=true:=by
 have rs:Builtin.Range.rangeSize 0 n 1=n:=by simp only [Builtin.Range.rangeSize];lia
 unfold Builtin.Range.small
 rw [rs,zy1 (i:=0) (by lia) (by lia),zy1 h0 h1,zy1 (i:=1) (by lia) (by lia),if_pos (by lia),zy1 (i:=n+(1 - 1)) (by lia) (by lia),zbs4]
 rfl
end DL
namespace DL
open PySem.Spec L2
noncomputable def dSJ (K:zbj0) (F:List Addr) (J:List Nat) (g:DS):TS:=fun E σ H => ∃A t t',RS K F H A t σ∧g t=some (.nx t')∧∀σ' H' A',Gr A H A' H'→RS K F H' A' t' σ'→(∀k,k∉J→σ'[k]?=σ[k]?)→E.nx σ' H'
section
variable {X:Cx}{F:List Addr}{a b c:Expr}{fa fb fc:DE}{g g1 g2:DS}{ft fu:DT}{pos:Pos}{st:Stmt}{rest:List Stmt}{J:List Nat}
theorem zay9 (h:PS X st (dSJ X.K F J g)):PSs X [st] (dSJ X.K F J g):=zay8 h
noncomputable def forJ (k:D→Th→Option Th) (body:DS):List D→Th→Option Th
 |[],t=>some t
 |d::ds,t=>(k d t).bind fun t1=>match body t1 with
  |some (.nx t')=>forJ k body ds t'
  |_=>none
noncomputable def dForO (i j:Nat) (g:DS):DS:=fun t=>match t[i]? with
 |some (.own xs)=>(forJ (za6 j) g xs (t.set i .no)).bind fun t'=>if i<t'.length then some (.nx (t'.set i (.own xs))) else none
 |_=>none
theorem RS.putList {K:zbj0}{F A:List Addr}{H:Hp}{t:Th}{σ:L2.St}{i:Nat}{p:Addr}{xs:List D}{vs:List V} (R:RS K ([p]++F) H A t σ) (dj:p∉F) (hp:H p=some (.lst vs)) (r:Reps K (hide (A++([p]++F)) H) xs vs) (hi:i<t.length) (hs:σ[i]?=some (some (.ref p))) :
  ∃A',(∀x∈A',x=p∨x∈A)∧RS K F H A' (t.set i (.own xs)) σ:=by
 obtain⟨A2,r2,sub2,nd2⟩:=RSl.setAny (s:=.own xs) (v:=.ref p) (B:=[p]) (fun q=>.own hp r q) i R.rel hi
 have es:σ.set i (some (.ref p))=σ:=by
  apply List.ext_getElem?
  intro k
  rw [List.getElem?_set]
  split
  ·rename_i e;subst e
   split
   ·exact hs.symm
   ·rename_i hl;rw [zbv2 (by lia)]at hs;cases hs
  ·rfl
 rw [es]at r2
 have sub:∀x∈A2,x=p∨x∈A:=fun x hx=>(sub2 x hx).imp (fun z=>zbk6.mp z) id
 refine⟨A2,sub,⟨fun q hq=>?_,nd2 R.nd (by simp) (fun b hb z=>R.dj b z (zbj1 _ hb)),fun q hq=>?_,RSl.mono (zb3 H fun x hx=>?_) r2 fun _ _ _ w=>w⟩⟩
 ·rcases zbj4.mp hq with z | z
  ·rcases sub q z with w | w
   ·rw [w];exact⟨mL vs,hp⟩
   ·exact R.mu q (zbj1 _ w)
  ·exact R.mu q (zbi9 _ (zbi9 _ z))
 ·rcases sub q hq with w | w
  ·rw [w];exact dj
  ·exact fun z=>R.dj q w (zbi9 _ z)
 ·rcases zbj4.mp hx with z | z
  ·rcases sub x z with w | w
   ·rw [w];exact zbi9 _ (zbj1 _ (zbk6.mpr rfl))
   ·exact zbj1 _ w
  ·exact zbi9 _ (zbi9 _ z)
theorem psd_forO {body:List Stmt}{i j:Nat}{x y:Str}{px pt:Pos} (J:List Nat) (hij:i∉J) (hjJ:j∈J) (hp:PassesOwn (model X.prog X.w) X.A X.env X.xe) (hc:X.calm=true) (hN:X.N[i]?=some x) (hg:PG X (.Name y pt) (zaw6 j)) (hb:∀F,PSs X body (dSJ X.K F J g))
  (hv:Vis X.env.scope x:=by first | exact Or.inl rfl | exact Or.inr (Or.inl rfl) |exact Or.inr (Or.inr rfl)) (hd:(x ==("__debug__":Str))=false:=by decide) (hcd:(x ==("__classdict__":Str))=false:=by decide) (hs:∀z,foldedSetIterable (.Name x px) X.env z=pure z:=by intro _;rfl) :
  PS X (.For (.Name y pt) (.Name x px) body [] pos) (dS X.K F (dForO i j g)):=by
 intro pins s σ H E I h
 obtain⟨A,t,o,R,e,h⟩:=zap2 h
 unfold dForO at e
 split at e
 case h_2=>cases e
 rename_i xs zi
 cases ef:forJ (za6 j) g xs (t.set i .no) with
 |none=>rw [ef]at e;cases e
 |some te =>
   rw [ef]at e
   simp only [zbj3]at e
   split at e
   case isFalse=>cases e
   rename_i hil
   cases e
   obtain⟨p,vs,A',a1,R1,a3,a4,a5,a6,a7⟩:=R.takeOwn zi
   refine (zah4 (tb:=dSJ X.K ([p]++F) J g) hp hc (zae2 (zt4 (i:=i) hN hv hd hcd)) hg (hb _) hs) pins s σ H E I ?_
   refine⟨_,a1,p,rfl,⟨vs,SqL.of a4⟩,?_⟩
   have gr0:∀A1 H1,Gr A' H A1 H1→Gr A H (p::A1) H1:=fun A1 H1 gr=>by
    have pA':p∉A':=fun z=>R1.dj p z (zbj1 _ (zbk6.mpr rfl))
    refine⟨fun b o n w=>gr.kp b o (fun z=>n (a6 b z)) w,fun b hb=>?_,fun b hb=>?_⟩
    ·by_cases z:b∈A'
     ·exact gr.al b z
     ·obtain⟨us,u⟩:=R.mu b (zbj1 _ hb)
      rw [gr.kp b _ z u];simp
    ·rcases zbj9.mp hb with z | z
     ·rw [z];exact .inl a7
     ·rcases gr.nw b z with w | w
      ·exact .inl (a6 b w)
      ·exact .inr w
   refine⟨fun k m σ1 H1=>k+m=xs.length∧∃A1 t1,Gr A' H A1 H1∧RS X.K ([p]++F) H1 A1 t1 σ1∧σ1[i]?=some (some (.ref p))∧H1 p=some (.lst vs)∧Reps X.K (hide (A1++([p]++F)) H1) xs vs∧forJ (za6 j) g (xs.drop k) t1=some te,⟨xs.length,by lia,A',_,Gr.refl R1.mu.left,R1,a1,a4,a5,by simpa using ef⟩,?_⟩
   rintro k m σ1 H1 ⟨hm,A1,t1,gr,R2,s1,hp1,r1,e1⟩
   cases m with
   |zero =>
    have z:k=xs.length:=by lia
    subst z
    rw [zbq3]at e1
    cases e1
    refine .inl ⟨⟨vs,SqL.of hp1,by rw [r1.length];exact zbl1 _⟩,?_⟩
    obtain⟨A2,sub,R3⟩:=R2.putList (i:=i) a3 hp1 r1 hil s1
    refine h σ1 H1 A2 ?_ R3
    have g2:=gr0 A1 H1 gr
    refine⟨g2.kp,g2.al,fun b hb=>g2.nw b ?_⟩
    rcases sub b hb with w | w
    ·rw [w];exact zbj7 ..
    ·exact zbj2 _ w
   |succ m =>
    have hk:k<xs.length:=by lia
    have hk':k<vs.length:=by rw [r1.length];exact hk
    refine .inr ⟨⟨vs,vs[k],SqL.of hp1,zbj6 hk'⟩,fun σ2 H2=>k+1+m=xs.length∧∃A1 t1,Gr A' H A1 H2∧RS X.K ([p]++F) H2 A1 t1 σ2∧σ2[i]?=some (some (.ref p))∧H2 p=some (.lst vs)∧Reps X.K (hide (A1++([p]++F)) H2) xs vs∧forJ (za6 j) g (xs.drop (k+1)) t1=some te,fun σ2 H2 q=>⟨m,zbo2 m,q⟩,fun w H2 yl=>?_⟩
    obtain⟨ey,ew⟩:=yl
    subst ey
    have hw:=ew vs (SqL.of hp1)
    obtain⟨d,hd',rd⟩:=r1.getV hw
    have ed:xs.drop k=d::xs.drop (k+1):=by
     rw [zbm6 hk]
     rw [zbj6 hk]at hd'
     cases hd';rfl
    rw [ed]at e1
    simp only [forJ]at e1
    cases e2:za6 j d t1 with
    |none=>rw [e2]at e1;cases e1
    |some t2 =>
     rw [e2]at e1
     simp only [zbj3]at e1
     obtain⟨A2,gr2,R3⟩:=R2.put (i:=j) (r:=.cl d) (v:=w) (t':=t2) (Same.refl _) rd e2
     cases e3:g t2 with
     |none=>rw [e3]at e1;cases e1
     |some o3 =>
      rw [e3]at e1
      have nji:j≠i:=fun z=>hij (z ▸ hjJ)
      cases o3 with
      |bk t3=>cases e1
      |rt r=>cases e1
      |ct t3=>cases e1
      |nx t3 =>
       refine⟨A2,t2,t3,R3,e3,fun σ3 H3 A3 gr3 R4 q3=>⟨by lia,A3,t3,(gr.trans gr2).trans gr3,R4,?_,?_,?_,e1⟩⟩
       ·rw [q3 i hij,zbt4 nji];exact s1
       ·exact gr3.kp p _ (fun z=>R3.dj p z (zbj1 _ (zbk6.mpr rfl))) hp1
       ·exact Reps.mono gr3.same (Reps.mono gr2.same r1)
end
end DL
namespace DL
open PySem.Spec L2
section
variable {X:Cx}{F:List Addr}
noncomputable def zbd2:List Ev→Option Ev:=fun rs=>match rs with
 |[r]=>(match r.d with
  |.bl b=>some (.cl (.int (if b then 1 else 0)))
  |_=>none)
 |_=>none
theorem zbh8:zm7 X (.type "int") (fun xs H Q => ∃b:Bool,xs=[.bl b]∧Q (.int (if b then 1 else 0)) H):=by
 intro pins s σ H xs us Q I r h
 obtain⟨b,rfl,q⟩:=h
 obtain⟨u,rfl,ru⟩:=zw9 r
 cases ru
 exact PySem.call_int_bool ⟨.int _,H,I.tok _,⟨_,rfl⟩,q⟩
theorem zbg8:CallD X F (.type "int") zbd2:=CallD.of zbh8 fun H0 H A xs rs e Q m g q ek hq=>by
 unfold zbd2 at ek
 split at ek
 case h_2=>cases ek
 cases q with
 |cons q1 q2 =>
  cases q2
  split at ek
  case h_2=>cases ek
  rename_i b z
  cases ek
  have p:=q1.full
  rw [z]at p
  cases p
  exact⟨b,rfl,hq _ H (Same.refl H) (.int _)⟩
end
def zao7 (i:Nat):Th→Nat:=fun t=>match t[i]? with
 |some (.val (.int n))=>n.natAbs+1
 |_=>0
end DL
namespace TS
section
variable {prog:Program}{w:World}{A:Around}{E:Value→zbk7→Prop}{s:zbk7}
theorem zip_same {α:Type}:∀l:List α,l.zip l=l.map fun x=>(x,x)
 |[]=>rfl
 |x::l=>by rw [zbq0,zip_same l];rfl
end
end TS
namespace DL
open PySem.Spec L2
noncomputable def spT (K:zbj0) (G:D→List D→List D→D→Option (List Int×List Int)):Sp:=fun vs H Q _ => ∃(v0 v3:V) (p q:Addr) (ws us:List V) (d0 d3:D) (xs ys:List D) (r:List Int×List Int),vs=[v0,.ref p,.ref q,v3]∧p≠q∧H p=some (.lst ws)∧H q=some (.lst us) ∧
 Rep K (hide [p,q] H) d0 v0∧Reps K (hide [p,q] H) xs ws∧Reps K (hide [p,q] H) ys us∧Rep K (hide [p,q] H) d3 v3∧G d0 xs ys d3=some r ∧
 ∀H',(∀b o,b≠p→b≠q→H b=some o→H' b=some o)→H' p=some (.lst (r.1.map V.int))→H' q=some (.lst (r.2.map V.int))→Q .non H'
structure CalT (P:Program) (w:World) (K:zbj0) (mg:Str→Option Value) (base:BHeap) (x:Str) (k:Nat) (G:D→List D→List D→D→Option (List Int×List Int)):Prop where
 ex:∃(a:Addr) (fd:FuncData) (ps:List Str),mg x=some (.ref a)∧zbo8 K (.ref a)=true∧L2.Binds K fd ps []∧FnOk P w K mg base CX0 k a fd ps (spT K G)
section
variable {X:Cx}{F:List Addr}
def cShr (i j:Int):Bool:=decide (0≤j)
theorem od_shr:OpD X F (binaryOp .RShift) (kI cShr fun i j=>.int (i / 2 ^ j.toNat)):=zz7 op_shr (fun i j h=>by simpa [cShr] using h) fun _ _ _=>.int _
theorem od_and:OpD X F (binaryOp .BitAnd) (kI tt2 fun i j=>.int (Builtin.bitAnd i j)):=zz7 (zau6 op_and) (fun _ _ _=>trivial) fun _ _ _=>.int _
end
end DL
namespace TS
theorem zba7:typeLookup (.type "list_reverseiterator") "__len__"=pure none:=by rw [typeLookup_type,builtinLookup_eq_fast];kernel_rfl
theorem hint_lri:typeLookup (.type "list_reverseiterator") "__length_hint__"=pure (some (.builtin "list_reverseiterator.__length_hint__")):=by rw [typeLookup_type,builtinLookup_eq_fast];kernel_rfl
section
variable {prog:Program}{w:World}{A:Around}{E:Value→zbk7→Prop}{s:zbk7}
theorem ext_rev {R:Result→zbk7→Prop} (hh:A.handled=none) {I l:Addr}{items:Array Value} (ne:l≠I) (ki:s.heap.IsRevIter I l ((items.size:Int) - 1)) (hl:s.heap.IsList l items) (hz:items.size≤100000) (S:Addr) (SI:S≠I) (Sl:S≠l) (res:Value) (c₀:Nat) (hS:s.heap.get? S=some { cls:=.type "list",data:=.seq #[] c₀ })
  (hR:∀h' tk acc c,(∀b o,b≠S→b≠I→s.heap.get? b=some o→h'.get? b=some o)→h'.get? S=some { cls:=.type "list",dict:=none,data:=.seq acc c,slots := #[] }→acc.toList=items.toList.reverse→R (.ok (.ret res)) { s with heap:=h',toks:=tk }) :
  wpAny (model prog w) A.in1 (Builtin.List.listExtendWith (.ref S) (.ref I) res) (fun fin s'=>match fin with | .done f=>R (.ok f) s' | .again c'=>c'.quiet=true∧codeAny (model prog w) A c' R s') (fun e s'=>R (.error e) s') s:=by
 have W:=(Walks.listRev (prog:=prog) (w:=w) (A:=A.in1) hh I l ne items).toS
 have ty:=ki.typeIs
 have h1:Builtin.List.listSameRef (.ref S) (.ref I)=false:=by simp [Builtin.List.listSameRef,SI]
 have st:(0:Nat)≤items.size∧s.heap.IsRevIter I l ((items.size:Int) - 1 - ((0:Nat):Int))∧s.heap.IsList l items:=⟨zbw4 _,by simpa using ki,hl⟩
 have nS:S∉[I,l]:=by simp [SI,Sl]
 have key:∀(h:Heap) (c₁ tk:Nat),(0≤items.size∧h.IsRevIter I l ((items.size:Int) - 1 - ((0:Nat):Int))∧h.IsList l items)→(∀b o,b≠S→s.heap.get? b=some o→h.get? b=some o)→h.get? S=some { cls:=.type "list",data:=.seq #[] c₁ } →
   codeAny (model prog w) A (.builtin "list.extend.loop" ⟨[.ref S,.ref I,res],[]⟩) R { s with heap:=h,toks:=tk }:=by
  intro h c₁ tk st' hk' g1
  refine codeAny_extend_loopS W (by rw [sizeLine_eq];lia) S nS res items.size 0 _ #[] c₁ rfl (zbw4 _) st' g1 (ItemsOf.nil _) fun s' acc' c' hm hS' hacc=>?_
  rw [Moved.eq_with hm]
  refine hR s'.heap s'.toks acc' c' (fun b o hb hi e=>hm.heap b o (fun hmem=>?_) (hk' b o hb e)) hS' ?_
  ·rcases zbj9.mp hmem with e' |hmem
   ·exact hb e'
   ·exact hi (zbk6.mp hmem)
  ·obtain⟨a1,a2⟩:=hacc
   have a1:acc'.size=items.size:=a1
   refine zby3 (by simp [a1]) fun i u v=>?_
   have hi:i<acc'.size:=by simpa using u
   have:items[items.size - 1 - i]?=some acc'[i]:=a2 i acc'[i] (by simp [hi])
   rw [zbw6 (by lia)]at this
   simpa [List.getElem_reverse] using (Option.some.inj this).symm
 unfold Builtin.List.listExtendWith
 refine zbk2 (wpAny_typeOf ty ?_)
 rw [if_neg (by rw [h1];decide)]
 refine zbk2 (wpAny_pyIter_revIter ki ?_)
 refine zbk2 (wpAny_holding ?_)
 unfold Builtin.List.listLengthHint
 refine zbk2 (wpAny_specialOf ty zba7 ?_)
 show wpAny _ A.in1 (specialOf (Value.ref I) (Str.ofString "__length_hint__") >>= _) _ _ _
 refine zbk2 (wpAny_specialOf ty hint_lri ?_)
 generalize hid:("list_reverseiterator.__length_hint__":String)=id0
 wp_delta
 rw [show splitId id0=some ("list_reverseiterator", "__length_hint__") from by subst hid;decide +kernel]
 subst hid
 refine zbk2 (wpAny_isInstance (b:=true) ty (by rw [isSubtype_type];kernel_rfl) ?_)
 refine zbm0 ?_
 rw [if_neg (by decide)]
 exact zbm0 ⟨plainId_quiet F.plain_extend_loop _,key _ c₀ s.toks st (fun b o _ e=>e) hS⟩
theorem zaf7 {Q:Value→zbk7→Prop} (hh:A.handled=none) {I l:Addr}{items:Array Value} (ne:l≠I) (ki:s.heap.IsRevIter I l ((items.size:Int) - 1)) (hl:s.heap.IsList l items) (hz:items.size≤100000)
  (hQ:∀h' tk acc c,(∀b o,b≠I→s.heap.get? b=some o→h'.get? b=some o)→h'.get? s.heap.objs.size=some { cls:=.type "list",dict:=none,data:=.seq acc c,slots := #[] }→acc.toList=items.toList.reverse→Q (.ref s.heap.objs.size) { s with heap:=h',toks:=tk }) :
  wpAny (model prog w) A (call (.type "list") [.ref I]) Q E s:=by
 have hI:I<s.heap.objs.size:=by obtain⟨o,g,_⟩:=ki;exact zbk8 g
 have hL:l<s.heap.objs.size:=by obtain⟨o,g,_⟩:=hl;exact zbk8 g
 refine callType_codes (Q₁:=fun ob s₁=>ob=.ref s.heap.objs.size∧s₁={ s with heap:=s.heap.push { cls:=.type "list",data:=.seq #[] } }) F.called_list (F.typeCall_list_1 _) F.entry_list_init (code_list_new _ ⟨rfl,rfl⟩) fun ob s₁ h₁=>?_
 obtain⟨rfl,rfl⟩:=h₁
 have g0:(s.heap.push { cls:=.type "list",data:=.seq #[] }).get? s.heap.objs.size=some { cls:=.type "list",data:=.seq #[] }:=zbm7 _ rfl
 refine⟨⟨_,g0,rfl⟩,F.args_list_init_2 _ _,?_⟩
 show wpAny _ _ (do let old ← Builtin.List.listItems (.ref s.heap.objs.size);Builtin.List.listUpdate (.ref s.heap.objs.size) (fun _ => #[]);letGo old.toList.reverse;Builtin.List.listExtendWith (.ref s.heap.objs.size) (.ref I) .none) _ _ _
 refine zbk2 ?_
 unfold Builtin.List.listItems
 refine zbk2 (wpAny_seqItems g0 rfl (zbm0 ?_))
 show wpAny _ _ (updateSeq s.heap.objs.size (fun _ => #[]) >>= fun _=>letGo (#[]:Array Value).toList.reverse >>= fun _=>Builtin.List.listExtendWith (.ref s.heap.objs.size) (.ref I) .none) _ _ _
 refine zbk2 (wpAny_updateSeq g0 rfl ?_)
 have g1:=zbz1 (Obj.mapSeq (fun _=>(#[]:Array Value))) g0 rfl
 have ot:∀b o,s.heap.get? b=some o→((s.heap.push { cls:=.type "list",data:=.seq #[] }).update s.heap.objs.size (Obj.mapSeq (fun _=>(#[]:Array Value)))).get? b=some o:=fun b o e=>(zbu7 _ _ (zbr3 (zbk8 e))).trans (zbk0 _ e)
 refine zbk2 (wpAny_letGo ?_)
 refine ext_rev (A:=A.in1) hh ne (ki.at fun o e=>ot I o e) (hl.at fun o e=>ot l o e) hz s.heap.objs.size (zbr3 hI) (zbr3 hL) .none _ g1 fun h' tk acc c hk gS ea=>?_
 exact⟨rfl,hQ h' tk acc c (fun b o hb e=>hk b o (zbl7 (zbk8 e)) hb (ot b o e)) gS ea⟩
end
end TS
namespace L2
open PySem.Spec TS
section
variable {X:Cx}{a:Expr}{pos pos2:Pos}{te:TE}
noncomputable def tListRev (K:zbj0) (te:TE):TE:=fun σ H Q=>te σ H fun v H1 => ∃(p:Addr) (xs:List V),v=.ref p∧SqL K H1 p xs∧xs.length≤50000∧∀l,H1 l=none→Q (.ref l) (upd H1 l (.lst xs.reverse))
theorem zav0 {p1 p2:Pos} (hc:X.calm=true) (hg1:Gl X "list") (hm1:X.mg "list"=none) (hg2:Gl X "reversed") (hm2:X.mg "reversed"=none) (ha:PE X a te) (hst:zbl2 [a] X.env=[(false,eval a X.env)]:=by rfl) (hst2:zbl2 [.Call (.Name "reversed" p2) [a] [] pos2] X.env=[(false,eval (.Call (.Name "reversed" p2) [a] [] pos2) X.env)]:=by rfl)
  (hpl:(zbs5 pos2 (zbl2 [] X.env)).any (·.1)=false:=by rfl) (hpl2:(zbs5 pos (zbl2 [] X.env)).any (·.1)=false:=by rfl) :
  PE X (.Call (.Name "list" p1) [.Call (.Name "reversed" p2) [a] [] pos2] [] pos) (tListRev X.K te):=by
 intro pins s σ H Q I h
 refine wpAny_Call_Name_kw (zp1 I hg1 hm1 DL.bt_list ?_ (by decide) (by decide))
 refine PyProof.Rows.callWith_type1 ?_ hst2 hpl2
 rw [hst2]
 show wpAny _ _ (spliced ((false,eval (.Call (.Name "reversed" p2) [a] [] pos2) X.env)::zbs5 pos (zbl2 [] X.env))) _ _ s
 refine Calls.spliced_cons (wpAny_Call_Name_kw (zp1 I hg2 hm2 boot_reversed ?_ (by decide) (by decide)))
 refine PyProof.Rows.callWith_type1 ?_ hst hpl
 rw [hst]
 show wpAny _ _ (spliced ((false,eval a X.env)::zbs5 pos2 (zbl2 [] X.env))) _ _ s
 refine Calls.spliced_cons (thn (ha pins s σ H _ I h) fun u s1 ⟨x,H1,I1,r1,q1⟩=>Calls.spliced_nil ?_)
 obtain⟨p,xs,rfl,hs,hz,q⟩:=q1
 cases r1
 obtain⟨its,rv,pl,_⟩:=I1.list hs
 have hl:=rv.length
 have L1:=DL.PlainL.isL pl
 have pL:p<s1.heap.objs.size:=by obtain⟨o,g,_⟩:=L1;exact zbk8 g
 refine call_reversed_list L1 (Calls.spliced_nil ?_)
 have k1:∀b o,s1.heap.get? b=some o→(s1.heap.push (revObj p ((its.toArray.size:Int) - 1))).get? b=some o:=fun b o e=>zbk0 _ e
 refine zaf7 (s:={ s1 with heap:=s1.heap.push (revObj p ((its.toArray.size:Int) - 1)) }) (I1.ok.hd hc) (items:=its.toArray) (zbl7 pL) ⟨_,zbm7 _ rfl,rfl,rfl⟩ (L1.at fun o e=>k1 p o e) (by rw [zbl4];lia) fun h' tk acc c hk gS ea=>?_
 have fr:s1.heap.objs.size≤(s1.heap.push (revObj p ((its.toArray.size:Int) - 1))).objs.size:=by rw [zbs7];exact zce9 _
 refine⟨.ref _,_,I1.laid (o:=HO.lst xs.reverse) (fun b o e=>hk b o (zbl7 (zbk8 e)) (k1 b o e)) fr ⟨?_,acc.toList,c,?_,gS⟩,rfl,q _ (I1.hok.fresh fr)⟩
 ·rw [List.length_reverse];exact DL.le_line (by lia)
 ·rw [ea];exact rv.reverse
end
end L2
namespace DL
open PySem.Spec L2 TS
section
variable {X:Cx}{F:List Addr}{a:Expr}{fa:DE}{pos pos2:Pos}
noncomputable def zy2:List Ev→Option Ev:=fun rs=>match rs with
 |[r]=>(match r.d with
  |.lst ds=>if (r.ok||flats ds)&&decide (ds.length≤50000) then some (.nw ds.reverse) else none
  |_=>none)
 |_=>none
theorem zam9 {p1 p2:Pos} (hc:X.calm=true) (hg1:Gl X "list") (hm1:X.mg "list"=none) (hg2:Gl X "reversed") (hm2:X.mg "reversed"=none) (ha:PE X a (dE X.K F fa)) (hst:zbl2 [a] X.env=[(false,eval a X.env)]:=by rfl) (hst2:zbl2 [.Call (.Name "reversed" p2) [a] [] pos2] X.env=[(false,eval (.Call (.Name "reversed" p2) [a] [] pos2) X.env)]:=by rfl)
  (hpl:(zbs5 pos2 (zbl2 [] X.env)).any (·.1)=false:=by rfl) (hpl2:(zbs5 pos (zbl2 [] X.env)).any (·.1)=false:=by rfl) :
  PE X (.Call (.Name "list" p1) [.Call (.Name "reversed" p2) [a] [] pos2] [] pos) (dE X.K F (dT1 zy2 (za2 fa dNil))):=by
 refine PE.imp (zav0 hc hg1 hm1 hg2 hm2 ha hst hst2 hpl hpl2) ?_
 rintro σ H Q ⟨A,t,r,R,e,h⟩
 unfold dT1 za2 dNil at e
 cases e1:fa t with
 |none=>rw [e1]at e;cases e
 |some r1 =>
  rw [e1]at e
  simp only [zbj3]at e
  unfold zy2 at e
  simp only at e
  split at e
  case h_2=>cases e
  rename_i ds z
  split at e
  case isFalse=>cases e
  rename_i ok
  rw [zbj5,decide_eq_true_eq]at ok
  cases e
  refine⟨A,t,r1,R,e1,fun x H1 gs q=>?_⟩
  obtain⟨p,vs,rfl,h1,h2⟩:=q.items R.mu gs z ok.1
  exact⟨p,vs,rfl,h1,by rw [h2.length];exact ok.2,fun l hl=>h _ _ (gs.trans (zd4 hl)) ⟨l,_,rfl,Same.free gs hl,zc1,Reps.mono (zk2 hl) h2.rev⟩⟩
end
end DL
namespace TS
section
variable {prog:Program}{w:World}{A:Around}{E:Value→zbk7→Prop}{s:zbk7}
theorem zaj8 {I:Addr}{fp:List Addr}{items:Array Value}{St:Nat→Heap→Prop} (W:Walks prog w A I fp [I] items.size (fun i v=>items[i]?=some v) St):∀(n i:Nat) (s:zbk7) (Q:List Value→zbk7→Prop),St i s.heap→i+n≤items.size →
  (∀h' tk,St (i+n) h'→(∀b o,b≠I→s.heap.get? b=some o→h'.get? b=some o)→Q ((items.toList.drop i).take n) { s with heap:=h',toks:=tk })→wpAny (model prog w) A (draw (.ref I) n) Q E s
 |0,i,s,Q,st,_,hQ=>by
  show wpAny _ _ (pure []) Q E s
  exact zbm0 (by simpa using hQ s.heap s.toks st fun _ _ _ e=>e)
 |n+1,i,s,Q,st,hle,hQ=>by
  have lt:i<items.size:=by lia
  show wpAny _ _ (pyNext (.ref I) >>= _) Q E s
  refine zbk2 (W.item i s _ _ lt st fun v h1 tk p st1 k1=>?_)
  have ev:v=items[i]:=by
   rw [zbw6 lt]at p
   exact (Option.some.inj p).symm
  subst ev
  refine zbk2 (wpAny_holding (zaj8 W n (i+1) _ _ st1 (by lia) fun h2 tk2 st2 k2=>zbm0 ?_))
  have hd:items.toList.drop i=items[i]::items.toList.drop (i+1):=by simp [zbm6,lt]
  have:=hQ h2 tk2 (by rw [show i+(n+1)=i+1+n by lia];exact st2) fun b o nb e=>k2 b o nb (k1 b o (by simpa using nb) e)
  rw [hd,List.take_succ_cons]at this
  exact this
theorem zal5 {l:Addr}{items:Array Value}{targets:List (Bool×(Value→Sem Unit))}{Q:Unit→zbk7→Prop} (hh:A.handled=none) (hl:s.heap.IsList l items) (hn:targets.length=items.size) (hs:targets.findIdx? (·.1)=none)
  (h:∀h' tk,(∀b o,s.heap.get? b=some o→h'.get? b=some o)→wpAny (model prog w) A (assignInOrder (targets.map (·.2)) items.toList) Q E { s with heap:=h',toks:=tk }) :
  wpAny (model prog w) A (unpack (.ref l) targets) Q E s:=by
 have ll:l<s.heap.objs.size:=by obtain⟨o,g,_⟩:=hl;exact zbk8 g
 unfold unpack
 rw [hn,hs]
 refine zbk2 (wpAny_holding ?_)
 unfold unpackItems
 refine zbk2 ?_
 unfold notIterableAtAll
 refine zbk2 (wpAny_specialOf hl.typeIs F.slot_list_iter.lookup ?_)
 refine zbm0 ?_
 simp only [zbu2,if_false]
 refine zbk2 (wpAny_holding (wpAny_pyIter_list hl ?_))
 have W:=Walks.list (prog:=prog) (w:=w) (A:=A) hh s.heap.objs.size l (zbl7 ll) items
 refine zbk2 (wpAny_holding (zaj8 W items.size 0 _ _ ⟨⟨_,zbm7 _ rfl,rfl,rfl⟩,hl.push _⟩ (by lia) fun h1 tk st1 k1=>?_))
 have hall:List.take items.size (List.drop 0 items.toList)=items.toList:=by
  rw [List.drop_zero];exact zby5 (by simp)
 rw [hall,if_neg (by simp)]
 rw [zcd1]at st1
 refine zbk2 (wpAny_holding (W.done _ _ _ st1 fun h2 tk2 k2=>?_))
 simp only [Option.isSome_none,zbu2,if_false]
 refine zbm0 (h h2 tk2 fun b o e=>k2 b o (fun z=>absurd (zbk8 e) (by rw [zbk6.mp z];exact zbp5 _)) (k1 b o (zbl7 (zbk8 e)) (zbk0 _ e)))
end
end TS
namespace L2
open PySem.Spec TS
section
variable {X:Cx}{pos:Pos}
def gLst (K:zbj0) (n:Nat) (t:TGs):TG:=fun v σ H Q => ∃a xs,v=.ref a∧SqL K H a xs∧xs.length=n∧t xs σ H Q
theorem pg_lst {es:List Expr}{k:Nat}{t:TGs}{n:Nat} (hc:X.calm=true) (h:PGs X es t) (hn:(assignEach es X.env).length=n:=by rfl) (hst:(assignEach es X.env).findIdx? (·.1)=none:=by rfl):PG X (.Tuple es k pos) (gLst X.K n t):=by
 intro pins s σ H v u Q I r hw
 obtain⟨a,xs,e1,hq,hl,hw⟩:=hw
 subst e1
 cases r
 obtain⟨its,rv,pl,hz⟩:=I.list hq
 rw [arm_assign_Tuple]
 refine zbk2 (wpAny_standAt (zal5 (I.ok.hd hc) (DL.PlainL.isL pl) (by simp [hn, ← hl,rv.length]) hst fun h' tk hk=>?_))
 exact h pins _ σ H xs _ Q (I.kept (t':=tk) hk) (by simpa using rv) hw
end
end L2
namespace DL
open PySem.Spec L2
noncomputable def gkLst (n:Nat) (k:List D→Th→Option Th):D→Th→Option Th:=fun d t=>match d with
 |.lst ds=>if ds.length=n then k ds t else none
 |_=>none
theorem tg_lst {K:zbj0}{F:List Addr}{n:Nat}{g':TGs}{k':List D→Th→Option Th} (h2:zbi5 K F g' k'):TgOk K F (gLst K n g') (gkLst n k'):=by
 intro σ H A t t' d x Q R r e h
 unfold gkLst at e
 split at e
 ·rename_i ds
  split at e
  ·rename_i hl
   cases r with
   |@lst _ p vs h1 hr=>exact⟨p,vs,rfl,SqL.mono (zb7 _ _) h1,by rw [hr.length];exact hl,h2 σ H A t t' ds vs Q R hr e h⟩
  ·cases e
 ·cases e
end DL
namespace L2
open PySem.Spec
theorem vals_get:∀ {xs:List V}{us:List Value},xs.length=us.length→(∀(j:Nat) (a:V) (b:Value),xs[j]?=some a→us[j]?=some b→RelV a b)→Vals xs us
 |[],[],_,_=>.nil
 |[],_::_,h,_=>by simp at h
 |_::_,[],h,_=>by simp at h
 |x::xs,u::us,h,k=>.cons (k 0 x u rfl rfl) (vals_get (by simpa using h) fun j a b ha hb=>k (j+1) a b (by simpa using ha) (by simpa using hb))
end L2
namespace DL
open PySem.Spec L2
structure Lent (K:zbj0) (F:List Addr) (ir jx:Nat) (ds:List D) (k:Nat) (A0:List Addr) (Hb:Hp) (p r:Addr) (C1 C2:List Addr) (A:List Addr) (H:Hp) (σ:L2.St):Prop where
 nd:(p ::(C1++r::C2)).Nodup
 dj:∀b∈p ::(C1++r::C2),b∉F
 s1:σ[ir]?=some (some (.ref p))
 s2:σ[jx]?=some (some (.ref r))
 gr:Gr A0 Hb (A++p ::(C1++C2)) H
 kp:∀b∈p ::(C1++C2),∀o,Hb b=some o→H b=some o
 re:∀(H01 H1:Hp) (xs':List D),xs'.all scD=true→H1 r=some (.lst (xs'.map sV))→(∀b∈p ::(C1++C2),∀o,Hb b=some o→H1 b=some o)→Same (hide (A0++F) Hb) H01→RepD K H01 H1 (.lst (ds.set k (.lst xs'))) (.ref p) (p ::(C1++r::C2))
mutual
theorem RepD.fl {K:zbj0}{H0 H:Hp}:∀ {d:D}{v:V}{B:List Addr},RepD K H0 H d v B→flat d=true→Rep K H0 d v∧B=[]
 |_,_,_,.flat _ r,_=>⟨r,rfl⟩
 |_,_,_,.tup h r,f=>⟨.tup h (RepDs.fl r (by simpa [flat] using f)).1,(RepDs.fl r (by simpa [flat] using f)).2⟩
 |_,_,_,.lst _ _,f=>by simp [flat]at f
 |_,_,_,.dct _ _ _,f=>by simp [flat]at f
 |_,_,_,.pdc _,f=>by simp [flat]at f
theorem RepDs.fl {K:zbj0}{H0 H:Hp}:∀ {ds:List D}{vs:List V}{B:List Addr},RepDs K H0 H ds vs B→flats ds=true→Reps K H0 ds vs∧B=[]
 |_,_,_,.nil,_=>⟨.nil,rfl⟩
 |_,_,_,.cons h r,f=>by
  simp only [flats,zbj5]at f
  obtain⟨a1,a2⟩:=RepD.fl h f.1
  obtain⟨b1,b2⟩:=RepDs.fl r f.2
  exact⟨.cons a1 b1,by rw [a2,b2];rfl⟩
end
def thwD:Sl→Sl
 |.dp (.lst xs)=>if flats xs then .own xs else .dp (.lst xs)
 |s=>s
def thwT (t:Th) (i:Nat):Th:=match t[i]? with
 |some s=>t.set i (thwD s)
 |none=>t
theorem zs5 (s:Sl) (t:Th) (i:Nat):thwT (s::t) (i+1)=s::thwT t i:=by
 unfold thwT
 simp only [zbu1]
 cases t[i]?<;>simp
theorem RSl.thaw {K:zbj0}{H0 H:Hp}{t:Th}{σ:L2.St}{A:List Addr} (h:RSl K H0 H t σ A):∀i,RSl K H0 H (thwT t i) σ A:=by
 induction h with
 |nil=>intro i;exact .nil
 |no r ih =>
  intro i
  cases i with
  |zero=>exact .no r
  |succ i=>rw [zs5];exact .no (ih i)
 |val h r ih =>
  intro i
  cases i with
  |zero=>exact .val h r
  |succ i=>rw [zs5];exact .val h (ih i)
 |own h1 h2 r ih =>
  intro i
  cases i with
  |zero=>exact .own h1 h2 r
  |succ i=>rw [zs5];exact .own h1 h2 (ih i)
 |@dp d v B t σ A h r ih =>
  intro i
  cases i with
  |succ i=>rw [zs5];exact .dp h (ih i)
  |zero =>
   show RSl K H0 H (thwD (.dp d)::t) _ _
   by_cases c:∃xs,d=.lst xs∧flats xs=true
   ·obtain⟨xs,e,f⟩:=c
    subst e
    have e:thwD (.dp (.lst xs))=.own xs:=by simp [thwD,f]
    rw [e]
    cases h with
    |flat z _=>simp [flat]at z
    |lst h1 h2 =>
     obtain⟨a,b⟩:=RepDs.fl h2 f
     subst b
     exact .own h1 a r
   ·have e:thwD (.dp d)=.dp d:=by
     cases d with
     |lst xs =>
      have:flats xs=false:=by
       cases z:flats xs with
       |false=>rfl
       |true=>exact absurd ⟨xs,rfl,z⟩ c
      simp [thwD,this]
     |_=>rfl
    rw [e]
    exact .dp h r
def dThw (i:Nat) (g:DS):DS:=fun t=>g (thwT t i)
theorem dS_thw {K:zbj0}{F:List Addr}{g:DS}{i:Nat}{E:Ends}{σ:L2.St}{H:Hp} (h:dS K F (dThw i g) E σ H):dS K F g E σ H:=by
 obtain⟨A,t,o,R,e,p⟩:=zap2 h
 exact zbf4 (A:=A) ⟨R.mu,R.nd,R.dj,R.rel.thaw i⟩ e p
theorem zaz0 {X:Cx}{F:List Addr}{g:DS}{st:Stmt} (i:Nat) (h:PS X st (dS X.K F g)):PS X st (dS X.K F (dThw i g)):=PS.imp h fun _ _ _ q=>dS_thw q
end DL
namespace DL
open PySem.Spec L2
section
variable {X:Cx}{F:List Addr}{J:List Nat}{a b:Expr}{fa fb:DE}{pos:Pos}{ss:List Stmt}
theorem psj_dput (i:Nat) {x:Str}{p0 tpos:Pos} (hu:X.A.units+64<cLine) (hb:PE X b (dE X.K F fb)) (he:PE X a (dE X.K F fa)) (hN:X.N[i]?=some x:=by rfl) (hv:Vis X.env.scope x:=by first | exact Or.inl rfl | exact Or.inr (Or.inl rfl) |exact Or.inr (Or.inr rfl)) (hd:(x ==("__debug__":Str))=false:=by decide)
  (hcd:(x ==("__classdict__":Str))=false:=by decide) (hs:swapsWith a (some (.Subscript (.Name x p0) b tpos)) pos.line X.env=pure false:=by rfl) :
  PS X (.Assign [.Subscript (.Name x p0) b tpos] a pos) (dSJ X.K F J (zaf5 i fb fa)):=by
 refine PS.imp (zaz5 (by lia) (zt4 (i:=i) hN hv hd hcd) hb he hs) ?_
 rintro E σ H ⟨A,t,t',R,e,h⟩
 unfold zaf5 at e
 cases e1:fa t with
 |none=>rw [e1]at e;cases e
 |some r =>
  cases e2:fb t with
  |none=>rw [e1,e2]at e;cases e
  |some kk =>
   rw [e1,e2]at e
   have e:zai7 t i r kk=some (.nx t'):=e
   unfold zai7 at e
   split at e
   case h_2=>cases e
   rename_i ks ds k z ek
   split at e
   case isFalse=>cases e
   rename_i ok
   simp only [zbj5,decide_eq_true_eq]at ok
   cases e
   obtain⟨p,a1,a2,l,hp,mk⟩:=R.placeD z ok.1.1
   refine⟨A,t,r,R,e1,fun v0 H1 gs1 q1=>⟨_,a1,A,t,kk,R.grow gs1,e2,fun y H2 gs2 q2=>?_⟩⟩
   have gs:=gs1.trans gs2
   have ey:=zv6 q2.full ek
   have ev:=zar1 q1.full ok.1.2
   subst ey ev
   obtain⟨pz,pl⟩:=zam6 k r.d l
   obtain⟨A2,R',g'⟩:=mk H2 _ _ gs pl (zay6 ok.1.2 ok.1.1)
   have hlen:(mkKV ks (ds.map sV)).length<sizeLine:=by
    unfold mkKV
    rw [zbq7]
    exact zbk1 (zbt1 _ _) (zbk9 ok.2 (by rw [sizeLine_eq];decide))
   refine⟨p,_,rfl,DPut.k (gs _ _ hp) hlen,?_⟩
   rw [pz]
   exact h _ _ _ g' R' fun _ _=>rfl
end
end DL
namespace L2
open PySem.Spec
theorem d_set {X:Cx}{pins:List (Addr×Obj)}{σ:L2.St}{H:Hp}{s:zbk7}{a:Addr}{kvs:List (Key×V)}{k:Key}{v:V}{u r:Value}{A:Around}{E:Value→zbk7→Prop}{Q:Unit→zbk7→Prop} (I:Inv X pins σ H s) (e:H a=some (.dK kvs)) (ry:RelV (kV k) u) (rv:RelV v r) (l:kvs.length<sizeLine) (h:∀s',Inv X pins σ (upd H a (.dK (putK kvs k v))) s'→Q () s') :
  wpAny (model X.prog X.w) A (dictSet a u r) Q E s:=by
 obtain⟨z,hd,vs,rel,dd⟩:=dk_of I.hok e
 have hz:vs.length≤sizeLine:=by rw [← rel.length];exact z
 have hl:(putK kvs k v).length≤sizeLine:=by have:=zo4 kvs k v;lia
 refine wpAny_dictSet_pairs (hsz:=hz) (zbd0 ry) dd fun h' dd' hs=>h _ ?_
 have he:∃q,h'.get? a=some q:=let ⟨q,_,_,hq,_⟩:=dd';⟨q,hq⟩
 exact zaf4 I (by rw [e];exact True.intro) hs he (zbe8 hl hd (rel.put k rv) dd')
theorem zak2 {kx vx target iter:Expr}{ifs:List Expr}{g2:Comprehension}{scope:Scope}{pos:Pos}{it acc:Value}{env:Env} (h2:g2.is_async=0) :
  compTurn (.DictComp kx vx [⟨target,iter,ifs,0⟩,g2] scope pos) 0 it acc env=(do
   standAt iter.pos
   match ← pyNext it with
   |none=>pure (.done .next)
   |some v =>
    letOwnedTupleGo target it v
    assign target env v
    let mut ok:=true
    for c in ifs do
     if ok then ok ← isTrue c env (eval c env)
    if ok then emT (.DictComp kx vx [⟨target,iter,ifs,0⟩,g2] scope pos) g2 acc env
    again (.compLoop (.DictComp kx vx [⟨target,iter,ifs,0⟩,g2] scope pos) 0 it acc env)):=by
 obtain⟨t2,i2,f2,a2⟩:=g2
 have h2:a2=0:=h2
 subst h2
 simp only [emT,bind_assoc,pure_bind]
 rfl
theorem zak1 {kx vx iter:Expr}{ifs:List Expr}{g1:Comprehension}{target:Expr}{scope:Scope}{pos:Pos}{it:Value}{D:Addr}{env:Env} :
  compTurn (.DictComp kx vx [g1,⟨target,iter,ifs,0⟩] scope pos) 1 it (.ref D) env=(do
   standAt iter.pos
   match ← pyNext it with
   |none=>pure (.done .next)
   |some v =>
    letOwnedTupleGo target it v
    assign target env v
    let mut ok:=true
    for c in ifs do
     if ok then ok ← isTrue c env (eval c env)
    if ok then (do
      let kv ← eval kx env
      let vv ← holding [kv] (eval vx env)
      standAt { kx.pos with endLine:=vx.pos.endLine,endCol:=vx.pos.endCol }
      holding [kv,vv] (dictSet D kv vv))
    again (.compLoop (.DictComp kx vx [g1,⟨target,iter,ifs,0⟩] scope pos) 1 it (.ref D) env)):=by rfl
theorem zq0 {prog:Program}{w:World}{A:Around}{R:Result→zbk7→Prop}{s:zbk7}{kx vx target:Expr}{ip:Pos}{gens:List Comprehension}{depth:Nat}{ifs:List Expr}{scope:Scope}{pos:Pos}{it acc:Value}{env:Env} (em:Sem Unit)
  (heq:compTurn (.DictComp kx vx gens scope pos) depth it acc env=(do
   standAt ip
   match ← pyNext it with
   |none=>pure (.done .next)
   |some v =>
    letOwnedTupleGo target it v
    assign target env v
    let mut ok:=true
    for c in ifs do
     if ok then ok ← isTrue c env (eval c env)
    if ok then em
    again (.compLoop (.DictComp kx vx gens scope pos) depth it acc env))) (I:Nat→zbk7→Prop)
  (turn:∀n s,I n s→wpAny (model prog w) A (pyNext it) (fun r s₁=>match r with
   |none=>R (.ok .next) s₁
   |some v=>wpAny (model prog w) A (letOwnedTupleGo target it v) (fun _ s₁'=>wpAny (model prog w) A (assign target env v) (fun _ s₂ =>
     wpAny (model prog w) A (forIn ifs true fun c r=>if r=true then do let ok ← isTrue c env (eval c env);pure (ForInStep.yield ok) else pure (ForInStep.yield r)) (fun ok s₃ =>
      if ok=true then wpAny (model prog w) A em (fun _ s₅ => ∃m,m<n∧I m s₅) (fun _ _=>False) s₃
      else ∃m,m<n∧I m s₃) (fun _ _=>False) s₂) (fun _ _=>False) s₁') (fun _ _=>False) s₁) (fun _ _=>False) s)
  (n:Nat) (h:I n s):codeAny (model prog w) A (.compLoop (.DictComp kx vx gens scope pos) depth it acc env) R s:=by
 refine codeAny_loop rfl I (fun n s hI=>?_) n h
 show wpAny _ A ((compTurn (.DictComp kx vx gens scope pos) depth it acc env).onRaise (fun x=>do noteFrame x env;theTreesLotGoes x)) _ _ s
 refine wpAny_noted ?_
 rw [heq]
 refine zbk2 (wpAny_standAt (zbk2 (wpAny_mono (turn n s hI) (fun r s₁ h₁=>?_) fun _ _ h'=>h'.elim)))
 cases r with
 |none=>exact zbm0 h₁
 |some v =>
  refine zbk2 (wpAny_mono h₁ (fun _ s₁' h₁'=>?_) fun _ _ h'=>h'.elim)
  refine zbk2 (wpAny_mono h₁' (fun _ s₂ h₂=>zbk2 (wpAny_mono h₂ (fun ok s₃ h₃=>?_) fun _ _ h'=>h'.elim)) fun _ _ h'=>h'.elim)
  cases ok with
  |false=>exact zbm0 ⟨rfl,h₃⟩
  |true=>exact zbk2 (wpAny_mono h₃ (fun _ s₅ h₅=>zbm0 ⟨rfl,h₅⟩) fun _ _ h'=>h'.elim)
theorem zr2 {prog:Program}{w:World}{A:Around}{R:Result→zbk7→Prop}{s:zbk7}{kx vx target iter ifs g1 scope pos it acc env}
  (h0:codeAny (model prog w) A (.compLoop (.DictComp kx vx [g1,⟨target,iter,ifs,0⟩] scope pos) 1 it acc env) R s)
  (h:wpAny (model prog w) A (pyIter it) (fun it' s'=>codeAny (model prog w) A (.compLoop (.DictComp kx vx [g1,⟨target,iter,ifs,0⟩] scope pos) 1 it' acc env) R s')
   (notedBy (model prog w) A env fun x s'=>R (.error x) s') s) :
  codeAny (model prog w) A (.compStart (.DictComp kx vx [g1,⟨target,iter,ifs,0⟩] scope pos) 1 it acc env) R s:=by
 refine codeAny_of_tree ?_
 show wpAny _ _ ((compStart (.DictComp kx vx [g1,⟨target,iter,ifs,0⟩] scope pos) 1 it acc env).onRaise (fun x=>do noteFrame x env;standAt theWindowsPlace)) _ _ s
 refine wpAny_notedAt ?_
 unfold compStart
 show wpAny _ _ (ask >>= _) _ _ s
 refine zbk2 (wpAny_askSetting (wpAny_ite ?_))
 split
 ·first
   |exact zbk2 (zbm0 (zbm0 (And.intro rfl h0)))
   |exact zbm0 (And.intro rfl h0)
 ·first
   |exact zbk2 (wpAny_rule (zbk2 (wpAny_standAt (zbk2 (wpAny_mono h (fun it' s' h'=>zbm0 (And.intro rfl h')) fun _ _ x=>x)))))
   |(refine zbk2 (wpAny_rule ?_);show wpAny _ _ (standAt iter.pos >>= _) _ _ s;exact zbk2 (wpAny_standAt (zbk2 (wpAny_mono h (fun it' s' h'=>zbm0 (And.intro rfl h')) fun _ _ x=>x))))
noncomputable def zax9 (n:Nat) (cap:List Nat) (wi:TI) (g:TG) (tt:TT) (em:EMS):TE:=fun σ H Q=>wi σ H fun J H1 => ∀D,H1 D=none→∃W:Nat→Nat→L2.St→Hp→Prop,(∃m,W 0 m (capV n cap σ) (upd H1 D (.dK [])))∧∀i m σ' H',W i m σ' H' →
 (J.stop i H'∧Q (.ref D) H')∨(J.go i H'∧∃N:L2.St→Hp→Prop,(∀σ'' H'',N σ'' H''→∃m',m' < m∧W (i+1) m' σ'' H'')∧∀x H2,J.yld i H' x H2→g x σ' H2 fun σ2 H3=>tt σ2 H3 fun b H4 =>
  if b=true then em D σ2 H4 N else N σ2 H4)
noncomputable def zax8 (wi:TI) (g:TG) (tt:TT) (tk tv:TE):EMS:=fun D σ H R=>wi σ H fun J H1 => ∃W:Nat→Nat→L2.St→Hp→Prop,(∃m,W 0 m σ H1)∧∀i m σ' H',W i m σ' H' →
 (J.stop i H'∧R σ' H')∨(J.go i H'∧∃N:L2.St→Hp→Prop,(∀σ'' H'',N σ'' H''→∃m',m' < m∧W (i+1) m' σ'' H'')∧∀x H2,J.yld i H' x H2→g x σ' H2 fun σ2 H3=>tt σ2 H3 fun b H4 =>
  if b=true then tk σ2 H4 fun x H5=>tv σ2 H5 fun y H6 => ∃kvs k,x=kV k∧H6 D=some (.dK kvs)∧kvs.length<sizeLine∧N σ2 (upd H6 D (.dK (putK kvs k y))) else N σ2 H4)
theorem zau7 {Y:Cx}{kx vx tg iter:Expr}{ifs:List Expr}{g1:Comprehension}{scope:Scope}{pos:Pos}{wi:TI}{g:TG}{tt:TT}{tk tv:TE}{D:Addr} (yc:Y.calm=true) (yx:Y.xe=fun _ _=>False) (hi:PI Y tg iter wi) (hg:PG Y tg g) (ht:PTs Y ifs tt) (hk:PE Y kx tk) (hv:PE Y vx tv)
  (hs:∀x,foldedSetIterable iter Y.env x=pure x:=by intro _;rfl):PEm Y (emT (.DictComp kx vx [g1,⟨tg,iter,ifs,0⟩] scope pos) ⟨tg,iter,ifs,0⟩ (.ref D) Y.env) (zax8 wi g tt tk tv D):=by
 intro pins s σ H R I h
 unfold emT
 refine zbk2 (thn (hi pins s σ H _ I h) fun v s1 h1=>zbk2 (wpAny_standAt (zbk2 (wpAny_of_eq (hs v) (zbk2 (wpAny_holding (thn h1 fun itv s2 h2=>?_)))))))
 obtain⟨it,fp,tn,J,H2,e,I2,T,st2,f2,W,⟨m0,w0⟩,turn⟩:=h2
 subst e
 refine zbk2 (wpAny_runOwn ?_)
 have stat:∀ {H':Hp},(∀b∈fp,H' b=none)→∀b∈fp,FpOk Y pins H' b:=fun hn b hb=>⟨hn b hb,(f2 b hb).2⟩
 have loop:∀s2',Inv Y pins σ H2 s2'→tn 0 s2'.heap→codeAny (model Y.prog Y.w) Y.A (.compLoop (.DictComp kx vx [g1,⟨tg,iter,ifs,0⟩] scope pos) 1 (.ref it) (.ref D) Y.env)
   (fun r s'=>match r with | .ok f=>wpAny (model Y.prog Y.w) Y.A (pure ()) (fun _ s' => ∃σ' H',Inv Y pins σ' H' s'∧R σ' H') Y.xe s' | .error e=>cameBackBy (model Y.prog Y.w) Y.A Y.env Y.xe e s') s2':=by
  intro s2' I2' st2'
  refine zq0 (do
      let kv ← eval kx Y.env
      let vv ← holding [kv] (eval vx Y.env)
      standAt { kx.pos with endLine:=vx.pos.endLine,endCol:=vx.pos.endCol }
      holding [kv,vv] (dictSet D kv vv)) zak1 (fun n s' => ∃i σ' H',Inv Y pins σ' H' s'∧tn i s'.heap∧(∀b∈fp,H' b=none)∧W i n σ' H') ?_ m0 ⟨0,_,_,I2',st2',fun b hb=>(f2 b hb).1,w0⟩
  rintro n s3 ⟨i,σ3,H3,I5,st3,fr3,w3⟩
  rcases turn i n σ3 H3 w3 with ⟨stop,qn⟩ | ⟨go,N,hNN,step⟩
  ·refine thn (T.done Y rfl rfl rfl yc i pins s3 σ3 H3 (fun _ _=>False) I5 (stat fr3) st3 stop) fun r s4 ⟨hr,I6⟩=>?_
   subst hr
   exact zbm0 ⟨σ3,H3,I6,qn⟩
  ·refine thn (T.item Y rfl rfl rfl yc i pins s3 σ3 H3 (fun _ _=>False) I5 (stat fr3) st3 go) fun r s4 ⟨u,hr,h4⟩=>?_
   subst hr
   refine thn h4 fun _ s5 ⟨x,H5,I6,r5,y5,st5,fr5⟩=>?_
   have I6':=I6.pinned (stat fr5) (T.obj _ _ st5)
   have a:=hg _ s5 σ3 H5 x u _ I6' r5 (step x H5 y5)
   rw [yx]at a
   refine thn a fun _ s6 ⟨σ6,H6,I7,q6⟩=>?_
   have b:=ht _ s6 σ6 H6 _ I7 q6
   rw [yx]at b
   refine thn b fun ok s7 ⟨H7,I8,q7⟩=>?_
   have again:∀ {s9:zbk7}{H9:Hp},Inv Y (pins++zp5 fp s5.heap) σ6 H9 s9→N σ6 H9→∃m,m<n∧∃i σ' H',Inv Y pins σ' H' s9∧tn i s9.heap∧(∀b∈fp,H' b=none)∧W i m σ' H':=fun {s9 H9} I9 n9=>by
    obtain⟨m',hm,w9⟩:=hNN σ6 H9 n9
    refine⟨m',hm,i+1,σ6,H9,I9.unpinned,T.keep _ _ _ st5 fun b hb o e=>(I9.pin (b,o) (zbi9 _ (zbi9 _ (zf2 hb e)))).1,fun b hb=>?_,w9⟩
    obtain⟨o,e,d⟩:=T.obj _ _ st5 b hb
    exact (I9.pin (b,o) (zbi9 _ (zbi9 _ (zf2 hb e)))).2.1
   cases ok with
   |false=>exact iteF (again I8 (by simpa using q7))
   |true =>
    rw [if_pos rfl]at q7
    refine iteT ?_
    have c:=hk _ s7 σ6 H7 _ I8 q7
    rw [yx]at c
    refine zbk2 (thn c fun kv s8 ⟨vk,H8,I9,rk,q9⟩=>zbk2 (wpAny_holding ?_))
    have d:=hv _ s8 σ6 H8 _ I9 q9
    rw [yx]at d
    refine thn d fun vv s9 ⟨vy,H9,I10,rv,kvs,kk,ek,hD,hl,n9⟩=>zbk2 (wpAny_standAt (wpAny_holding ?_))
    subst ek
    exact d_set I10 hD rk rv hl fun s' I11=>again I11 n9
 exact zr2 (loop s2 I2 st2) (T.self _ 0 _ _ _ st2 (loop s2 I2 st2))
theorem zba2 {X:Cx}{kx vx tg iter:Expr}{ifs:List Expr}{scope:Scope}{pos:Pos}{n:Nat}{cap:List Nat}{N':List Str}{wi:TI}{g:TG}{tt:TT}{em:EMS}{g2:Comprehension} (S:CompSc X scope) (hc:X.calm=true) (hi:PI X tg iter wi)
  (hN:N'.length=n+cap.length) (hcap:∀(k:Nat) (j:Nat),cap[k]?=some j→∃x,N'[n+k]?=some x∧X.N[j]?=some x∧(x,NameKind.free)∈scope.names)
  (hg:∀C s₃ H₃ fp pins,PG (blk X N' scope C s₃ H₃ fp pins) tg g) (ht:∀C s₃ H₃ fp pins,PTs (blk X N' scope C s₃ H₃ fp pins) ifs tt) (he:∀C s₃ H₃ fp pins D,PEm (blk X N' scope C s₃ H₃ fp pins) (emT (.DictComp kx vx [⟨tg,iter,ifs,0⟩,g2] scope pos) g2 (.ref D) (blk X N' scope C s₃ H₃ fp pins).env) (em D))
  (h2:g2.is_async=0) (hs:∀x,foldedSetIterable iter X.env x=pure x:=by intro _;rfl):PE X (.DictComp kx vx [⟨tg,iter,ifs,0⟩,g2] scope pos) (zax9 n cap wi g tt em):=by
 intro pins s σ H Q I h
 rw [arm_eval_DictComp]
 refine wpAny_comprehension_free (use:=none) rfl hs (zq8 (S.frees I.ok)) S.kind (fun x hx hl=>by rw [S.names x hx,hl]) (thn (hi pins s σ H _ I h) fun v s1 h1=>thn h1 fun itv s2 h2=>?_)
 obtain⟨it,fp,tn,J,H2,e,I2,T,st2,f2,R⟩:=h2
 subst e
 have lt2:∀b∈fp,b<s2.heap.objs.size:=fun b hb=>by obtain⟨o,e,_⟩:=T.obj _ _ st2 b hb;exact zbk8 e
 have hD:H2 s2.heap.objs.size=none:=I2.fresh
 obtain⟨W,⟨m0,w0⟩,turn⟩:=R s2.heap.objs.size hD
 have I3:Inv X pins σ (upd H2 s2.heap.objs.size (.dK [])) { s2 with heap:=s2.heap.push { cls:=.type "dict",data:=.dict #[] },toks:=s2.toks }:=I2.laid (a:=s2.heap.objs.size) (o:=.dK []) (t':=s2.toks) (fun _ _ q=>zbk0 _ q) (zbl1 _) (zaf3 s2.heap I2.big)
 have f3:∀b∈fp,FpOk X pins (upd H2 s2.heap.objs.size (.dK [])) b:=fun b hb=>⟨by rw [zc9 (zbl7 (lt2 b hb))];exact (f2 b hb).1,(f2 b hb).2⟩
 refine wpAny_newObj_type (zj9 fun h₁ hns₁ hk hcl₁=>?_)
 have lt3:∀b∈fp,b<(s2.heap.push { cls:=.type "dict",data:=.dict #[] }).objs.size:=fun b hb=>by rw [zbs7];exact zbr5 (lt2 b hb)
 have I4:Inv (blk X N' scope (s2.heap.push { cls:=.type "dict",data:=.dict #[] }).objs.size { s2 with heap:=s2.heap.push { cls:=.type "dict",data:=.dict #[] },toks:=s2.toks } (upd H2 s2.heap.objs.size (.dK [])) fp pins) [] (capV n cap σ) (upd H2 s2.heap.objs.size (.dK [])) { s2 with heap:=h₁,toks:=s2.toks } :=
  zaf9 I3 S hc f3 lt3 (t1:=s2.toks) hns₁ hk hcl₁ (by simp [capV,hN]) (fun i x v e1 e2=>by
   unfold capV at e2
   by_cases hi:i<n
   ·rw [zbp2 (by simpa using hi),zbq5]at e2
    split at e2<;>cases e2
   ·rw [zbo9 (by simpa using hi),zbn0,zbo4]at e2
    cases ej:cap[i - n]? with
    |none=>rw [ej]at e2;cases e2
    |some j =>
     rw [ej]at e2
     obtain⟨x',a1,a2,a3⟩:=hcap (i - n) j ej
     have:n+(i - n)=i:=by lia
     rw [this,e1]at a1
     cases a1
     refine⟨a3,j,a2,?_⟩
     have e2:(σ[j]?).getD none=some v:=by simpa using e2
     cases q:σ[j]? with
     |none=>rw [q]at e2;cases e2
     |some z=>rw [q]at e2;have:z=some v:=e2;rw [this])
 have loop:codeAny (model X.prog X.w) X.A (.compLoop (.DictComp kx vx [⟨tg,iter,ifs,0⟩,g2] scope pos) 0 (.ref it) (.ref s2.heap.objs.size) (compEnvC scope (cellsFrom ((s2.heap.push { cls:=.type "dict",data:=.dict #[] }).objs.size+1) scope.names (clOf X.env.cells scope.names [])) (s2.heap.push { cls:=.type "dict",data:=.dict #[] }).objs.size X.env))
   (compPost (model X.prog X.w) X.A X.xe none (EP X pins σ Q) (.ref s2.heap.objs.size) (s2.heap.push { cls:=.type "dict",data:=.dict #[] }).objs.size) { s2 with heap:=h₁,toks:=s2.toks }:=by
  generalize hY:(blk X N' scope (s2.heap.push { cls:=.type "dict",data:=.dict #[] }).objs.size { s2 with heap:=s2.heap.push { cls:=.type "dict",data:=.dict #[] },toks:=s2.toks } (upd H2 s2.heap.objs.size (.dK [])) fp pins)=Y at I4
  have st4:tn 0 h₁:=T.keep _ _ _ st2 fun b hb o e=>hk b o (zbk0 _ e)
  have stat:∀ {H':Hp},(∀b∈fp,H' b=none)→∀b∈fp,FpOk Y [] H' b:=fun hn b hb=>by
   subst hY
   obtain⟨f0,f1,f2',f3',f4,f5⟩:=f3 b hb
   exact⟨hn b hb,zbl7 (lt3 b hb),fun z=>(zbj9.mp (I3.stkSub b z)).elim f1 f2',.inl hb,fun x c e=>(by
    rcases S.old I3 e with z | z
    ·exact f4 x c z
    ·exact zbr3 (zbv6 (lt3 b hb) z)),fun p hp=>f5 p (by simpa using hp)⟩
  have hgY:PG Y tg g:=hY ▸ hg _ _ _ _ _
  have htY:PTs Y ifs tt:=hY ▸ ht _ _ _ _ _
  have heY:PEm Y (emT (.DictComp kx vx [⟨tg,iter,ifs,0⟩,g2] scope pos) g2 (.ref s2.heap.objs.size) Y.env) (em s2.heap.objs.size):=by subst hY;exact he _ _ _ _ _ _
  have yp:Y.prog=X.prog:=by subst hY;rfl
  have yw:Y.w=X.w:=by subst hY;rfl
  have yK:Y.K=X.K:=by subst hY;rfl
  have yA:Y.A=X.A:=by subst hY;rfl
  have yc:Y.calm=true:=by subst hY;rfl
  have yx:Y.xe=fun _ _=>False:=by subst hY;rfl
  have ye:Y.env=compEnvC scope (cellsFrom ((s2.heap.push { cls:=.type "dict",data:=.dict #[] }).objs.size+1) scope.names (clOf X.env.cells scope.names [])) (s2.heap.push { cls:=.type "dict",data:=.dict #[] }).objs.size X.env:=by subst hY;rfl
  rw [← ye]
  refine zq0 (emT (.DictComp kx vx [⟨tg,iter,ifs,0⟩,g2] scope pos) g2 (.ref s2.heap.objs.size) Y.env) (zak2 h2) (fun n s' => ∃i σ' H',Inv Y [] σ' H' s'∧tn i s'.heap∧(∀b∈fp,H' b=none)∧W i n σ' H') ?_ m0 ⟨0,_,_,I4,st4,fun b hb=>(f3 b hb).1,w0⟩
  rintro n s3 ⟨i,σ3,H3,I5,st3,fr3,w3⟩
  rcases turn i n σ3 H3 w3 with ⟨stop,qn⟩ | ⟨go,N,hNN,step⟩
  ·have d:=T.done Y yp yw yK yc i [] s3 σ3 H3 (fun _ _=>False) I5 (stat fr3) st3 stop
   rw [yA]at d
   refine thn d fun r s4 ⟨hr,I6⟩=>?_
   subst hr
   obtain⟨m,hm,_⟩:=I6.loc
   rw [ye]at hm
   refine⟨m,hm,fun h' hb=>⟨.ref s2.heap.objs.size,H3,?_,rfl,qn⟩⟩
   subst hY
   exact zy7 I3 f3 rfl I6 hb
  ·have d:=T.item Y yp yw yK yc i [] s3 σ3 H3 (fun _ _=>False) I5 (stat fr3) st3 go
   rw [yA]at d
   refine thn d fun r s4 ⟨u,hr,h4⟩=>?_
   subst hr
   refine thn h4 fun _ s5 ⟨x,H5,I6,r5,y5,st5,fr5⟩=>?_
   have I6':=I6.pinned (stat fr5) (T.obj _ _ st5)
   have a:=hgY _ s5 σ3 H5 x u _ I6' r5 (step x H5 y5)
   rw [yp,yw,yA,yx]at a
   refine thn a fun _ s6 ⟨σ6,H6,I7,q6⟩=>?_
   have b:=htY _ s6 σ6 H6 _ I7 q6
   rw [yp,yw,yA,yx]at b
   refine thn b fun ok s7 ⟨H7,I8,q7⟩=>?_
   have again:∀ {s9:zbk7}{σ9:L2.St}{H9:Hp},Inv Y ([]++zp5 fp s5.heap) σ9 H9 s9→N σ9 H9→∃m,m<n∧∃i σ' H',Inv Y [] σ' H' s9∧tn i s9.heap∧(∀b∈fp,H' b=none)∧W i m σ' H':=fun {s9 σ9 H9} I9 n9=>by
    obtain⟨m',hm,w9⟩:=hNN σ9 H9 n9
    refine⟨m',hm,i+1,σ9,H9,I9.unpinned,T.keep _ _ _ st5 fun b hb o e=>(I9.pin (b,o) (zbi9 _ (zbi9 _ (zf2 hb e)))).1,fun b hb=>?_,w9⟩
    obtain⟨o,e,d⟩:=T.obj _ _ st5 b hb
    exact (I9.pin (b,o) (zbi9 _ (zbi9 _ (zf2 hb e)))).2.1
   cases ok with
   |false=>exact iteF (again I8 (by simpa using q7))
   |true =>
    rw [if_pos rfl]at q7
    refine iteT ?_
    have c:=heY _ s7 σ6 H7 _ I8 q7
    rw [yp,yw,yA,yx]at c
    exact thn c fun _ s8 ⟨σ8,H8,I9,n9⟩=>again I9 n9
 exact codeAny_compStart_dict loop (T.self _ 0 _ _ _ (T.keep _ _ _ st2 fun b hb o e=>hk b o (zbk0 _ e)) loop)
end L2
namespace DL
open PySem.Spec L2
abbrev KD:=List Key×List D
noncomputable def stKD (a:KD) (x y:Ev):Option KD:=match keyD x.d with
 |some kk=>if scD y.d&&decide (a.1.length<50000) then some (zi7 a.1 a.2 kk y.d) else none
 |none=>none
noncomputable def zm5 (k:D→Th→Option Th) (ft:DT) (fk fv:DE):List D→Th→KD→Option (KD×Th)
 |[],t,a=>some (a,t)
 |d::ds,t,a=>(k d t).bind fun t1=>(ft t1).bind fun b=>if b then (fk t1).bind fun x=>(fv t1).bind fun y=>(stKD a x y).bind fun a1=>zm5 k ft fk fv ds t1 a1 else zm5 k ft fk fv ds t1 a
noncomputable def zm6 (k:D→Th→Option Th) (ft:DT) (fs2:DI) (k2:D→Th→Option Th) (ft2:DT) (fk fv:DE):List D→Th→KD→Option KD
 |[],_,a=>some a
 |d::ds,t,a=>(k d t).bind fun t1=>(ft t1).bind fun b=>if b then (fs2 t1).bind fun q=>(zm5 k2 ft2 fk fv q.2 t1 a).bind fun p=>zm6 k ft fs2 k2 ft2 fk fv ds p.2 p.1 else zm6 k ft fs2 k2 ft2 fk fv ds t1 a
noncomputable def zab0 (n:Nat) (cap:List Nat) (fs:DI) (k:D→Th→Option Th) (ft:DT) (fs2:DI) (k2:D→Th→Option Th) (ft2:DT) (fk fv:DE):DE:=fun t=>(fs t).bind fun q=>(capD t cap).bind fun c =>
 (zm6 k ft fs2 k2 ft2 fk fv q.2 (zbj8 n Sl.no++c.2.map Sl.val) ([],[])).map fun a=>.dn (.dct a.1 a.2)
def mK (kvs:List (Key×V)):MO:=⟨.dK kvs,rfl⟩
theorem RS.updFK {K:zbj0}{P:List Addr}{H:Hp}{t:Th}{σ:L2.St}{p:Addr}{kvs:List (Key×V)} (R:RS K P H [] t σ) (hp:p∈P):RS K P (upd H p (.dK kvs)) [] t σ where
 mu:=fun q hq=>by
  by_cases z:q=p
  ·exact⟨mK kvs,by rw [z];exact zc1⟩
  ·obtain⟨us,w⟩:=R.mu q hq
   exact⟨us,by rw [zc9 z];exact w⟩
 nd:=zbm2
 dj:=fun p hp=>by cases hp
 rel:=RSl.mono (zg1 hp) R.rel fun q hq=>by cases hq
def OkKD (a:KD):Prop:=a.1.length=a.2.length∧a.2.all scD=true
abbrev kvKD (a:KD):List (Key×V):=mkKV a.1 (a.2.map sV)
theorem zat8 {X:Cx}{F:List Addr}{n:Nat}{cap:List Nat}{fs fs2:DI}{g g2:TG}{kt kt2:D→Th→Option Th}{ft ft2:DT}{fk fv:DE} (hk:∀F',TgOk X.K F' g kt) (hk2:∀F',TgOk X.K F' g2 kt2) {σ:L2.St}{H:Hp}{Q:VK} (h:dE X.K F (zab0 n cap fs kt ft fs2 kt2 ft2 fk fv) σ H Q) :
  zax9 n cap (dI X.K F fs) g (fun σ H Q => ∃F',dT X.K F' ft σ H Q) (zax8 (fun σ H R => ∃F',dI X.K F' fs2 σ H R) g2 (fun σ H Q => ∃F',dT X.K F' ft2 σ H Q) (fun σ H Q => ∃F',dE X.K F' fk σ H Q) (fun σ H Q => ∃F',dE X.K F' fv σ H Q)) σ H Q:=by
 obtain⟨A,t,r,R,e,h⟩:=h
 unfold zab0 at e
 cases e1:fs t with
 |none=>rw [e1]at e;cases e
 |some q =>
  obtain⟨b,ds⟩:=q
  cases e2:capD t cap with
  |none=>rw [e1,e2]at e;cases e
  |some q2 =>
   obtain⟨c,caps⟩:=q2
   rw [e1,e2]at e
   simp only [zbj3]at e
   cases e3:zm6 kt ft fs2 kt2 ft2 fk fv ds (zbj8 n Sl.no++caps.map Sl.val) ([],[]) with
   |none=>rw [e3]at e;cases e
   |some xs =>
    rw [e3]at e
    cases e
    obtain⟨cvs,cv1,cv2⟩:=zu7 R e2
    obtain⟨F',F'def⟩:∃F',F'=hidF (b&&c) A F:=⟨_,rfl⟩
    have subF:∀x∈F',x∈A++F:=fun x hx=>by
     rw [F'def]at hx
     unfold hidF at hx
     split at hx
     ·exact hx
     ·exact zbi9 _ hx
    have lessB:∀H:Hp,Same (hide (hidF b A F) H) (hide F' H):=fun H=>zb3 H fun x hx=>by
     rw [F'def]at hx
     cases b<;>cases c<;>simp [hidF]at hx ⊢<;>first | exact hx | exact .inr hx | (rcases hx with z | z<;>simp [z])
    have lessC:∀H:Hp,Same (hide (hidF c A F) H) (hide F' H):=fun H=>zb3 H fun x hx=>by
     rw [F'def]at hx
     cases b<;>cases c<;>simp [hidF]at hx ⊢<;>first | exact hx | exact .inr hx | (rcases hx with z | z<;>simp [z])
    refine⟨A,t,b,ds,R,e1,fun J H1 Good gs src gd Dd hD=>?_⟩
    have H1A:Lists H1 (A++F):=R.mu.mono gs
    have st0:Same (hide F' H1) (hide (Dd::F') (upd H1 Dd (.dK []))):=zk2 hD
    refine⟨fun i m σ' H'=>i+m=ds.length∧∃th a,RS X.K (Dd::F') H' [] th σ'∧zm6 kt ft fs2 kt2 ft2 fk fv (ds.drop i) th a=some xs∧H' Dd=some (.dK (kvKD a))∧OkKD a∧Same H1 H'∧Good (Dd::F') H',
     ⟨ds.length,by lia,_,([],[]),⟨?_,zbm2,fun p hp=>(by cases hp),?_⟩,by simpa using e3,zc1,⟨rfl,rfl⟩,zd4 hD,src.keep _ _ _ _ gd (fun b o z=>st0 _ _ (lessB _ _ _ z))⟩,?_⟩
    ·intro q hq
     have hq:q∈Dd::F':=hq
     rcases zbj9.mp hq with z | z
     ·exact⟨mK [],by rw [z];exact zc1⟩
     ·obtain⟨us,w⟩:=H1A q (subF q z)
      exact⟨us,(zd4 hD) _ _ w⟩
    ·unfold capV
     rw [cv1]
     exact RSl.noVals (Reps.mono (fun b o z=>st0 _ _ (lessC H1 _ _ (zb6 gs _ _ z))) cv2) n
    ·rintro i m σ' H' ⟨hm,th,a,RR,ec,hv,ok,sm,gg⟩
     cases m with
     |zero =>
      have z:i=ds.length:=by lia
      subst z
      rw [zbq3]at ec
      cases ec
      exact .inl ⟨src.stop _ _ gg,h _ H' (gs.trans sm) ⟨[Dd],by simp,fun b hb=>by simp at hb;subst hb;exact Same.free gs hD,.dct (vs:=xs.2.map sV) (by simpa using ok.1) hv (zad8 ok.2)⟩⟩
     |succ m =>
      have hil:i<ds.length:=by lia
      refine .inr ⟨src.go _ _ i gg hil,fun σ' H'=>i+1+m=ds.length∧∃th a,RS X.K (Dd::F') H' [] th σ'∧zm6 kt ft fs2 kt2 ft2 fk fv (ds.drop (i+1)) th a=some xs∧H' Dd=some (.dK (kvKD a))∧OkKD a∧Same H1 H'∧Good (Dd::F') H',
       fun σ' H' q=>⟨m,zbo2 m,q⟩,fun x H2 y=>?_⟩
      obtain⟨gs2,d,hd,rd⟩:=src.yld _ _ i x H2 gg RR.mu y hil
      have ed:ds.drop i=d::ds.drop (i+1):=by
       have hd':ds[i]=d:=by
        rw [zbj6 hil]at hd
        exact Option.some.inj hd
       rw [← hd']
       exact zbm6 hil
      rw [ed]at ec
      unfold zm6 at ec
      cases k1:kt d th with
      |none=>rw [k1]at ec;cases ec
      |some t1 =>
       rw [k1]at ec
       simp only [zbj3]at ec
       refine hk (Dd::F') σ' H2 [] th t1 d x _ (RR.grow gs2) rd k1 fun σ2 A2 gr2 R2=>?_
       have A20:=zn0 R2 gr2
       subst A20
       cases k2:ft t1 with
       |none=>rw [k2]at ec;cases ec
       |some bb =>
        rw [k2]at ec
        simp only [zbj3]at ec
        refine⟨Dd::F',[],t1,bb,R2,k2,fun H3 gs3=>?_⟩
        cases bb with
        |false =>
         refine iteF ⟨by lia,t1,a,R2.grow gs3,by simpa using ec,gs3 _ _ (gs2 _ _ hv),ok,(sm.trans gs2).trans gs3,src.keep _ _ _ _ gg (zb6 (gs2.trans gs3))⟩
        |true =>
         simp only [if_true]at ec
         cases k3:fs2 t1 with
         |none=>rw [k3]at ec;cases ec
         |some q2 =>
          obtain⟨b2,ds2⟩:=q2
          rw [k3]at ec
          simp only [zbj3]at ec
          cases k4:zm5 kt2 ft2 fk fv ds2 t1 a with
          |none=>rw [k4]at ec;cases ec
          |some pp =>
           obtain⟨aE,tE⟩:=pp
           rw [k4]at ec
           simp only [zbj3]at ec
           have k5:=ec
           refine iteT ⟨Dd::F',[],t1,b2,ds2,R2.grow gs3,k3,fun J2 H4 Good2 gs4 src2 gd2=>?_⟩
           have gd2:Good2 (Dd::F') H4:=by
            have e9:hidF b2 [] (Dd::F')=Dd::F':=by unfold hidF;split<;>simp
            rw [e9]at gd2;exact gd2
           have s4:=(gs2.trans gs3).trans gs4
           refine⟨fun j k σj Hj=>j+k=ds2.length∧∃tj aj,RS X.K (Dd::F') Hj [] tj σj∧zm5 kt2 ft2 fk fv (ds2.drop j) tj aj=some (aE,tE)∧Hj Dd=some (.dK (kvKD aj))∧OkKD aj∧Same H1 Hj∧Good (Dd::F') Hj∧Good2 (Dd::F') Hj,
            ⟨ds2.length,by lia,t1,a,(R2.grow gs3).grow gs4,by simpa using k4,s4 _ _ hv,ok,sm.trans s4,src.keep _ _ _ _ gg (zb6 s4),gd2⟩,?_⟩
           rintro j k σj Hj ⟨hjk,tj,aj,Rj,ej,hvj,okj,smj,ggj,gg2⟩
           cases k with
           |zero =>
            have z:j=ds2.length:=by lia
            subst z
            rw [zbq3]at ej
            cases ej
            exact .inl ⟨src2.stop _ _ gg2,by lia,_,_,Rj,k5,hvj,okj,smj,ggj⟩
           |succ k =>
            have hjl:j<ds2.length:=by lia
            refine .inr ⟨src2.go _ _ j gg2 hjl,fun σj Hj=>j+1+k=ds2.length∧∃tj aj,RS X.K (Dd::F') Hj [] tj σj∧zm5 kt2 ft2 fk fv (ds2.drop (j+1)) tj aj=some (aE,tE)∧Hj Dd=some (.dK (kvKD aj))∧OkKD aj∧Same H1 Hj∧Good (Dd::F') Hj∧Good2 (Dd::F') Hj,
             fun σ' H' q=>⟨k,zbo2 k,q⟩,fun xj H5 yj=>?_⟩
            obtain⟨gs5,dj,hdj,rdj⟩:=src2.yld _ _ j xj H5 gg2 Rj.mu yj hjl
            have edj:ds2.drop j=dj::ds2.drop (j+1):=by
             have hd':ds2[j]=dj:=by
              rw [zbj6 hjl]at hdj
              exact Option.some.inj hdj
             rw [← hd']
             exact zbm6 hjl
            rw [edj]at ej
            unfold zm5 at ej
            cases w1:kt2 dj tj with
            |none=>rw [w1]at ej;cases ej
            |some t6 =>
             rw [w1]at ej
             simp only [zbj3]at ej
             refine hk2 (Dd::F') σj H5 [] tj t6 dj xj _ (Rj.grow gs5) rdj w1 fun σ6 A6 gr6 R6=>?_
             have A60:=zn0 R6 gr6
             subst A60
             cases w2:ft2 t6 with
             |none=>rw [w2]at ej;cases ej
             |some b6 =>
              rw [w2]at ej
              simp only [zbj3]at ej
              refine⟨Dd::F',[],t6,b6,R6,w2,fun H6 gs6=>?_⟩
              cases b6 with
              |false =>
               exact iteF ⟨by lia,t6,aj,R6.grow gs6,by simpa using ej,gs6 _ _ (gs5 _ _ hvj),okj,(smj.trans gs5).trans gs6,src.keep _ _ _ _ ggj (zb6 (gs5.trans gs6)),src2.keep _ _ _ _ gg2 (zb6 (gs5.trans gs6))⟩
              |true =>
               simp only [if_true]at ej
               cases w3:fk t6 with
               |none=>rw [w3]at ej;cases ej
               |some rk =>
                rw [w3]at ej
                simp only [zbj3]at ej
                cases w4:fv t6 with
                |none=>rw [w4]at ej;cases ej
                |some rv =>
                 rw [w4]at ej
                 simp only [zbj3]at ej
                 cases w5:stKD aj rk rv with
                 |none=>rw [w5]at ej;cases ej
                 |some a1 =>
                  rw [w5]at ej
                  simp only [zbj3]at ej
                  unfold stKD at w5
                  split at w5
                  case h_2=>cases w5
                  rename_i kk ek
                  split at w5
                  case isFalse=>cases w5
                  rename_i c5
                  rw [zbj5,decide_eq_true_eq]at c5
                  cases w5
                  refine iteT ⟨Dd::F',[],t6,rk,R6.grow gs6,w3,fun x H7 gs7 q7=>⟨Dd::F',[],t6,rv,(R6.grow gs6).grow gs7,w4,fun y H8 gs8 q8=>?_⟩⟩
                  have ex:=zv6 q7.full ek
                  have ey:=zar1 q8.full c5.1
                  subst ex ey
                  have s8:=((gs5.trans gs6).trans gs7).trans gs8
                  obtain⟨pz,pl⟩:=zam6 kk rv.d okj.1
                  have hu:Same (hide (Dd::F') H8) (hide (Dd::F') (upd H8 Dd (.dK (putK (kvKD aj) kk (sV rv.d))))):=zg1 (zbj7 ..)
                  refine⟨kvKD aj,kk,rfl,s8 _ _ hvj,?_,by lia,t6,zi7 aj.1 aj.2 kk rv.d,RS.updFK (((R6.grow gs6).grow gs7).grow gs8) (zbj7 ..),ej,?_,⟨pl,zay6 c5.1 okj.2⟩,?_,?_,?_⟩
                  ·unfold kvKD mkKV
                   rw [zbq7]
                   exact zbk1 (zbt1 _ _) (zbk9 c5.2 (by rw [sizeLine_eq];decide))
                  ·rw [zc1];exact congrArg (fun z=>some (HO.dK z)) pz
                  ·exact fun b o z=>by
                    rw [zc9 (fun w=>by rw [w,hD]at z;cases z)]
                    exact s8 _ _ (smj _ _ z)
                  ·exact src.keep _ _ _ _ ggj (fun b o z=>hu _ _ (zb6 s8 _ _ z))
                  ·exact src2.keep _ _ _ _ gg2 (fun b o z=>hu _ _ (zb6 s8 _ _ z))
theorem zan0 {X:Cx}{F:List Addr}{kx vx tg iter tg2 iter2:Expr}{ifs ifs2:List Expr}{scope:Scope}{pos:Pos}{fs fs2:DI}{g g2:TG}{kt kt2:D→Th→Option Th}{ft ft2:DT}{fk fv:DE} (n:Nat) (cap:List Nat) (N':List Str) (hc:X.calm=true) (hi:PI X tg iter (dI X.K F fs))
  (hg:∀C s₃ H₃ fp pins,PG (blk X N' scope C s₃ H₃ fp pins) tg g) (hk:∀F',TgOk X.K F' g kt) (ht:∀C s₃ H₃ fp pins F',PTs (blk X N' scope C s₃ H₃ fp pins) ifs (dT X.K F' ft))
  (hi2:∀C s₃ H₃ fp pins F',PI (blk X N' scope C s₃ H₃ fp pins) tg2 iter2 (dI X.K F' fs2)) (hg2:∀C s₃ H₃ fp pins,PG (blk X N' scope C s₃ H₃ fp pins) tg2 g2) (hk2:∀F',TgOk X.K F' g2 kt2) (ht2:∀C s₃ H₃ fp pins F',PTs (blk X N' scope C s₃ H₃ fp pins) ifs2 (dT X.K F' ft2))
  (hkx:∀C s₃ H₃ fp pins F',PE (blk X N' scope C s₃ H₃ fp pins) kx (dE X.K F' fk)) (hvx:∀C s₃ H₃ fp pins F',PE (blk X N' scope C s₃ H₃ fp pins) vx (dE X.K F' fv))
  (hkd:scope.kind=.function:=by rfl) (hcs:zw6 scope.names X.env.kindOf=true:=by rfl) (hN:N'.length=n+cap.length:=by rfl) (hcap:zac2 N' X.N n scope.names 0 cap=true:=by rfl)
  (hs:∀x,foldedSetIterable iter X.env x=pure x:=by intro _;rfl) (hs2:∀C s₃ H₃ fp pins x,foldedSetIterable iter2 (blk X N' scope C s₃ H₃ fp pins).env x=pure x:=by intros;rfl) :
  PE X (.DictComp kx vx [⟨tg,iter,ifs,0⟩,⟨tg2,iter2,ifs2,0⟩] scope pos) (dE X.K F (zab0 n cap fs kt ft fs2 kt2 ft2 fk fv)) :=
 PE.imp (zba2 (g:=g) (zak3 hkd hcs) hc hi hN (fun k j e=>by simpa using zq9 hcap k j e) hg (fun C s₃ H₃ fp pins pins' s σ H Q I ⟨F',q⟩=>ht C s₃ H₃ fp pins F' pins' s σ H Q I q)
  (fun C s₃ H₃ fp pins D=>zau7 rfl rfl (fun pins' s σ H R I ⟨F',q⟩=>hi2 C s₃ H₃ fp pins F' pins' s σ H R I q) (hg2 C s₃ H₃ fp pins) (fun pins' s σ H Q I ⟨F',q⟩=>ht2 C s₃ H₃ fp pins F' pins' s σ H Q I q) (fun pins' s σ H Q I ⟨F',q⟩=>hkx C s₃ H₃ fp pins F' pins' s σ H Q I q) (fun pins' s σ H Q I ⟨F',q⟩=>hvx C s₃ H₃ fp pins F' pins' s σ H Q I q) (hs2 C s₃ H₃ fp pins)) rfl hs) fun _ _ _ h=>zat8 hk hk2 h
def zbf6:DS:=fun _=>none
theorem zaz2 {X:Cx}{F:List Addr}{st:Stmt}:PS X st (dS X.K F zbf6):=by
 intro E pins s σ H I h
 obtain⟨A,t,o,R,e,h⟩:=h
 cases e
end DL
namespace L2
open PySem.Spec
noncomputable def tCompD (n:Nat) (cap:List Nat) (wi:TI) (g:TG) (tt:TT) (tk tv:TE):TE:=fun σ H Q=>wi σ H fun J H1 => ∀D,H1 D=none→∃W:Nat→Nat→L2.St→Hp→Prop,(∃m,W 0 m (capV n cap σ) (upd H1 D (.dK [])))∧∀i m σ' H',W i m σ' H' →
 (J.stop i H'∧Q (.ref D) H')∨(J.go i H'∧∃N:L2.St→Hp→Prop,(∀σ'' H'',N σ'' H''→∃m',m' < m∧W (i+1) m' σ'' H'')∧∀x H2,J.yld i H' x H2→g x σ' H2 fun σ2 H3=>tt σ2 H3 fun b H4 =>
  if b=true then tk σ2 H4 fun x H5=>tv σ2 H5 fun y H6 => ∃kvs k,x=kV k∧H6 D=some (.dK kvs)∧kvs.length<sizeLine∧N σ2 (upd H6 D (.dK (putK kvs k y))) else N σ2 H4)
theorem pe_compD {X:Cx}{kx vx tg iter:Expr}{ifs:List Expr}{scope:Scope}{pos:Pos}{n:Nat}{cap:List Nat}{N':List Str}{wi:TI}{g:TG}{tt:TT}{tk tv:TE} (S:CompSc X scope) (hc:X.calm=true) (hi:PI X tg iter wi)
  (hN:N'.length=n+cap.length) (hcap:∀(k:Nat) (j:Nat),cap[k]?=some j→∃x,N'[n+k]?=some x∧X.N[j]?=some x∧(x,NameKind.free)∈scope.names)
  (hg:∀C s₃ H₃ fp pins,PG (blk X N' scope C s₃ H₃ fp pins) tg g) (ht:∀C s₃ H₃ fp pins,PTs (blk X N' scope C s₃ H₃ fp pins) ifs tt) (hkx:∀C s₃ H₃ fp pins,PE (blk X N' scope C s₃ H₃ fp pins) kx tk) (hvx:∀C s₃ H₃ fp pins,PE (blk X N' scope C s₃ H₃ fp pins) vx tv)
  (hs:∀x,foldedSetIterable iter X.env x=pure x:=by intro _;rfl):PE X (.DictComp kx vx [⟨tg,iter,ifs,0⟩] scope pos) (tCompD n cap wi g tt tk tv):=by
 intro pins s σ H Q I h
 rw [arm_eval_DictComp]
 refine wpAny_comprehension_free (use:=none) rfl hs (zq8 (S.frees I.ok)) S.kind (fun x hx hl=>by rw [S.names x hx,hl]) (thn (hi pins s σ H _ I h) fun v s1 h1=>thn h1 fun itv s2 h2=>?_)
 obtain⟨it,fp,tn,J,H2,e,I2,T,st2,f2,R⟩:=h2
 subst e
 have lt2:∀b∈fp,b<s2.heap.objs.size:=fun b hb=>by obtain⟨o,e,_⟩:=T.obj _ _ st2 b hb;exact zbk8 e
 have hD:H2 s2.heap.objs.size=none:=I2.fresh
 obtain⟨W,⟨m0,w0⟩,turn⟩:=R s2.heap.objs.size hD
 have I3:Inv X pins σ (upd H2 s2.heap.objs.size (.dK [])) { s2 with heap:=s2.heap.push { cls:=.type "dict",data:=.dict #[] },toks:=s2.toks }:=I2.laid (a:=s2.heap.objs.size) (o:=.dK []) (t':=s2.toks) (fun _ _ q=>zbk0 _ q) (zbl1 _) (zaf3 s2.heap I2.big)
 have f3:∀b∈fp,FpOk X pins (upd H2 s2.heap.objs.size (.dK [])) b:=fun b hb=>⟨by rw [zc9 (zbl7 (lt2 b hb))];exact (f2 b hb).1,(f2 b hb).2⟩
 refine wpAny_newObj_type (zj9 fun h₁ hns₁ hk hcl₁=>?_)
 have lt3:∀b∈fp,b<(s2.heap.push { cls:=.type "dict",data:=.dict #[] }).objs.size:=fun b hb=>by rw [zbs7];exact zbr5 (lt2 b hb)
 have I4:Inv (blk X N' scope (s2.heap.push { cls:=.type "dict",data:=.dict #[] }).objs.size { s2 with heap:=s2.heap.push { cls:=.type "dict",data:=.dict #[] },toks:=s2.toks } (upd H2 s2.heap.objs.size (.dK [])) fp pins) [] (capV n cap σ) (upd H2 s2.heap.objs.size (.dK [])) { s2 with heap:=h₁,toks:=s2.toks } :=
  zaf9 I3 S hc f3 lt3 (t1:=s2.toks) hns₁ hk hcl₁ (by simp [capV,hN]) (fun i x v e1 e2=>by
   unfold capV at e2
   by_cases hi:i<n
   ·rw [zbp2 (by simpa using hi),zbq5]at e2
    split at e2<;>cases e2
   ·rw [zbo9 (by simpa using hi),zbn0,zbo4]at e2
    cases ej:cap[i - n]? with
    |none=>rw [ej]at e2;cases e2
    |some j =>
     rw [ej]at e2
     obtain⟨x',a1,a2,a3⟩:=hcap (i - n) j ej
     have:n+(i - n)=i:=by lia
     rw [this,e1]at a1
     cases a1
     refine⟨a3,j,a2,?_⟩
     have e2:(σ[j]?).getD none=some v:=by simpa using e2
     cases q:σ[j]? with
     |none=>rw [q]at e2;cases e2
     |some z=>rw [q]at e2;have:z=some v:=e2;rw [this])
 have loop:codeAny (model X.prog X.w) X.A (.compLoop (.DictComp kx vx [⟨tg,iter,ifs,0⟩] scope pos) 0 (.ref it) (.ref s2.heap.objs.size) (compEnvC scope (cellsFrom ((s2.heap.push { cls:=.type "dict",data:=.dict #[] }).objs.size+1) scope.names (clOf X.env.cells scope.names [])) (s2.heap.push { cls:=.type "dict",data:=.dict #[] }).objs.size X.env))
   (compPost (model X.prog X.w) X.A X.xe none (EP X pins σ Q) (.ref s2.heap.objs.size) (s2.heap.push { cls:=.type "dict",data:=.dict #[] }).objs.size) { s2 with heap:=h₁,toks:=s2.toks }:=by
  generalize hY:(blk X N' scope (s2.heap.push { cls:=.type "dict",data:=.dict #[] }).objs.size { s2 with heap:=s2.heap.push { cls:=.type "dict",data:=.dict #[] },toks:=s2.toks } (upd H2 s2.heap.objs.size (.dK [])) fp pins)=Y at I4
  have st4:tn 0 h₁:=T.keep _ _ _ st2 fun b hb o e=>hk b o (zbk0 _ e)
  have stat:∀ {H':Hp},(∀b∈fp,H' b=none)→∀b∈fp,FpOk Y [] H' b:=fun hn b hb=>by
   subst hY
   obtain⟨f0,f1,f2',f3',f4,f5⟩:=f3 b hb
   exact⟨hn b hb,zbl7 (lt3 b hb),fun z=>(zbj9.mp (I3.stkSub b z)).elim f1 f2',.inl hb,fun x c e=>(by
    rcases S.old I3 e with z | z
    ·exact f4 x c z
    ·exact zbr3 (zbv6 (lt3 b hb) z)),fun p hp=>f5 p (by simpa using hp)⟩
  have hgY:PG Y tg g:=hY ▸ hg _ _ _ _ _
  have htY:PTs Y ifs tt:=hY ▸ ht _ _ _ _ _
  have hkY:PE Y kx tk:=hY ▸ hkx _ _ _ _ _
  have hvY:PE Y vx tv:=hY ▸ hvx _ _ _ _ _
  have yp:Y.prog=X.prog:=by subst hY;rfl
  have yw:Y.w=X.w:=by subst hY;rfl
  have yK:Y.K=X.K:=by subst hY;rfl
  have yA:Y.A=X.A:=by subst hY;rfl
  have yc:Y.calm=true:=by subst hY;rfl
  have yx:Y.xe=fun _ _=>False:=by subst hY;rfl
  have ye:Y.env=compEnvC scope (cellsFrom ((s2.heap.push { cls:=.type "dict",data:=.dict #[] }).objs.size+1) scope.names (clOf X.env.cells scope.names [])) (s2.heap.push { cls:=.type "dict",data:=.dict #[] }).objs.size X.env:=by subst hY;rfl
  rw [← ye]
  refine zq0 (do
      let kv ← eval kx Y.env
      let vv ← holding [kv] (eval vx Y.env)
      standAt { kx.pos with endLine:=vx.pos.endLine,endCol:=vx.pos.endCol }
      holding [kv,vv] (dictSet s2.heap.objs.size kv vv)) (compTurn_dict _ _ _ _ _ _ _ _ _ _) (fun n s' => ∃i σ' H',Inv Y [] σ' H' s'∧tn i s'.heap∧(∀b∈fp,H' b=none)∧W i n σ' H') ?_ m0 ⟨0,_,_,I4,st4,fun b hb=>(f3 b hb).1,w0⟩
  rintro n s3 ⟨i,σ3,H3,I5,st3,fr3,w3⟩
  rcases turn i n σ3 H3 w3 with ⟨stop,qn⟩ | ⟨go,N,hNN,step⟩
  ·have d:=T.done Y yp yw yK yc i [] s3 σ3 H3 (fun _ _=>False) I5 (stat fr3) st3 stop
   rw [yA]at d
   refine thn d fun r s4 ⟨hr,I6⟩=>?_
   subst hr
   obtain⟨m,hm,_⟩:=I6.loc
   rw [ye]at hm
   refine⟨m,hm,fun h' hb=>⟨.ref s2.heap.objs.size,H3,?_,rfl,qn⟩⟩
   subst hY
   exact zy7 I3 f3 rfl I6 hb
  ·have d:=T.item Y yp yw yK yc i [] s3 σ3 H3 (fun _ _=>False) I5 (stat fr3) st3 go
   rw [yA]at d
   refine thn d fun r s4 ⟨u,hr,h4⟩=>?_
   subst hr
   refine thn h4 fun _ s5 ⟨x,H5,I6,r5,y5,st5,fr5⟩=>?_
   have I6':=I6.pinned (stat fr5) (T.obj _ _ st5)
   have a:=hgY _ s5 σ3 H5 x u _ I6' r5 (step x H5 y5)
   rw [yp,yw,yA,yx]at a
   refine thn a fun _ s6 ⟨σ6,H6,I7,q6⟩=>?_
   have b:=htY _ s6 σ6 H6 _ I7 q6
   rw [yp,yw,yA,yx]at b
   refine thn b fun ok s7 ⟨H7,I8,q7⟩=>?_
   have again:∀ {s9:zbk7}{H9:Hp},Inv Y ([]++zp5 fp s5.heap) σ6 H9 s9→N σ6 H9→∃m,m<n∧∃i σ' H',Inv Y [] σ' H' s9∧tn i s9.heap∧(∀b∈fp,H' b=none)∧W i m σ' H':=fun {s9 H9} I9 n9=>by
    obtain⟨m',hm,w9⟩:=hNN σ6 H9 n9
    refine⟨m',hm,i+1,σ6,H9,I9.unpinned,T.keep _ _ _ st5 fun b hb o e=>(I9.pin (b,o) (zbi9 _ (zbi9 _ (zf2 hb e)))).1,fun b hb=>?_,w9⟩
    obtain⟨o,e,d⟩:=T.obj _ _ st5 b hb
    exact (I9.pin (b,o) (zbi9 _ (zbi9 _ (zf2 hb e)))).2.1
   cases ok with
   |false=>exact iteF (again I8 (by simpa using q7))
   |true =>
    rw [if_pos rfl]at q7
    refine iteT ?_
    have c:=hkY _ s7 σ6 H7 _ I8 q7
    rw [yp,yw,yA,yx]at c
    refine zbk2 (thn c fun kv s8 ⟨vk,H8,I9,rk,q9⟩=>zbk2 (wpAny_holding ?_))
    have d:=hvY _ s8 σ6 H8 _ I9 q9
    rw [yp,yw,yA,yx]at d
    refine thn d fun vv s9 ⟨vy,H9,I10,rv,kvs,kk,ek,hD',hl,n9⟩=>zbk2 (wpAny_standAt (wpAny_holding ?_))
    subst ek
    have e:=d_set (A:=Y.A) (E:=fun _ _=>False) (Q:=fun _ s' => ∃m,m<n∧∃i σ' H',Inv Y [] σ' H' s'∧tn i s'.heap∧(∀b∈fp,H' b=none)∧W i m σ' H') I10 hD' rk rv hl fun s' I11=>again I11 n9
    rw [yp,yw,yA]at e
    exact e
 exact codeAny_compStart_dict loop (T.self _ 0 _ _ _ (T.keep _ _ _ st2 fun b hb o e=>hk b o (zbk0 _ e)) loop)
end L2
namespace DL
open PySem.Spec L2
theorem zar3 {K:zbj0}{H:Hp} (k:Key) {d:D}{v:V} (rd:Rep K H d v) {ks:List Key}{ds:List D}{vs:List V} (l:ks.length=vs.length) (r:Reps K H ds vs) :
  ∃vs':List V,putK (mkKV ks vs) k v=mkKV (zi7 ks ds k d).1 vs'∧(zi7 ks ds k d).1.length=vs'.length∧Reps K H (zi7 ks ds k d).2 vs':=by
 have ha:(mkKV ks vs).any (fun kv=>decide (kv.1=k))=hasK ks k:=by
  rw [zx8,zae9 k l]
 unfold putK zi7
 rw [ha]
 by_cases hc:hasK ks k=true
 ·rw [if_pos hc,if_pos hc]
  refine⟨zbx3 (fun k' v'=>if k'=k then v else v') ks vs,?_,by simp;lia,?_⟩
  ·clear hc ha r
   unfold mkKV
   induction ks generalizing vs with
   |nil=>simp
   |cons k' ks ih =>
    cases vs with
    |nil=>simp at l
    |cons v' vs =>
     have i:=ih (vs:=vs) (by simpa using l)
     simp only [zbq0,zbk4,zbp1,i]
     by_cases e:k'=k
     ·simp [e]
     ·simp [e]
  ·clear hc ha
   induction ks generalizing vs ds with
   |nil=>exact .nil
   |cons k' ks ih =>
    cases vs with
    |nil=>simp at l
    |cons v' vs =>
     cases r with
     |cons r1 r2 =>
      have i:=ih (by simpa using l) r2
      simp only [zbp1]
      refine .cons ?_ i
      by_cases e:k'=k
      ·rw [if_pos e,if_pos e];exact rd
      ·rw [if_neg e,if_neg e];exact r1
 ·rw [if_neg hc,if_neg hc]
  refine⟨vs++[v],?_,by simp;lia,r.app (Reps.one rd)⟩
  unfold mkKV
  rw [List.zip_append l]
  rfl
theorem zah3 {ks:List Key}{k:Key}{d:D} (sd:flat d=true):∀ {ds:List D},flats ds=true→flats (zi7 ks ds k d).2=true:=fun {ds} s=>by
 have ap:∀l:List D,flats l=true→flats (l++[d])=true:=by
  intro l
  induction l with
  |nil=>intro _;simp [flats,sd]
  |cons a l ih =>
   intro h
   simp only [flats,zbj5]at h
   simp only [List.cons_append,flats,zbj5]
   exact⟨h.1,ih h.2⟩
 unfold zi7
 split
 ·show flats (zbx3 _ ks ds)=true
  rename_i hc
  clear hc
  induction ks generalizing ds with
  |nil=>simp [flats]
  |cons k' ks ih =>
   cases ds with
   |nil=>simp [flats]
   |cons d' ds =>
    simp only [flats,zbj5]at s
    simp only [zbp1,flats,zbj5]
    refine⟨?_,ih s.2⟩
    split
    ·exact sd
    ·exact s.1
 ·exact ap ds s
noncomputable def stKF (a:KD) (x y:Ev):Option KD:=match keyD x.d with
 |some kk=>if flat y.d&&decide (a.1.length<50000) then some (zi7 a.1 a.2 kk y.d) else none
 |none=>none
noncomputable def zk8 (k:D→Th→Option Th) (ft:DT) (fk fv:DE):List D→Th→KD→Option KD
 |[],_,a=>some a
 |d::ds,t,a=>(k d t).bind fun t1=>(ft t1).bind fun b=>if b then (fk t1).bind fun x=>(fv t1).bind fun y=>(stKF a x y).bind fun a1=>zk8 k ft fk fv ds t1 a1 else zk8 k ft fk fv ds t1 a
noncomputable def zw3 (n:Nat) (cap:List Nat) (fs:DI) (k:D→Th→Option Th) (ft:DT) (fk fv:DE):DE:=fun t=>(fs t).bind fun q=>(capD t cap).bind fun c =>
 (zk8 k ft fk fv q.2 (zbj8 n Sl.no++c.2.map Sl.val) ([],[])).map fun a=>.dn (.dct a.1 a.2)
theorem zat9 {X:Cx}{F:List Addr}{n:Nat}{cap:List Nat}{fs:DI}{g:TG}{kt:D→Th→Option Th}{ft:DT}{fk fv:DE} (hk:∀F',TgOk X.K F' g kt) {σ:L2.St}{H:Hp}{Q:VK} (h:dE X.K F (zw3 n cap fs kt ft fk fv) σ H Q) :
  tCompD n cap (dI X.K F fs) g (fun σ H Q => ∃F',dT X.K F' ft σ H Q) (fun σ H Q => ∃F',dE X.K F' fk σ H Q) (fun σ H Q => ∃F',dE X.K F' fv σ H Q) σ H Q:=by
 obtain⟨A,t,r,R,e,h⟩:=h
 unfold zw3 at e
 cases e1:fs t with
 |none=>rw [e1]at e;cases e
 |some q =>
  obtain⟨b,ds⟩:=q
  cases e2:capD t cap with
  |none=>rw [e1,e2]at e;cases e
  |some q2 =>
   obtain⟨c,caps⟩:=q2
   rw [e1,e2]at e
   simp only [zbj3]at e
   cases e3:zk8 kt ft fk fv ds (zbj8 n Sl.no++caps.map Sl.val) ([],[]) with
   |none=>rw [e3]at e;cases e
   |some xs =>
    rw [e3]at e
    cases e
    obtain⟨cvs,cv1,cv2⟩:=zu7 R e2
    obtain⟨F',F'def⟩:∃F',F'=hidF (b&&c) A F:=⟨_,rfl⟩
    have subF:∀x∈F',x∈A++F:=fun x hx=>by
     rw [F'def]at hx
     unfold hidF at hx
     split at hx
     ·exact hx
     ·exact zbi9 _ hx
    have lessB:∀H:Hp,Same (hide (hidF b A F) H) (hide F' H):=fun H=>zb3 H fun x hx=>by
     rw [F'def]at hx
     cases b<;>cases c<;>simp [hidF]at hx ⊢<;>first | exact hx | exact .inr hx | (rcases hx with z | z<;>simp [z])
    have lessC:∀H:Hp,Same (hide (hidF c A F) H) (hide F' H):=fun H=>zb3 H fun x hx=>by
     rw [F'def]at hx
     cases b<;>cases c<;>simp [hidF]at hx ⊢<;>first | exact hx | exact .inr hx | (rcases hx with z | z<;>simp [z])
    refine⟨A,t,b,ds,R,e1,fun J H1 Good gs src gd Dd hD=>?_⟩
    have H1A:Lists H1 (A++F):=R.mu.mono gs
    have st0:Same (hide F' H1) (hide (Dd::F') (upd H1 Dd (.dK []))):=zk2 hD
    refine⟨fun i m σ' H'=>i+m=ds.length∧∃th a vs,RS X.K (Dd::F') H' [] th σ'∧zk8 kt ft fk fv (ds.drop i) th a=some xs∧H' Dd=some (.dK (mkKV a.1 vs))∧a.1.length=vs.length∧Reps X.K (hide (Dd::F') H') a.2 vs∧flats a.2=true∧Same H1 H'∧Good (Dd::F') H',
     ⟨ds.length,by lia,_,([],[]),[],⟨?_,zbm2,fun p hp=>(by cases hp),?_⟩,by simpa using e3,zc1,rfl,.nil,rfl,zd4 hD,src.keep _ _ _ _ gd (fun b o z=>st0 _ _ (lessB _ _ _ z))⟩,?_⟩
    ·intro q hq
     have hq:q∈Dd::F':=hq
     rcases zbj9.mp hq with z | z
     ·exact⟨mK [],by rw [z];exact zc1⟩
     ·obtain⟨us,w⟩:=H1A q (subF q z)
      exact⟨us,(zd4 hD) _ _ w⟩
    ·unfold capV
     rw [cv1]
     exact RSl.noVals (Reps.mono (fun b o z=>st0 _ _ (lessC H1 _ _ (zb6 gs _ _ z))) cv2) n
    ·rintro i m σ' H' ⟨hm,th,a,vs,RR,ec,hv,lv,hr,fl,sm,gg⟩
     cases m with
     |zero =>
      have z:i=ds.length:=by lia
      subst z
      rw [zbq3]at ec
      cases ec
      refine .inl ⟨src.stop _ _ gg,h _ H' (gs.trans sm) ⟨[Dd],by simp,fun b hb=>by simp at hb;subst hb;exact Same.free gs hD,.dct (vs:=vs) lv hv (RepDs.of_flat fl (Reps.hid (fun q hq=>?_) fl (Reps.mono (zb7 _ _) hr)))⟩⟩
      rcases zbj4.mp hq with z | z
      ·exact⟨mK (mkKV xs.1 vs),by rw [zbk6.mp z];exact hv⟩
      ·obtain⟨us,w⟩:=H1A q z
       exact⟨us,sm _ _ w⟩
     |succ m =>
      have hil:i<ds.length:=by lia
      refine .inr ⟨src.go _ _ i gg hil,fun σ' H'=>i+1+m=ds.length∧∃th a vs,RS X.K (Dd::F') H' [] th σ'∧zk8 kt ft fk fv (ds.drop (i+1)) th a=some xs∧H' Dd=some (.dK (mkKV a.1 vs))∧a.1.length=vs.length∧Reps X.K (hide (Dd::F') H') a.2 vs∧flats a.2=true∧Same H1 H'∧Good (Dd::F') H',
       fun σ' H' q=>⟨m,zbo2 m,q⟩,fun x H2 y=>?_⟩
      obtain⟨gs2,d,hd,rd⟩:=src.yld _ _ i x H2 gg RR.mu y hil
      have ed:ds.drop i=d::ds.drop (i+1):=by
       have hd':ds[i]=d:=by
        rw [zbj6 hil]at hd
        exact Option.some.inj hd
       rw [← hd']
       exact zbm6 hil
      rw [ed]at ec
      unfold zk8 at ec
      cases k1:kt d th with
      |none=>rw [k1]at ec;cases ec
      |some t1 =>
       rw [k1]at ec
       simp only [zbj3]at ec
       refine hk (Dd::F') σ' H2 [] th t1 d x _ (RR.grow gs2) rd k1 fun σ2 A2 gr2 R2=>?_
       have A20:=zn0 R2 gr2
       subst A20
       cases k2:ft t1 with
       |none=>rw [k2]at ec;cases ec
       |some bb =>
        rw [k2]at ec
        simp only [zbj3]at ec
        refine⟨Dd::F',[],t1,bb,R2,k2,fun H3 gs3=>?_⟩
        cases bb with
        |false =>
         refine iteF ⟨by lia,t1,a,vs,R2.grow gs3,by simpa using ec,gs3 _ _ (gs2 _ _ hv),lv,Reps.mono (zb6 (gs2.trans gs3)) hr,fl,(sm.trans gs2).trans gs3,src.keep _ _ _ _ gg (zb6 (gs2.trans gs3))⟩
        |true =>
         simp only [if_true]at ec
         cases w3:fk t1 with
         |none=>rw [w3]at ec;cases ec
         |some rk =>
          rw [w3]at ec
          simp only [zbj3]at ec
          cases w4:fv t1 with
          |none=>rw [w4]at ec;cases ec
          |some rv =>
           rw [w4]at ec
           simp only [zbj3]at ec
           cases w5:stKF a rk rv with
           |none=>rw [w5]at ec;cases ec
           |some a1 =>
            rw [w5]at ec
            simp only [zbj3]at ec
            unfold stKF at w5
            split at w5
            case h_2=>cases w5
            rename_i kk ek
            split at w5
            case isFalse=>cases w5
            rename_i c5
            rw [zbj5,decide_eq_true_eq]at c5
            cases w5
            refine iteT ⟨Dd::F',[],t1,rk,R2.grow gs3,w3,fun x' H7 gs7 q7=>⟨Dd::F',[],t1,rv,(R2.grow gs3).grow gs7,w4,fun y' H8 gs8 q8=>?_⟩⟩
            have ex:=zv6 q7.full ek
            subst ex
            have s8:=((gs2.trans gs3).trans gs7).trans gs8
            have cv:=q8.cleanF (((R2.grow gs3).grow gs7).mu)
            obtain⟨vs',pz,pl,pr⟩:=zar3 kk cv lv (Reps.mono (zb6 s8) hr)
            have hu:Same (hide (Dd::F') H8) (hide (Dd::F') (upd H8 Dd (.dK (putK (mkKV a.1 vs) kk y')))):=zg1 (zbj7 ..)
            refine⟨mkKV a.1 vs,kk,rfl,s8 _ _ hv,?_,by lia,t1,zi7 a.1 a.2 kk rv.d,vs',RS.updFK (((R2.grow gs3).grow gs7).grow gs8) (zbj7 ..),ec,?_,pl,Reps.mono hu pr,zah3 c5.1 fl,?_,?_⟩
            ·unfold mkKV
             rw [zbq7]
             exact zbk1 (zbt1 _ _) (zbk9 c5.2 (by rw [sizeLine_eq];decide))
            ·rw [zc1];exact congrArg (fun z=>some (HO.dK z)) pz
            ·exact fun b o z=>by
              rw [zc9 (fun w=>by rw [w,hD]at z;cases z)]
              exact s8 _ _ (sm _ _ z)
            ·exact src.keep _ _ _ _ gg (fun b o z=>hu _ _ (zb6 s8 _ _ z))
theorem zan1 {X:Cx}{F:List Addr}{kx vx tg iter:Expr}{ifs:List Expr}{scope:Scope}{pos:Pos}{fs:DI}{g:TG}{kt:D→Th→Option Th}{ft:DT}{fk fv:DE} (n:Nat) (cap:List Nat) (N':List Str) (hc:X.calm=true) (hi:PI X tg iter (dI X.K F fs))
  (hg:∀C s₃ H₃ fp pins,PG (blk X N' scope C s₃ H₃ fp pins) tg g) (hk:∀F',TgOk X.K F' g kt) (ht:∀C s₃ H₃ fp pins F',PTs (blk X N' scope C s₃ H₃ fp pins) ifs (dT X.K F' ft)) (hkx:∀C s₃ H₃ fp pins F',PE (blk X N' scope C s₃ H₃ fp pins) kx (dE X.K F' fk)) (hvx:∀C s₃ H₃ fp pins F',PE (blk X N' scope C s₃ H₃ fp pins) vx (dE X.K F' fv))
  (hkd:scope.kind=.function:=by rfl) (hcs:zw6 scope.names X.env.kindOf=true:=by rfl) (hN:N'.length=n+cap.length:=by rfl) (hcap:zac2 N' X.N n scope.names 0 cap=true:=by rfl)
  (hs:∀x,foldedSetIterable iter X.env x=pure x:=by intro _;rfl):PE X (.DictComp kx vx [⟨tg,iter,ifs,0⟩] scope pos) (dE X.K F (zw3 n cap fs kt ft fk fv)) :=
 PE.imp (pe_compD (g:=g) (zak3 hkd hcs) hc hi hN (fun k j e=>by simpa using zq9 hcap k j e) hg (fun C s₃ H₃ fp pins pins' s σ H Q I ⟨F',q⟩=>ht C s₃ H₃ fp pins F' pins' s σ H Q I q)
  (fun C s₃ H₃ fp pins pins' s σ H Q I ⟨F',q⟩=>hkx C s₃ H₃ fp pins F' pins' s σ H Q I q) (fun C s₃ H₃ fp pins pins' s σ H Q I ⟨F',q⟩=>hvx C s₃ H₃ fp pins F' pins' s σ H Q I q) hs) fun _ _ _ h=>zat9 hk h
end DL
namespace L2
open PySem.Spec
theorem d_update {X:Cx}{pins:List (Addr×Obj)}{σ:L2.St}{H:Hp}{s:zbk7}{a b:Addr}{kvs more:List (Key×V)}{A:Around}{E:Value→zbk7→Prop}{Q:Value→zbk7→Prop} (I:Inv X pins σ H s) (ne:a≠b) (e:H a=some (.dK kvs)) (e2:H b=some (.dK more)) (l:kvs.length+more.length≤sizeLine)
  (h:∀s',Inv X pins σ (upd H a (.dK (zw4 kvs more))) s'→Q .none s'):wpAny (model X.prog X.w) A (call (.builtin "dict.update") [.ref a,.ref b]) Q E s:=by
 obtain⟨z,hd,vs,rel,dd⟩:=dk_of I.hok e
 obtain⟨z2,hd2,vs2,rel2,dd2⟩:=dk_of I.hok e2
 have hl:vs.length+vs2.length≤sizeLine:=by rw [← rel.length, ← rel2.length];exact l
 have hz:(zw4 kvs more).length≤sizeLine:=zbk3 (zt8 more kvs) l
 refine call_meetsIn zbx4 dd.typeIs PySem.F.entry_dict_update (PySem.F.args_dict_update_2 _ _) (meets_dict_update (zh6 X.prog X.w) a b ne hd2) ⟨vs,vs2,dd,dd2,hl,fun h' dd' _ hs=>h _ ?_⟩
 have he:∃q,h'.get? a=some q:=let ⟨q,_,_,hq,_⟩:=dd';⟨q,hq⟩
 exact zaf4 (t':=s.toks) I (by rw [e];exact True.intro) hs he (zbe8 hz hd (rel2.merge rel) dd')
end L2
namespace DL
open PySem.Spec L2
theorem RS.placeF {K:zbj0}{F A:List Addr}{H:Hp}{t:Th}{σ:L2.St}{i:Nat}{ks:List Key}{ds:List D} (R:RS K F H A t σ) (e:t[i]?=some (.dp (.dct ks ds))) (fl:flats ds=true) :
  ∃p vs,σ[i]?=some (some (.ref p))∧p∈A∧ks.length=vs.length∧H p=some (.dK (mkKV ks vs))∧Reps K (hide (A++F) H) ds vs ∧
   ∀H1 ks2 ds2 vs2,Same H H1→ks2.length=vs2.length→flats ds2=true→Reps K (hide (A++F) H1) ds2 vs2 →
    ∃A2,RS K F (L2.upd H1 p (.dK (mkKV ks2 vs2))) A2 (t.set i (.dp (.dct ks2 ds2))) σ∧Gr A H A2 (L2.upd H1 p (.dK (mkKV ks2 vs2))):=by
 obtain⟨v,B,a1,a2,a3,a4,a5⟩:=R.rel.focusDp R.nd e
 cases a4 with
 |flat f _=>simp [flat]at f
 |@dct _ _ p vs B' l h r =>
  obtain⟨rr,rfl⟩:=RepDs.fl r fl
  have pA:p∈A:=a2 p (by simp)
  refine⟨p,vs,a1,pA,l,h,rr,fun H1 ks2 ds2 vs2 gs l2 fl2 r2=>?_⟩
  have hh:Same (hide (A++F) H) (hide (A++F) (L2.upd H1 p (.dK (mkKV ks2 vs2)))):=fun b o q=>by
   obtain⟨n,q⟩:=zl8 q
   have nb:b≠p:=fun z=>n (zbj1 _ (z ▸ pA))
   exact zd0 (by rw [zc9 nb];exact gs _ _ q) n
  have h2:Same (hide (A++F) H1) (hide (A++F) (L2.upd H1 p (.dK (mkKV ks2 vs2)))):=zg1 (zbj1 _ pA)
  obtain⟨A2,d1,d3⟩:=a5 _ _ (.dct ks2 ds2) [p] hh (.dct l2 zc1 (RepDs.of_flat fl2 (Reps.mono h2 r2))) (List.Sublist.refl _) (fun q hq nq o w=>by rw [zc9 (by simpa using nq)];exact gs _ _ w)
  have sub:∀x∈A2,x∈A:=fun x hx=>d3.subset hx
  have mu:Lists (L2.upd H1 p (.dK (mkKV ks2 vs2))) (A++F):=fun q hq=>by
   by_cases z:q=p
   ·exact⟨mD _,by rw [z];exact zc1⟩
   ·obtain⟨us,w⟩:=R.mu q hq
    exact⟨us,by rw [zc9 z];exact gs _ _ w⟩
  refine⟨A2,⟨fun q hq=>mu q ?_,R.nd.sublist d3,fun q hq=>R.dj q (sub q hq),RSl.mono (zb3 _ fun a z=>?_) d1 fun _ _ _ h=>h⟩,fun b o n h=>?_,fun b hb=>?_,fun b hb=>.inl (sub b hb)⟩
  ·exact (zbj4.mp hq).elim (fun z=>zbj1 _ (sub q z)) (fun z=>zbi9 _ z)
  ·exact (zbj4.mp z).elim (fun z=>zbj1 _ (sub a z)) (fun z=>zbi9 _ z)
  ·rw [zc9 (fun z=>n (by rw [z];exact pA))];exact gs _ _ h
  ·obtain⟨us,w⟩:=mu b (zbj1 _ hb)
   rw [w];simp
def mgKD:List Key→List D→KD→KD
 |k::ks,d::ds,a=>mgKD ks ds (zi7 a.1 a.2 k d)
 |_,_,a=>a
theorem zbb1 {K:zbj0}{H:Hp}:∀ {ks2:List Key}{ds2:List D}{vs2:List V}{a:KD}{vs:List V},ks2.length=vs2.length→Reps K H ds2 vs2→a.1.length=vs.length→Reps K H a.2 vs→flats ds2=true→flats a.2=true →
  ∃vs':List V,zw4 (mkKV a.1 vs) (mkKV ks2 vs2)=mkKV (mgKD ks2 ds2 a).1 vs'∧(mgKD ks2 ds2 a).1.length=vs'.length∧Reps K H (mgKD ks2 ds2 a).2 vs'∧flats (mgKD ks2 ds2 a).2=true
 |[],ds2,vs2,a,vs,l2,r2,l,r,_,f=>by
  cases vs2 with
  |nil=>cases r2;exact⟨vs,rfl,l,r,f⟩
  |cons _ _=>simp at l2
 |k::ks2,ds2,vs2,a,vs,l2,r2,l,r,f2,f=>by
  cases r2 with
  |nil=>simp at l2
  |@cons d v ds vs3 r1 rs =>
   simp only [flats,zbj5]at f2
   obtain⟨vs1,e1,l1,r1'⟩:=zar3 k r1 l r
   obtain⟨vs',e',l',r',f'⟩:=zbb1 (ks2:=ks2) (a:=zi7 a.1 a.2 k d) (by simpa using l2) rs l1 r1' f2.2 (zah3 f2.1 f)
   refine⟨vs',?_,l',r',f'⟩
   show zw4 (putK (mkKV a.1 vs) k v) (mkKV ks2 vs3)=_
   rw [e1]
   exact e'
end DL
namespace L2
open PySem.Spec
noncomputable def tDUpd (td ty:TE):TE:=fun σ H Q=>td σ H fun x H1 => ∃a,x=.ref a∧IsD H1 a∧ty σ H1 fun y H2 => ∃b kvs more,y=.ref b∧a≠b∧H2 a=some (.dK kvs)∧H2 b=some (.dK more)∧kvs.length+more.length≤sizeLine∧Q .non (upd H2 a (.dK (zw4 kvs more)))
theorem pe_dupd {X:Cx}{o e:Expr}{apos cpos:Pos}{td ty:TE} (ho:PE X o td) (he:PE X e ty) (m:M1 X o "update" apos e cpos):PE X (.Call (.Attribute o "update" apos) [e] [] cpos) (tDUpd td ty):=by
 intro pins s σ H Q I h
 refine wpAny_Call_method m.base m.few m.line PySem.F.plainAttrs_dict zbx4 PySem.F.type_dict_update (thn (ho pins s σ H _ I h) fun u s1 ⟨x,H1,I1,rx,a,ex,d,q1⟩=>?_)
 subst ex
 obtain rfl:u=Value.ref a:=rx
 obtain⟨t1,t2,_⟩:=isD_at I1 d
 refine⟨t1,t2,?_⟩
 rw [m.trees]
 refine Calls.callWith_builtin rfl (Calls.evalArgs_plain (Calls.spliced_cons (thn (he pins s1 σ H1 _ I1 q1) fun iv s2 ⟨y,H2,I2,ry,b,kvs,more,ey,ne,e1,e2,l,q2⟩=>Calls.spliced_nil ?_)))
 subst ey
 obtain rfl:iv=Value.ref b:=ry
 exact d_update I2 ne e1 e2 l fun s3 I3=>⟨.non,_,I3,rfl,q2⟩
end L2
namespace DL
open PySem.Spec L2
noncomputable def kUpd (t:Th) (i:Nat) (r:Ev):Option Out:=match t[i]?,r with
 |some (.dp (.dct ks ds)),.dn (.dct ks2 ds2)=>if (flats ds&&flats ds2)&&decide (ks.length+ks2.length≤50000) then some (.nx (t.set i (.dp (.dct (mgKD ks2 ds2 (ks,ds)).1 (mgKD ks2 ds2 (ks,ds)).2)))) else none
 |_,_=>none
def dUpd (i:Nat) (f:DE):DS:=fun t=>(f t).bind (kUpd t i)
section
variable {X:Cx}{F:List Addr}{a:Expr}{fa:DE}{pos:Pos}
theorem psd_upd (i:Nat) {x:Str}{p0 apos cpos:Pos} (he:PE X a (dE X.K F fa)) (hN:X.N[i]?=some x:=by rfl) (hv:Vis X.env.scope x:=by first | exact Or.inl rfl | exact Or.inr (Or.inl rfl) |exact Or.inr (Or.inr rfl)) (hd:(x ==("__debug__":Str))=false:=by decide)
  (hcd:(x ==("__classdict__":Str))=false:=by decide)
  (hbase:attributeBase (.Name x p0) "update" X.env (eval (.Name x p0) X.env)=eval (.Name x p0) X.env:=by rfl)
  (hfew:((zbs5 cpos (zbl2 [a] X.env)).all (fun x=>!x.1)&&(backToKw cpos (keywordEach [] X.env)).all (fun x=>x.1.isSome)
   && decide ([a].length+([]:List Keyword).length+(if ([]:List Keyword).isEmpty then 0 else 1)<30))=true:=by rfl)
  (hline:(apos.endLine == cpos.line)=true:=by rfl) (htr:zbs5 cpos (zbl2 [a] X.env)=[(false,eval a X.env)]:=by rfl)
  (hsw:swapsWith (.Call (.Attribute (.Name x p0) "update" apos) [a] [] cpos) none pos.line X.env=pure false:=by rfl) :
  PS X (.Expr (.Call (.Attribute (.Name x p0) "update" apos) [a] [] cpos) pos) (dS X.K F (dUpd i fa)):=by
 refine PS.imp (zaz4 (pe_dupd (zt4 (i:=i) hN hv hd hcd) he ⟨hbase,hfew,hline,htr⟩) hsw) ?_
 rintro E σ H ⟨A,t,o,R,e,h⟩
 unfold dUpd at e
 cases e1:fa t with
 |none=>rw [e1]at e;cases e
 |some r =>
  rw [e1]at e
  have e:kUpd t i r=some o:=e
  unfold kUpd at e
  split at e
  case h_2=>cases e
  rename_i ks ds ks2 ds2 z _
  split at e
  case isFalse=>cases e
  rename_i ok
  simp only [zbj5,decide_eq_true_eq]at ok
  cases e
  obtain⟨p,vs,a1,a2,l,hp,hr,mk⟩:=R.placeF z ok.1.1
  refine⟨_,a1,p,rfl,.inl ⟨_,.inl hp⟩,A,t,_,R,e1,fun y H1 gs q=>?_⟩
  obtain⟨B,nB,fB,rd⟩:=q
  cases rd with
  |flat f _=>simp [flat]at f
  |@dct _ _ b vs2 B' l2 hb r2 =>
   obtain⟨rr,rfl⟩:=RepDs.fl r2 ok.1.2
   have nb:p≠b:=fun w=>by
    have:=fB b (by simp)
    rw [← w,hp]at this
    cases this
   obtain⟨vs',e',l',r',f'⟩:=zbb1 (a:=(ks,ds)) l2 (Reps.mono (zb3 H1 fun x hx=>zbi9 _ hx) rr) l (Reps.mono (zb6 gs) hr) ok.1.2 ok.1.1
   refine⟨b,mkKV ks vs,mkKV ks2 vs2,rfl,nb,gs _ _ hp,hb,?_,?_⟩
   ·unfold mkKV
    rw [zbq7,zbq7,sizeLine_eq]
    have:=zbt1 ks.length vs.length
    have:=zbt1 ks2.length vs2.length
    lia
   ·obtain⟨A2,R',g'⟩:=mk H1 _ _ vs' gs l' f' r'
    rw [e']
    exact h _ _ _ g' R'
end
end DL
namespace DL
open PySem.Spec L2
theorem zas3 {K:zbj0}{H:Hp}{k:Key}{d:D}:∀ {ks:List Key}{ds:List D}{vs:List V},ks.length=vs.length→Reps K H ds vs→zaj3 ks ds k=some d→∃v,valV (mkKV ks vs) k=some v∧Rep K H d v
 |[],ds,vs,l,r,e=>by simp [zaj3]at e
 |k'::ks,ds,vs,l,r,e=>by
  cases r with
  |nil=>simp at l
  |@cons d' v' ds vs r1 r2 =>
   unfold zaj3 at e
   by_cases z:k'=k
   ·rw [if_pos z]at e
    cases e
    exact⟨v',zs3 (p:=(k',v')) z,r1⟩
   ·rw [if_neg z]at e
    obtain⟨v,e1,e2⟩:=zas3 (ks:=ks) (by simpa using l) r2 e
    exact⟨v,(zs4 (p:=(k',v')) z).trans e1,e2⟩
section
variable {X:Cx}{F:List Addr}{a b c o:Expr}{es:List Expr}{fa fb fc:DE}{ga:DA}{pos:Pos}
noncomputable def zac9:Ev→Ev→Option Ev:=fun r1 r2=>match r1.d,keyD r2.d with
 |.dct ks ds,some k=>(match zaj3 ks ds k with
  |some d=>if flat d then some (.cl d) else none
  |none=>none)
 |_,_=>none
theorem zaz9 (hu:X.A.units+64<cLine) (ha:PE X a (dE X.K F fa)) (hb:PE X b (dE X.K F fb)) (hs:NoSl b:=by intro _ _;rfl):PE X (.Subscript a b pos) (dE X.K F (d2 zac9 fa fb)):=by
 refine PE.imp (pe_dget (by lia) ha hb hs) ?_
 intro σ H Q h
 obtain⟨A,t,r1,r2,r,R,e1,e2,e,h,w⟩:=two h
 refine⟨A,t,r1,R,e1,fun x H1 gs1 q1=>⟨A,t,r2,R.grow gs1,e2,fun y H2 gs2 q2=>?_⟩⟩
 have gs:=gs1.trans gs2
 have p1:=(q1.mono gs2).full
 have p2:=q2.full
 unfold zac9 at e
 split at e
 case h_2=>cases e
 rename_i ks ds k z ek
 split at e
 case h_2=>cases e
 rename_i d eg
 split at e
 case isFalse=>cases e
 rename_i fl
 cases e
 rw [z]at p1
 cases p1 with
 |@dct _ _ p vs l h1 h2 =>
  have ey:=zv6 p2 ek
  subst ey
  obtain⟨v,hv,rv⟩:=zas3 l h2 eg
  refine⟨p,v,rfl,?_,h _ H2 gs (Rep.hid (R.mu.mono gs) fl rv)⟩
  have:=DGet.k (k:=k) h1
  rw [hv]at this
  exact this
end
end DL
namespace DL
open PySem.Spec L2
noncomputable def zbf7 (j:Nat) (f:DE) (g:DS):DS:=fun t=>(f t).bind fun r=>match r.d with
 |.lst ds=>if r.ok then (forJ (za6 j) g ds t).map Out.nx else none
 |_=>none
section
variable {X:Cx}{F:List Addr}{J:List Nat}{a b:Expr}{fa fb:DE}{g:DS}{pos:Pos}
theorem psj_for {body:List Stmt}{j:Nat}{y:Str}{pt:Pos} (hjJ:j∈J) (hp:PassesOwn (model X.prog X.w) X.A X.env X.xe) (hc:X.calm=true) (hl:PE X a (dE X.K F fa)) (hg:PG X (.Name y pt) (zaw6 j)) (hb:PSs X body (dSJ X.K F J g))
  (hs:∀z,foldedSetIterable a X.env z=pure z:=by intro _;rfl):PS X (.For (.Name y pt) a body [] pos) (dSJ X.K F J (zbf7 j fa g)):=by
 refine PS.imp (zah4 hp hc (zae2 hl) hg hb hs) ?_
 rintro E σ H ⟨A,t,te,R,e,h⟩
 unfold zbf7 at e
 cases e1:fa t with
 |none=>rw [e1]at e;cases e
 |some r =>
  rw [e1]at e
  refine⟨A,t,r,R,e1,fun v H1 gs q=>?_⟩
  simp only [zbj3]at e
  split at e
  case h_2=>cases e
  rename_i ds z
  split at e
  case isFalse=>cases e
  rename_i ok
  cases ef:forJ (za6 j) g ds t with
  |none=>rw [ef]at e;cases e
  |some t9 =>
   rw [ef]at e
   cases e
   have cl:=q.clean R.mu gs ok
   rw [z]at cl
   cases cl with
   |@lst _ p vs h1 h2 =>
    refine⟨p,rfl,⟨vs,SqL.mono (zb7 _ _) h1⟩,?_⟩
    refine⟨fun k m σ1 H2=>k+m=ds.length∧∃A1 t1,Gr A H A1 H2∧RS X.K F H2 A1 t1 σ1∧(∀n,n∉J→σ1[n]?=σ[n]?)∧SqL X.K (hide (A1++F) H2) p vs∧Reps X.K (hide (A1++F) H2) ds vs∧forJ (za6 j) g (ds.drop k) t1=some te,
     ⟨ds.length,by lia,A,t,Gr.of_same R.mu.left gs,R.grow gs,fun _ _=>rfl,h1,h2,ef⟩,?_⟩
    rintro k m σ1 H2 ⟨hm,A1,t1,gr,R2,s1,hq1,r1,e1⟩
    cases m with
    |zero =>
     have z:k=ds.length:=by lia
     subst z
     rw [zbq3]at e1
     cases e1
     exact .inl ⟨⟨vs,SqL.mono (zb7 _ _) hq1,by rw [r1.length];exact zbl1 _⟩,h σ1 H2 A1 gr R2 s1⟩
    |succ m =>
     have hk:k<ds.length:=by lia
     have hk':k<vs.length:=by rw [r1.length];exact hk
     refine .inr ⟨⟨vs,vs[k],SqL.mono (zb7 _ _) hq1,zbj6 hk'⟩,fun σ2 H3=>k+1+m=ds.length∧∃A1 t1,Gr A H A1 H3∧RS X.K F H3 A1 t1 σ2∧(∀n,n∉J→σ2[n]?=σ[n]?)∧SqL X.K (hide (A1++F) H3) p vs∧Reps X.K (hide (A1++F) H3) ds vs∧forJ (za6 j) g (ds.drop (k+1)) t1=some te,
      fun σ2 H3 w=>⟨m,zbo2 m,w⟩,fun w H3 yl=>?_⟩
     obtain⟨ey,ew⟩:=yl
     subst ey
     have hw:=ew vs (SqL.mono (zb7 _ _) hq1)
     obtain⟨d,hd',rd⟩:=r1.getV hw
     have ed:ds.drop k=d::ds.drop (k+1):=by
      rw [zbm6 hk]
      rw [zbj6 hk]at hd'
      cases hd';rfl
     rw [ed]at e1
     simp only [forJ]at e1
     cases e2:za6 j d t1 with
     |none=>rw [e2]at e1;cases e1
     |some t2 =>
      rw [e2]at e1
      simp only [zbj3]at e1
      obtain⟨A2,gr2,R3⟩:=R2.put (i:=j) (r:=.cl d) (v:=w) (t':=t2) (Same.refl _) rd e2
      cases e3:g t2 with
      |none=>rw [e3]at e1;cases e1
      |some o3 =>
       rw [e3]at e1
       cases o3 with
       |bk t3=>cases e1
       |rt r=>cases e1
       |ct t3=>cases e1
       |nx t3 =>
        refine⟨A2,t2,t3,R3,e3,fun σ3 H3 A3 gr3 R4 q3=>⟨by lia,A3,t3,(gr.trans gr2).trans gr3,R4,fun n hn=>?_,?_,?_,e1⟩⟩
        ·rw [q3 n hn,zbt4 (fun (z:j=n)=>hn (z ▸ hjJ))];exact s1 n hn
        ·exact SqL.mono gr3.same (SqL.mono gr2.same hq1)
        ·exact Reps.mono gr3.same (Reps.mono gr2.same r1)
def zao4:Ev→Option Ev:=fun r=>(truD r.d).map fun b=>.cl (.bl (!b))
theorem ped_notT (ha:PE X a (dE X.K F fa)):PE X (.UnaryOp .Not a pos) (dE X.K F (d1 zao4 fa)):=by
 intro pins s σ H Q I h
 obtain⟨A,t,r,R,e,h⟩:=h
 unfold d1 at e
 cases e1:fa t with
 |none=>rw [e1]at e;cases e
 |some r1 =>
  rw [e1]at e
  have e:zao4 r1=some r:=e
  unfold zao4 at e
  cases e2:truD r1.d with
  |none=>rw [e2]at e;cases e
  |some b =>
   rw [e2]at e
   cases e
   refine UnaryOp_ (thn (ha pins s σ H (fun v H1=>Same H H1∧RepEv X.K F A H H1 r1 v) I ⟨A,t,r1,R,e1,fun v H1 g1 q1=>⟨g1,q1⟩⟩) fun v s1 ⟨x,H1,I1,rx,g1,q1⟩=>?_)
   refine not_of (thn (tru_ok pins s1 σ H1 x v (fun k H2=>k=b∧H2=H1) I1 rx ⟨b,zax5 q1.full e2,rfl,rfl⟩) fun k s2 ⟨H2,I2,ek,eh⟩=>?_)
   subst ek eh
   exact⟨.bl (!k),_,I2,rfl,h _ _ g1 (.bl _)⟩
end
end DL
namespace KX
open PySem.Spec L2 DL
abbrev qA:=kOr (kI tt2 fun i j=>.int (i+j)) kCat
abbrev qS:=kI tt2 fun i j=>.int (i - j)
abbrev qM:=kOr (kI cMul fun i j=>.int (i*j)) kRep
abbrev qV:=kI cDiv fun i j=>.int (i.fdiv j)
abbrev qR:=kI cMod fun i j=>.int (i.fmod j)
abbrev qL:=kI tt2 fun i j=>.bl (decide (i<j))
abbrev qE:=kI tt2 fun i j=>.bl (decide (i≤j))
abbrev qG:=kI tt2 fun i j=>.bl (decide (j<i))
abbrev qU:=kBls fun bs=>bs.all id
abbrev qP:=kI cPow fun i j=>.int (i ^ j.toNat)
theorem app_of (t:Th) {f:DE}{i:Nat}{xs:List D}{d:D} (hf:f t=some (.cl d)) (hi:t[i]?=some (.own xs)) (hl:xs.length<100000):dApp i f t=some (.nx (t.set i (.own (xs++[d])))):=by
 unfold dApp
 rw [hf]
 simp only [zbj3,kApp,hi,Ev.ok,Ev.d,hl,decide_true,Bool.and_self,if_true]
theorem asg_of (t:Th) {f:DE}{i:Nat}{d:D} (hf:f t=some (.cl d)) (hi:i<t.length):dAsg i f t=some (.nx (t.set i (.val d))):=by
 unfold dAsg
 rw [hf]
 simp only [zbj3,zn8,hi,if_true,zbp0]
theorem zd5:∀xs:List Int,flats (xs.map D.int)=true
 |[]=>rfl
 |x::xs=>by
  have:=zd5 xs
  simp [flats,flat,this]
theorem zg5 {k:List Ev→Option Ev}{fa fb:DE}{t:Th}{ra rb:Ev} (h1:fa t=some ra) (h2:fb t=some rb):dT1 k (za2 fa (za2 fb dNil)) t=k [ra,rb]:=by
 simp [dT1,za2,dNil,h1,h2]
theorem zh7 {k:Ev→Ev→Option Ev}{fa fb:DE}{t:Th}{ra rb:Ev} (h1:fa t=some ra) (h2:fb t=some rb):d2 k fa fb t=k ra rb:=by
 simp [d2,h1,h2]
theorem zaa8 (n:Nat):∀xs:List Int,eqOk (n+1) (.lst (xs.map D.int)) (.lst (xs.map D.int))=true
 |[]=>rfl
 |x::xs=>by
  have:=zaa8 n xs
  simp only [eqOk]at this ⊢
  simp only [zbk4,zbq0,zbn4,this,zby4]
  cases n<;>rfl
theorem zu8 {k:List Ev→Option Ev}{fa fb fc fd:DE}{t:Th}{ra rb rc rd:Ev} (h1:fa t=some ra) (h2:fb t=some rb) (h3:fc t=some rc) (h4:fd t=some rd):dT1 k (za2 fa (za2 fb (za2 fc (za2 fd dNil)))) t=k [ra,rb,rc,rd]:=by
 simp [dT1,za2,dNil,h1,h2,h3,h4]
theorem zau0 {k:List Ev→Option Ev}{fa fb fc:DE}{t:Th}{ra rb rc:Ev} (h1:fa t=some ra) (h2:fb t=some rb) (h3:fc t=some rc):dT1 k (za2 fa (za2 fb (za2 fc dNil))) t=k [ra,rb,rc]:=by
 simp [dT1,za2,dNil,h1,h2,h3]
theorem zj7 {k:List Ev→Option Ev}{fa:DE}{t:Th}{ra:Ev} (h1:fa t=some ra):dT1 k (za2 fa dNil) t=k [ra]:=by
 simp [dT1,za2,dNil,h1]
theorem ze4 {t:Th}{f:DE}{i:Nat}{d:D} (hf:f t=some (.cl d)) (hi:i<t.length):dAsg i f t=some (.nx (t.set i (.val d))):=asg_of t hf hi
theorem zm2 {t:Th}{f:DE}{i:Nat}{xs:List D} (hf:f t=some (.nw xs)) (hi:i<t.length):dAsg i f t=some (.nx (t.set i (.own xs))):=by
 unfold dAsg
 rw [hf]
 simp only [zbj3,zn8,hi,if_true,zbp0]
theorem zai8 (n b:Nat) (h:b<n):ixN n (b:Int)=some b:=by unfold ixN;rw [if_pos (by lia),if_pos (by lia)];simp
theorem get_map (L:List Int) (b:Nat) (h:b<L.length):(L.map D.int)[b]?=some (.int (L.getD b 0)):=by simp [zbk5,h]
theorem at_map (L:List Int) (b:Nat) (h:b<L.length):atI (L.map D.int) (b:Int)=some (.int (L.getD b 0)):=by
 unfold atI
 rw [zai8 _ _ (by simpa using h)]
 exact get_map L b h
theorem ixEv {r1 r2:Ev} (L:List Int) (b:Nat) (h:b<L.length) (h1:r1.d=.lst (L.map D.int)) (h2:r2.d=.int (b:Int)):kIx r1 r2=some (.cl (.int (L.getD b 0))):=by
 unfold kIx
 rw [h1,h2]
 show (atI (L.map D.int) (b:Int)).map _=_
 rw [at_map L b h]
 simp [flat]
theorem ifs_of {c:DT}{g1 g2:DS}{t:Th}{b:Bool} (h:c t=some b):dIfS c g1 g2 t=if b then g1 t else g2 t:=by
 unfold dIfS;rw [h];rfl
theorem zv8 {c:DT}{g1 g2:DS}{t:Th}{b:Bool} (h:c t=some b) (hb:b=true):dIfS c g1 g2 t=g1 t:=by
 rw [ifs_of h,hb];rfl
theorem ifs_f {c:DT}{g1 g2:DS}{t:Th}{b:Bool} (h:c t=some b) (hb:b=false):dIfS c g1 g2 t=g2 t:=by
 rw [ifs_of h,hb];rfl
theorem in_ints {r1 r2:Ev} (p:Int) (K:List Int) (h1:r1.d=.int p) (h2:r2.d=.lst (K.map D.int)):kIn r1 r2=some (.cl (.bl (decide (p∈K)))):=by
 unfold kIn
 rw [h1,h2]
 clear h2
 have e1:(K.map D.int).all (fun d=>scD d&&eqOk 0 d (.int p))=true:=by
  rw [zbr1]
  intro d hd
  obtain⟨k,_,rfl⟩:=zbm5.mp hd
  rfl
 have e2:(K.map D.int).any (fun d=>eqD d (.int p))=decide (p∈K):=by
  induction K with
  |nil=>rfl
  |cons k K ih =>
   have e1':(K.map D.int).all (fun d=>scD d&&eqOk 0 d (.int p))=true:=by
    simp only [zbk4,zbn4,zbj5]at e1;exact e1.2
   rw [zbk4,zbq6,ih e1',zaf2]
   by_cases h:k=p
   ·subst h;simp
   ·have : ¬ p=k:=fun q=>h q.symm
    simp [h,this]
 show (if scD (.int p)&&(K.map D.int).all (fun d=>scD d&&eqOk 0 d (.int p)) then some (Ev.cl (.bl ((K.map D.int).any fun d=>eqD d (.int p)))) else none)=_
 rw [e1,e2]
 rfl
theorem bo_in {fa fb:DE}{t:Th}{r1 r2:Ev} (p:Int) (K:List Int) (ha:fa t=some r1) (hb:fb t=some r2) (h1:r1.d=.int p) (h2:r2.d=.lst (K.map D.int)):dBo (d2 kIn fa fb) t=some (decide (p∈K)):=by
 unfold dBo
 rw [zh7 ha hb,in_ints p K h1 h2]
 rfl
theorem zaq0 (t:Th) {f:DE}{i:Nat}{xs:List Int}{p:Int} (hf:f t=some (.cl (.int p))) (hi:t[i]?=some (.own (xs.map D.int))) (hl:xs.length<100000):dApp i f t=some (.nx (t.set i (.own ((xs++[p]).map D.int)))):=by
 rw [app_of t hf hi (by simpa using hl)]
 simp
theorem seq_rt {g1 g2:DS}{t:Th}{r:Ev} (h:g1 t=some (.rt r)):dSeq g1 g2 t=some (.rt r):=by simp [dSeq,h]
theorem grd {c:DT}{g:DS}{t:Th}{b:Bool} (h:c t=some b) (hb:b=false):dIfS c g zf0 t=some (.nx t):=(ifs_f h hb).trans rfl
theorem zaf0 {c:DT}{g:DS}{t:Th}{b:Bool}{d:D} (h:c t=some b) (hb:b=true):dIfS c (dRet (dC d)) g t=some (.rt (.cl d)):=(zv8 h hb).trans rfl
theorem bnd {g:Option Out}{r:Ev} (h:g=some (.rt r)):g.bind zk5=some r:=by rw [h];rfl
theorem zf8 {fa fb:DE}{t:Th}{a b:Int} (h1:fa t=some (.cl (.int a))) (h2:fb t=some (.cl (.int b))):(d2 qA fa fb) t=some (.cl (.int (a+b))):=(zh7 h1 h2).trans rfl
theorem zag6 {fa fb:DE}{t:Th}{a b:Int} (h1:fa t=some (.cl (.int a))) (h2:fb t=some (.cl (.int b))):(d2 qS fa fb) t=some (.cl (.int (a - b))):=(zh7 h1 h2).trans rfl
theorem zg7 {fa fb:DE}{t:Th}{a b:Int} (h1:fa t=some (.cl (.int a))) (h2:fb t=some (.cl (.int b))) (hb:b≠0):(d2 qR fa fb) t=some (.cl (.int (a.fmod b))):=by
 rw [zh7 h1 h2]
 show (if cMod a b=true then _ else none)=_
 rw [if_pos (by unfold cMod;exact decide_eq_true hb)]
theorem zp2 {fa fb:DE}{t:Th}{a b:Int} (h1:fa t=some (.cl (.int a))) (h2:fb t=some (.cl (.int b))) (hb:b≠0) (hs:sm b=true):(d2 qV fa fb) t=some (.cl (.int (a.fdiv b))):=by
 rw [zh7 h1 h2]
 show (if cDiv a b=true then _ else none)=_
 rw [if_pos (by unfold cDiv;rw [hs];simp [hb])]
theorem zi0 {fa fb:DE}{t:Th}{a b:Int} (h1:fa t=some (.cl (.int a))) (h2:fb t=some (.cl (.int b))) (ha:sm a=true) (hb:sm b=true):(d2 qM fa fb) t=some (.cl (.int (a*b))):=by
 rw [zh7 h1 h2]
 have:cMul a b=true:=by simp only [cMul];rw [ha,hb];rfl
 simp [kOr,kI,Ev.d,this]
theorem pow12 (t:Th):(d2 qP (dC (.int 10)) (dC (.int 12))) t=some (.cl (.int 1000000000000)):=by
 simp [d2,dC,kI,cPow,kOr,tt2,Ev.d]
theorem zav8 {fa fb:DE}{t:Th}{a b:Int} (h1:fa t=some (.cl (.int a))) (h2:fb t=some (.cl (.int b))):dBo (d2 qL fa fb) t=some (decide (a<b)):=by
 unfold dBo;rw [zh7 h1 h2];rfl
theorem zaw5 {fa fb:DE}{t:Th}{a b:Int} (h1:fa t=some (.cl (.int a))) (h2:fb t=some (.cl (.int b))):dBo (d2 qG fa fb) t=some (decide (b<a)):=by
 unfold dBo;rw [zh7 h1 h2];rfl
theorem zas9 {fa fb:DE}{t:Th}{a b:Int} (h1:fa t=some (.cl (.int a))) (h2:fb t=some (.cl (.int b))):dBo (d2 kEq fa fb) t=some (decide (a=b)):=by
 unfold dBo;rw [zh7 h1 h2]
 have:kEq (.cl (.int a)) (.cl (.int b))=some (.cl (.bl (eqD (.int a) (.int b)))):=rfl
 rw [this,zaf2];rfl
theorem zba8 {fa fb:DE}{t:Th}{a b:Int} (h1:fa t=some (.cl (.int a))) (h2:fb t=some (.cl (.int b))):dBo (d2 kNe fa fb) t=some (!decide (a=b)):=by
 unfold dBo;rw [zh7 h1 h2]
 have:kNe (.cl (.int a)) (.cl (.int b))=some (.cl (.bl (!eqD (.int a) (.int b)))):=rfl
 rw [this,zaf2];rfl
theorem or_of {f g:DT}{t:Th}{a b:Bool} (h1:f t=some a) (h2:a=false→g t=some b):dOr f g t=some (a||b):=by
 unfold dOr;rw [h1]
 cases a with
 |true=>rfl
 |false=>simp [h2 rfl]
theorem zz6 {f g:DT}{t:Th}{a b:Bool} (h1:f t=some a) (h2:g t=some b):dOr f g t=some (a||b):=or_of h1 fun _=>h2
theorem and_of2 {f g:DT}{t:Th}{a b:Bool} (h1:f t=some a) (h2:g t=some b):dAnd f g t=some (a&&b):=by
 unfold dAnd;rw [h1];cases a<;>simp [h2]
theorem zr3 {t:Th}{f:DE}{r:Ev}{xs:List Int} (h:f t=some r) (hr:r.d=.lst (xs.map D.int)):(dT1 kLen (za2 f dNil)) t=some (.cl (.int (xs.length:Int))):=by
 rw [zj7 h]
 unfold kLen
 simp only [hr,zbl5]
theorem zad0 {fa fb:DE}{t:Th}{r1 r2:Ev} (L:List Int) (b:Nat) (ha:fa t=some r1) (hb:fb t=some r2) (h:b<L.length) (h1:r1.d=.lst (L.map D.int)) (h2:r2.d=.int (b:Int)):(d2 kIx fa fb) t=some (.cl (.int (L.getD b 0))):=by
 rw [zh7 ha hb,ixEv L b h h1 h2]
theorem calln {G:List D→Option Ev}{rs:List Ev}{xs:List Int} (h:G (rs.map Ev.d)=some (.nw (xs.map D.int))):zc3 G rs=some (.nw (xs.map D.int)):=by
 unfold zc3
 rw [h]
 simp only [zbp0,upEv]
 split
 ·rfl
 ·simp [zd5]
theorem zl3 {G:List D→Option Ev}{rs:List Ev}{d:D} (h:G (rs.map Ev.d)=some (.cl d)) (hf:flat d=true):zc3 G rs=some (.cl d):=by
 unfold zc3
 rw [h]
 simp only [zbp0,upEv]
 split
 ·rfl
 ·simp [hf]
theorem cns {f:DE}{g:DA}{t:Th}{r:Ev}{rs:List Ev} (h1:f t=some r) (h2:g t=some rs):za2 f g t=some (r::rs):=by
 unfold za2;rw [h1,h2];rfl
theorem tk1 {k:List Ev→Option Ev}{g:DA}{t:Th}{rs:List Ev} (h:g t=some rs):dT1 k g t=k rs:=by
 unfold dT1;rw [h];rfl
theorem zr4 {f:DE}{t:Th}{b:Bool} (h:f t=some (.cl (.bl b))):dTr f t=some b:=by
 unfold dTr;rw [h];rfl
theorem not_of {f:DT}{t:Th}{b:Bool} (h:f t=some b):dNot f t=some (!b):=by
 unfold dNot;rw [h];rfl
theorem zm8 {f:DE}{t:Th}{r:Ev} (h:f t=some r):dRet f t=some (.rt r):=by
 unfold dRet;rw [h];rfl
theorem zaa7 {k:D→Th→Option Th}{f:DE}{b:DS}{t:Th}{r:Ev}{ds:List D} (h:f t=some r) (hd:r.d=.lst ds) (ho:r.ok=true):dFor k f b t=forD k b ds t:=by
 unfold dFor
 rw [h]
 simp only [zbj3,hd,ho,if_true]
theorem zal7 (n:Nat):Builtin.Range.rangeSize 0 (n:Int) 1=(n:Int):=by
 unfold Builtin.Range.rangeSize
 rw [if_pos (by lia)]
 split<;>lia
theorem ok_of {n:Nat} (hn:n≤1000):zy9 0 (n:Int) 1=true:=by
 unfold zy9
 rw [small_of (by lia) (by lia),zal7,decide_eq_true (by lia)]
 rfl
theorem zav9 {f:DE}{t:Th}{n:Nat} (h:f t=some (.cl (.int (n:Int)))) (hn:n≤1000):(zg4 (za2 f dNil)) t=some (.nw ((zb4 n).map D.int)):=by
 have e:(za2 f dNil) t=some [.cl (.int (n:Int))]:=by simp [za2,dNil,h]
 have e2:rArgs ([Ev.cl (.int (n:Int))].map Ev.d)=some (0,(n:Int),1):=rfl
 have c:(zy9 0 (n:Int) 1&&decide (Builtin.Range.rangeSize 0 (n:Int) 1≤50000))=true:=by
  rw [ok_of hn,zal7,decide_eq_true (by lia)];rfl
 unfold zg4
 rw [e,zbj3,e2,zbj3,if_pos c]
 unfold rng3 zb4
 rw [zal7,zbu9]
 simp
theorem zam5 {k0:D→Th→Option Th}{b:DS}{t:Th}{f:DE}{r:Ev}{n:Nat} (h:f t=some r) (hr:r.d=.int (n:Int)) (hn:n≤100000):zac0 k0 f b t=forD k0 b ((zb4 n).map D.int) t:=by
 unfold zac0
 rw [h]
 simp only [zbj3,hr]
 rw [if_pos (by unfold bigI;exact decide_eq_true (by lia)),zbu9]
 congr 1
 unfold rngD zb4
 simp
theorem zbc2 {f:DE}{t:Th}{r:Ev}{xs:List Int} (h:f t=some r) (hr:r.d=.lst (xs.map D.int)):(dT1 zx6 (za2 f dNil)) t=some (.nw (xs.map D.int)):=by
 rw [zj7 h]
 unfold zx6
 simp only [hr,zd5,zbs4,if_true]
theorem abs_of {f:DE}{t:Th}{v:Int} (h:f t=some (.cl (.int v))):(dT1 kAbs (za2 f dNil)) t=some (.cl (.int (if v<0 then -v else v))):=by
 rw [zj7 h];rfl
theorem zbd6 {f:DE}{t:Th}{b:Bool} (h:f t=some (.cl (.bl b))):(dT1 zbd2 (za2 f dNil)) t=some (.cl (.int (if b then 1 else 0))):=by
 rw [zj7 h];rfl
theorem sum_of {f:DE}{t:Th}{r:Ev}{xs:List Int} (h:f t=some r) (hr:r.d=.lst (xs.map D.int)):(dT1 kSum (za2 f dNil)) t=some (.cl (.int xs.sum)):=by
 rw [zj7 h]
 unfold kSum
 simp only [hr,zn2]
 rfl
def stG (W:Int→Int) (b x:Int):Int:=if W b<W x then x else b
theorem zbi2 {fb:DE}{W:Int→Int}{cs:List D}:∀(l:List Int) (b:Int),(∀x∈l,fb (.val (.int x)::cs.map Sl.val)=some (.cl (.int (W x))))→zbi3 true fb cs (.int b) (.int (W b)) (l.map D.int)=some (.int (l.foldl (stG W) b))
 |[],b,_=>rfl
 |x::l,b,h=>by
  have e:=h x (zbj7 ..)
  simp only [zbk4,zbi3,e,zbj3,Ev.d,flat,if_true,cmpD,cmpI,zbr6]
  have ih:=fun b=>zbi2 l b fun y hy=>h y (zbj2 _ hy)
  by_cases c:W b<W x
  ·rw [if_pos (decide_eq_true c),show stG W b x=x from if_pos c];exact ih x
  ·rw [if_neg (by simpa using c),show stG W b x=b from if_neg c];exact ih b
theorem key_of {fa fb:DE}{W:Int→Int}{cs:List D}{b:Bool}{cap:List Nat}{t:Th}{r:Ev}{x:Int}{l:List Int} (ha:fa t=some r) (hr:r.d=.lst ((x::l).map D.int)) (hc:capD t cap=some (b,cs)) (h:∀y∈x::l,fb (.val (.int y)::cs.map Sl.val)=some (.cl (.int (W y)))):dKey true cap fa fb t=some (.cl (.int (l.foldl (stG W) x))):=by
 unfold dKey
 rw [ha,hc]
 simp only [zbj3,hr,zbk4]
 rw [show (zp3 (D.int x::l.map D.int)).isSome=true by rw [← zbk4 (f:=D.int),zn2];rfl,if_pos rfl,h x (zbj7 ..)]
 simp only [zbj3,Ev.d,flat,if_true]
 rw [zbi2 l x fun y hy=>h y (zbj2 _ hy)]
 rfl
def rwD (r:List Int):D:=.lst (r.map D.int)
def mD (M:List (List Int)):D:=.lst (M.map rwD)
def gM (M:List (List Int)) (i j:Int):Int:=(M.getD i.toNat []).getD j.toNat 0
structure Sq (n:Nat) (M:List (List Int)):Prop where
 len:M.length=n
 row:∀r∈M,r.length=n
theorem row_at {fa fb:DE}{t:Th}{r1:Ev}{M:List (List Int)}{i:Int} (ha:fa t=some r1) (h1:r1.d=mD M) (hb:fb t=some (.cl (.int i))) (i0:0≤i) (il:i<(M.length:Int)):∃r,(d2 kIx fa fb) t=some r∧r.d=rwD (M.getD i.toNat []):=by
 rw [zh7 ha hb]
 unfold kIx
 rw [h1]
 have hl:i.toNat<M.length:=by lia
 have e:atI (M.map rwD) i=some (rwD (M.getD i.toNat [])):=by
  unfold atI
  have:ixN (M.map rwD).length i=some i.toNat:=by
   have:=zai8 (M.map rwD).length i.toNat (by simpa using hl)
   rwa [zbr9 i0]at this
  rw [this]
  simp [zbk5,hl]
 show ∃r,((atI (M.map rwD) i).map _)=some r∧_
 rw [e]
 refine⟨_,rfl,?_⟩
 dsimp only
 split<;>rfl
theorem zbe2 (n:Nat):∀M:List (List Int),eqOk (n+2) (mD M) (mD M)=true
 |[]=>rfl
 |r::M=>by
  have:=zbe2 n M
  unfold mD at this ⊢
  simp only [eqOk]at this ⊢
  simp only [zbk4,zbq0,zbn4,this,zby4]
  exact zaa8 n r
theorem eq_mD {r1 r2:Ev} (M:List (List Int)) (h1:r1.d=mD M) (h2:r2.d=mD M):kEq r1 r2=some (.cl (.bl true)):=by
 unfold kEq
 rw [h1,h2,if_pos (zbe2 4 M),zat0]
theorem zaa0 {t:Th}{f:DE}{r:Ev}{M:List (List Int)} (h:f t=some r) (hr:r.d=mD M):(dT1 kLen (za2 f dNil)) t=some (.cl (.int (M.length:Int))):=by
 rw [zj7 h]
 unfold kLen
 simp only [hr,mD,zbl5]
def lowI (L:List Int):Int:=zk9 (L.headD 0) L.tail
theorem extl_of {f:DE}{t:Th}{r:Ev}{L:List Int} (h:f t=some r) (hr:r.d=.lst (L.map D.int)) (hl:0<L.length):(dT1 (zx7 zk9) (za2 f dNil)) t=some (.cl (.int (lowI L))):=by
 rw [zj7 h]
 unfold zx7
 simp only [hr,zn2]
 cases L with
 |nil=>simp at hl
 |cons x r=>rfl
def topI' (L:List Int):Int:=zr8 (L.headD 0) L.tail
theorem extt_of {f:DE}{t:Th}{r:Ev}{L:List Int} (h:f t=some r) (hr:r.d=.lst (L.map D.int)) (hl:0<L.length):(dT1 (zx7 zr8) (za2 f dNil)) t=some (.cl (.int (topI' L))):=by
 rw [zj7 h]
 unfold zx7
 simp only [hr,zn2]
 cases L with
 |nil=>simp at hl
 |cons x r=>rfl
theorem ze9 {n:Nat}{x:Int} (h:x∈zb4 n):0≤x∧x<(n:Int):=by
 obtain⟨i,hi⟩:=List.mem_iff_getElem?.mp h
 obtain⟨q,l⟩:=zba9 hi
 lia
theorem zo3 {n:Nat}{x:Int} (h0:0≤x) (h1:x<(n:Int)):x∈zb4 n:=by
 unfold zb4
 exact zbm5.mpr ⟨x.toNat,zbt7.mpr (by lia),by lia⟩
theorem zu9:∀ {l C:List Int},l.Nodup→(∀x∈l,x∈C)→l.length≤C.length
 |[],C,_,_=>zbw4 _
 |x::l,C,nd,h=>by
  rw [zbl6]at nd
  have hx:=h x (zbj7 ..)
  have:=zu9 (l:=l) (C:=C.erase x) nd.2 fun y hy=>(List.mem_erase_of_ne (fun e=>nd.1 (by rw [← e];exact hy))).mpr (h y (zbj2 _ hy))
  rw [List.length_erase_of_mem hx]at this
  have:=zbs3 hx
  simp only [zbm4]
  lia
theorem zr7 (n:Nat):(zb4 n).Nodup:=by
 unfold zb4
 refine List.pairwise_map.mpr ?_
 exact (List.nodup_range (n:=n)).imp fun h e=>h (by lia)
def nr (M:List (List Int)) (C:List Int) (p:Int):Int:=lowI (C.map (gM M p))
structure CIn (n:Nat) (C:List Int):Prop where
 ne:0<C.length
 rg:∀x∈C,0≤x∧x<(n:Int)
def dV (P:List Int) (V:Int→Int):D:=.dct (P.map Sum.inl) (P.map fun p=>.int (V p))
def ltr (n:Int):Nat→List Int→Int→Int
 |_,[],_=>n
 |i,x::xs,p=>if x=p then (i:Int) else ltr n (i+1) xs p
def Fo (v:Int→Int) (p q:Int):Prop:=v q<v p∨(v q=v p∧p≤q)
theorem for_I {k:D→Th→Option Th}{b:DS}{f:Nat→D}{P:Nat→Th→Prop}{n:Nat} (hb:∀x,x<n→∀t,P x t→∃t1 t2,k (f x) t=some t1∧b t1=some (.nx t2)∧P (x+1) t2):∀(m i:Nat) (t:Th),i+m=n→P i t→∃t',forD k b ((List.range' i m).map f) t=some (.nx t')∧P n t'
 |0,i,t,e,h=>⟨t,rfl,by rw [← e];exact h⟩
 |m+1,i,t,e,h=>by
  obtain⟨t1,t2,e1,e2,h2⟩:=hb i (by lia) t h
  obtain⟨t',e3,h'⟩:=for_I hb m (i+1) t2 (by lia) h2
  refine⟨t',?_,h'⟩
  rw [List.range'_succ,zbk4]
  simp only [forD,e1,e2,zbj3,e3]
theorem for_I0 {k:D→Th→Option Th}{b:DS}{f:Nat→D}{P:Nat→Th→Prop}{n:Nat} (hb:∀x,x<n→∀t,P x t→∃t1 t2,k (f x) t=some t1∧b t1=some (.nx t2)∧P (x+1) t2) (t:Th) (h:P 0 t):∃t',forD k b ((zbl9 n).map f) t=some (.nx t')∧P n t':=by
 have:=for_I hb n 0 t (by lia) h
 rwa [List.range_eq_range']
def DI (n:Int) (P:List Int) (V:Int→Int) (i:Nat) (ps:List Int):Prop := ∀q,(if q∈P then V q else n)=ltr n i (ps.drop i) q
end KX
set_option maxHeartbeats 1000000
namespace KX
def mxL:List Nat→Nat
 |[]=>0
 |a::l=>max a (mxL l)
theorem le_mxL:∀ {l:List Nat}{a:Nat},a∈l→a≤mxL l
 |b::l,a,h=>by
  rcases zbj9.mp h with rfl | h
  ·exact Nat.le_max_left _ _
  ·exact zbk3 (le_mxL h) (Nat.le_max_right _ _)
theorem zao1:∀ {l:List Nat},l≠[]→mxL l∈l
 |[a],_=>by simp [mxL]
 |a::b::l,_=>by
  have:=zao1 (l:=b::l) (by simp)
  show max a (mxL (b::l))∈_
  by_cases h:a≤mxL (b::l)
  ·rw [Nat.max_eq_right h];exact zbj2 _ this
  ·rw [Nat.max_eq_left (by lia)];exact zbj7 ..
abbrev Hd:=List (Int×Nat)
def nwS (hd:Hd) (s:List Int):List Int:=s.filter fun x=>decide (x∉hd.map Prod.fst)
def lnS (hd:Hd) (ss:List (List Int)):List Nat:=ss.map fun s=>(nwS hd s).length
def bst (hd:Hd) (ss:List (List Int)):Nat:=(lnS hd ss).idxOf (mxL (lnS hd ss))
def adS (hd:Hd) (ss:List (List Int)):Hd:=hd++(nwS hd (ss.getD (bst hd ss) [])).map fun x=>(x,mxL (lnS hd ss))
theorem zat4 {hd:Hd}{ss:List (List Int)} (h:ss≠[]):bst hd ss<ss.length:=by
 have e:(lnS hd ss).length=ss.length:=by simp [lnS]
 rw [← e]
 refine List.idxOf_lt_length_of_mem (zao1 fun z=>h ?_)
 rw [lnS,zca0]at z
 exact z
theorem zbh9 {hd:Hd}{ss:List (List Int)} (h:ss≠[]):ss.getD (bst hd ss) []∈ss:=by
 have:=zat4 (hd:=hd) h
 rw [zbk5,zbj6 this]
 exact zbq4 _
theorem zbi0 {hd:Hd}{ss:List (List Int)} (h:ss≠[]):(nwS hd (ss.getD (bst hd ss) [])).length=mxL (lnS hd ss):=by
 have l:=zat4 (hd:=hd) h
 have l':bst hd ss<(lnS hd ss).length:=by simpa [lnS] using l
 have e:(lnS hd ss)[bst hd ss]=mxL (lnS hd ss):=zca5 l'
 rw [zbk5,zbj6 l]
 rw [← e]
 simp [lnS]
structure Pt (w:Nat→Nat) (L N:Nat):Prop where
 eq:∀m,1≤m→m≤N→m*w m=L
def Hw (w:Nat→Nat):Nat→Nat
 |0=>0
 |n+1=>Hw w n+w (n+1)
theorem zbi8 (w:Nat→Nat) {a b:Nat} (h:a≤b):Hw w a≤Hw w b:=by
 induction b with
 |zero=>rw [Nat.le_zero.mp h];exact zbl1 _
 |succ b ih =>
  rcases zbs8 h with h | h
  ·exact zbk3 (ih (by lia)) (Nat.le_add_right _ _)
  ·rw [h];exact zbl1 _
def paid (w:Nat→Nat) (hd:Hd) (s:List Int):Nat:=(hd.map fun p=>if p.1∈s then w p.2 else 0).sum
def totW (w:Nat→Nat) (hd:Hd):Nat:=(hd.map fun p=>w p.2).sum
structure GI (ss:List (List Int)) (w:Nat→Nat) (L:Nat) (hd:Hd) (n:Nat):Prop where
 nd:(hd.map Prod.fst).Nodup
 tt:totW w hd=n*L
 pay:∀s∈ss,paid w hd s+Hw w (nwS hd s).length≤Hw w s.length
 sub:∀x∈hd.map Prod.fst,∃s∈ss,x∈s
theorem GI.nil (ss:List (List Int)) (w:Nat→Nat) (L:Nat):GI ss w L [] 0:=by
 refine⟨zbm2,by simp [totW],fun s _=>?_,fun x hx=>nomatch hx⟩
 show 0+Hw w (nwS [] s).length≤_
 rw [zcd1]
 exact zbi8 w (zbq9 _ _)
theorem mem_nwS {hd:Hd}{s:List Int}{x:Int}:x∈nwS hd s↔x∈s∧x∉hd.map Prod.fst:=by
 unfold nwS
 rw [zbp6,decide_eq_true_eq]
theorem zas4 (hd:Hd) (ss:List (List Int)):(adS hd ss).map Prod.fst=hd.map Prod.fst++nwS hd (ss.getD (bst hd ss) []):=by
 unfold adS
 rw [zbp8,zbp4]
 congr 1
 simp [Function.comp_def]
end KX
namespace KX
open PySem.Spec L2 DL
theorem asg_dn {t:Th}{f:DE}{i:Nat}{d:D} (hf:f t=some (.dn d)) (hi:i<t.length):dAsg i f t=some (.nx (t.set i (.dp d))):=by
 unfold dAsg
 rw [hf]
 simp only [zbj3,zn8,hi,if_true,zbp0]
theorem zk6 {k:D→Th→Option Th}{b:DS}{d:D}{ds:List D}{t t1 t2:Th} (h1:k d t=some t1) (h2:b t1=some (.nx t2)):forD k b (d::ds) t=forD k b ds t2:=by simp [forD,h1,h2]
theorem zaq8 {k0:D→Th→Option Th}{b:DS}{t:Th}{f f':DE}{lo n:Int}{k:Nat} (h1:f t=some (.cl (.int lo))) (h2:f' t=some (.cl (.int n))) (hk:(n - lo).toNat=k) (hb:(bigI n&&bigI lo)=true):zak0 k0 f f' b t=forD k0 b (rngD lo k) t:=by
 unfold zak0
 rw [h1,h2]
 show (if bigI n&&bigI lo then forD k0 b (rngD lo (n - lo).toNat) t else none)=_
 rw [if_pos hb,hk]
theorem zao9 {k:D→Th→Option Th}{b:DS}{d:D}{ds:List D}{t t1:Th}{r:Ev} (h1:k d t=some t1) (h2:b t1=some (.rt r)):forD k b (d::ds) t=some (.rt r):=by simp [forD,h1,h2]
theorem zat1 {α:Type}{e:α→D}{ft:DT}{fe:DE}{p:α→Bool}{f:α→D}{ext:Th}:∀(xs:List α) (s:Sl),(∀x∈xs,ft (.val (e x)::ext)=some (p x))→(∀x∈xs,p x=true→∃r,fe (.val (e x)::ext)=some r∧r.d=f x)→zh8 (za6 0) ft fe (xs.map e) (s::ext)=some ((xs.filter p).map f)
 |[],s,_,_=>rfl
 |x::l,s,h,h'=>by
  have i:=zat1 (p:=p) (f:=f) l (.val (e x)) (fun y hy=>h y (zbj2 _ hy)) (fun y hy=>h' y (zbj2 _ hy))
  show ((ft (.val (e x)::ext)).bind fun b=>if b then (fe (.val (e x)::ext)).bind fun r=>(zh8 (za6 0) ft fe (l.map e) (.val (e x)::ext)).map fun xs=>r.d::xs else zh8 (za6 0) ft fe (l.map e) (.val (e x)::ext))=_
  rw [h x (zbj7 ..),i]
  cases hp:p x with
  |false=>rw [List.filter_cons_of_neg (by rw [hp];decide)];rfl
  |true =>
   obtain⟨r,e1,e2⟩:=h' x (zbj7 ..) hp
   rw [e1,List.filter_cons_of_pos hp,zbk4, ← e2]
   rfl
theorem zap5 {α:Type}{e:α→D}{fe:DE}{f:α→D}{ext:Th}:∀(xs:List α) (s:Sl),(∀x∈xs,∃r,fe (.val (e x)::ext)=some r∧toDn r=some (f x))→zj6 (za6 0) zc7 fe (xs.map e) (s::ext)=some (xs.map f)
 |[],s,_=>rfl
 |x::l,s,h'=>by
  have i:=zap5 (f:=f) l (.val (e x)) (fun y hy=>h' y (zbj2 _ hy))
  obtain⟨r,e1,e2⟩:=h' x (zbj7 ..)
  show ((fe (.val (e x)::ext)).bind fun r=>(toDn r).bind fun d=>(zj6 (za6 0) zc7 fe (l.map e) (.val (e x)::ext)).map fun xs=>d::xs)=_
  rw [e1,i]
  show ((toDn r).bind fun d=>_)=_
  rw [e2]
  rfl
theorem zu6 {α:Type}{e:α→D}{ft:DT}{fe f:DE}{p:α→Bool}{g:α→D}{cap:List Nat}{t:Th}{r:Ev}{xs:List α}{b:Bool}{c:List D} (hf:f t=some r) (hr:r.d=.lst (xs.map e)) (hc:capD t cap=some (b,c)) (hl:xs.length≤50000)
  (h1:∀x∈xs,ft (.val (e x)::c.map Sl.val)=some (p x)) (h2:∀x∈xs,p x=true→∃r,fe (.val (e x)::c.map Sl.val)=some r∧r.d=g x) (h3:flats ((xs.filter p).map g)=true∨(r.ok&&b)=true):ze3 1 cap (fsL f) (za6 0) ft fe t=some (.nw ((xs.filter p).map g)):=by
 unfold ze3
 have e1:fsL f t=some (r.ok,xs.map e):=by
  unfold fsL;rw [hf];simp only [zbj3,hr]
 have e2:zh8 (za6 0) ft fe (xs.map e) (Sl.no::c.map Sl.val)=some ((xs.filter p).map g):=zat1 xs _ h1 h2
 rw [e1,hc]
 simp only [zbj3]
 rw [if_pos (by simpa using hl)]
 show (zh8 (za6 0) ft fe (xs.map e) (Sl.no::c.map Sl.val)).bind _=_
 rw [e2]
 show (if ((r.ok&&b)||flats ((xs.filter p).map g))=true then _ else _)=_
 rw [if_pos (by rcases h3 with h | h<;>rw [h]<;>simp)]
theorem zaq6 (n:Nat):rngD 0 n=(zb4 n).map D.int:=by
 unfold rngD zb4
 rw [zbp4]
 refine zbs0 fun x _=>?_
 show D.int (0+(x:Int))=D.int (x:Int)
 rw [Int.zero_add]
theorem zaj9 {ft:DT}{fe f:DE}{p:Int→Bool}{g:Int→D}{cap:List Nat}{t:Th}{r:Ev}{n:Nat}{b:Bool}{c:List D} (hf:f t=some r) (hr:r.d=.int (n:Int)) (hc:capD t cap=some (b,c)) (hl:n≤50000)
  (h1:∀x∈zb4 n,ft (.val (.int x)::c.map Sl.val)=some (p x)) (h2:∀x∈zb4 n,p x=true→∃r,fe (.val (.int x)::c.map Sl.val)=some r∧r.d=g x) (h3:flats (((zb4 n).filter p).map g)=true∨b=true):ze3 1 cap (fsR1 f) (za6 0) ft fe t=some (.nw (((zb4 n).filter p).map g)):=by
 unfold ze3
 have e1:fsR1 f t=some (true,(zb4 n).map D.int):=by
  unfold fsR1;rw [hf];simp only [zbj3,hr]
  rw [if_pos (by unfold bigI;simp;lia), ← zaq6]
  rfl
 have e2:zh8 (za6 0) ft fe ((zb4 n).map D.int) (Sl.no::c.map Sl.val)=some (((zb4 n).filter p).map g):=zat1 (zb4 n) _ h1 h2
 rw [e1,hc]
 simp only [zbj3]
 rw [if_pos (by simpa [zb4] using hl)]
 show (zh8 (za6 0) ft fe ((zb4 n).map D.int) (Sl.no::c.map Sl.val)).bind _=_
 rw [e2]
 show (if ((true&&b)||flats (((zb4 n).filter p).map g))=true then _ else _)=_
 rw [if_pos (by rcases h3 with h | h<;>rw [h]<;>simp)]
theorem dcompNL {α:Type}{e:α→D}{fe f:DE}{g:α→D}{cap:List Nat}{t:Th}{r:Ev}{xs:List α}{b:Bool}{c:List D} (hf:f t=some r) (hr:r.d=.lst (xs.map e)) (hc:capD t cap=some (b,c)) (hl:xs.length≤50000)
  (h2:∀x∈xs,∃r,fe (.val (e x)::c.map Sl.val)=some r∧toDn r=some (g x)):zn4 1 cap (fsL f) (za6 0) zc7 fe t=some (.dn (.lst (xs.map g))):=by
 unfold zn4
 have e1:fsL f t=some (r.ok,xs.map e):=by
  unfold fsL;rw [hf];simp only [zbj3,hr]
 have e2:zj6 (za6 0) zc7 fe (xs.map e) (Sl.no::c.map Sl.val)=some (xs.map g):=zap5 xs _ h2
 rw [e1,hc]
 simp only [zbj3]
 rw [if_pos (by simpa using hl)]
 show (zj6 (za6 0) zc7 fe (xs.map e) (Sl.no::c.map Sl.val)).map _=_
 rw [e2]
 rfl
def kN (n:Int):Key:=Sum.inl n
def tP (m:Nat):D:=.tup [.int 1,.int (m:Int)]
def dctH (hd:Hd):D:=.dct ((hd.map Prod.fst).map kN) (hd.map fun p=>tP p.2)
theorem zaj2 (x:Int):∀ks:List Int,hasK (ks.map kN) (kN x)=decide (x∈ks)
 |[]=>rfl
 |k::ks=>by
  have i:=zaj2 x ks
  unfold hasK at i ⊢
  rw [zbk4,zbq6,i]
  by_cases h:k=x
  ·subst h;simp
  ·have h' : ¬ kN k=kN x:=fun z=>h (by cases z;rfl)
   rw [decide_eq_false h']
   have:(x∈k::ks)=(x∈ks):=by rw [zbj9];simp [show ¬ x=k from fun z=>h z.symm]
   simp only [this,zcb1]
def putN (ks:List Int) (x:Int):List Int:=if x∈ks then ks else ks++[x]
def ttD (_:Int):D:=.bl true
theorem zip_same {ks:List Int}{x:Int}:∀ls:List Int,zbx3 (fun k' d'=>if k'=kN x then D.bl true else d') (ls.map kN) (ls.map ttD)=ls.map ttD
 |[]=>rfl
 |l::ls=>by
  rw [zbk4,zbk4,zbp1,zip_same (ks:=ks) ls]
  congr 1
  split<;>rfl
theorem put_tt (ks:List Int) (x:Int):zi7 (ks.map kN) (ks.map ttD) (kN x) (.bl true)=((putN ks x).map kN,(putN ks x).map ttD):=by
 unfold zi7 putN
 rw [zaj2]
 by_cases h:x∈ks
 ·rw [decide_eq_true h,if_pos rfl,if_pos h,zip_same (ks:=ks) ks]
 ·rw [decide_eq_false h,if_neg (by decide),if_neg h]
  simp [kN,ttD]
structure AllK (M:Nat) (ks:List Int):Prop where
 nd:ks.Nodup
 lt:∀x∈ks,0≤x∧x<(M:Int)
theorem AllK.len {M:Nat}{ks:List Int} (h:AllK M ks):ks.length≤M:=by
 have:=zu9 (l:=ks) (C:=zb4 M) h.nd fun x hx=>zo3 (h.lt x hx).1 (h.lt x hx).2
 simpa [zb4] using this
theorem AllK.put {M:Nat}{ks:List Int}{x:Int} (h:AllK M ks) (h0:0≤x) (h1:x<(M:Int)):AllK M (putN ks x):=by
 unfold putN
 split
 ·exact h
 ·rename_i n
  refine⟨zbl0.mpr ⟨h.nd,by simp,fun a ha b hb e=>?_⟩,fun y hy=>?_⟩
  ·rw [zbk6]at hb;subst hb;subst e;exact n ha
  ·rcases zbj4.mp hy with z | z
   ·exact h.lt y z
   ·rw [zbk6]at z;subst z;exact⟨h0,h1⟩
theorem mem_putN {ks:List Int}{x y:Int}:y∈putN ks x↔y∈ks∨y=x:=by
 unfold putN
 split
 ·rename_i h
  exact⟨.inl,fun z=>z.elim id fun e=>e ▸ h⟩
 ·simp
theorem AllK.fold {M:Nat}:∀ {s ks:List Int},AllK M ks→(∀x∈s,0≤x∧x<(M:Int))→AllK M (s.foldl putN ks)
 |[],ks,h,_=>h
 |x::s,ks,h,hs=>AllK.fold (s:=s) (h.put (hs x (by simp)).1 (hs x (by simp)).2) fun y hy=>hs y (zbj2 _ hy)
theorem zt6 {y:Int}:∀ {s ks:List Int},y∈s.foldl putN ks↔y∈ks∨y∈s
 |[],ks=>by simp
 |x::s,ks=>by
  rw [zbr6,zt6 (s:=s),mem_putN,zbj9,or_assoc]
def hads (ss:List (List Int)) (ns:List Int):List Int:=ns.foldl (fun ks n=>(ss.getD n.toNat []).foldl putN ks) []
def kdT (ks:List Int):KD:=(ks.map kN,ks.map ttD)
theorem lk_in {M:Nat} (hM:M≤1000) {a S:Sl}:∀ {s:List Int}{ks:List Int}{u:Sl},AllK M ks→(∀x∈s,0≤x∧x<(M:Int))→∃u',zm5 (za6 1) zc7 (dVar 1) (dC (.bl true)) (s.map D.int) [a,u,S] (kdT ks)=some (kdT (s.foldl putN ks),[a,u',S])
 |[],ks,u,_,_=>⟨u,rfl⟩
 |x::s,ks,u,h,hs=>by
  have hx:=hs x (by simp)
  obtain⟨u',e⟩:=lk_in hM (a:=a) (S:=S) (s:=s) (u:=.val (.int x)) (h.put hx.1 hx.2) fun y hy=>hs y (zbj2 _ hy)
  refine⟨u',?_⟩
  have st:stKD (kdT ks) (.cl (.int x)) (.cl (.bl true))=some (kdT (putN ks x)):=by
   unfold stKD
   show (if (true&&decide ((ks.map kN).length<50000))=true then some (zi7 (ks.map kN) (ks.map ttD) (kN x) (.bl true)) else none)=_
   have:=h.len
   rw [if_pos (by rw [decide_eq_true (by rw [zbl5];lia)];rfl),put_tt]
   rfl
  show ((stKD (kdT ks) (.cl (.int x)) (.cl (.bl true))).bind fun a1=>zm5 (za6 1) zc7 (dVar 1) (dC (.bl true)) (s.map D.int) [a,.val (.int x),S] a1)=_
  rw [st]
  exact e
theorem lk_out {M:Nat} (hM:M≤1000) {ss:List (List Int)} (hs:∀s∈ss,∀x∈s,0≤x∧x<(M:Int)):∀ {ns ks:List Int}{u v:Sl},AllK M ks→(∀n∈ns,0≤n∧n<(ss.length:Int)) →
  zm6 (za6 0) zc7 (fsL (d2 kIx (dVar 2) (dVar 0))) (za6 1) zc7 (dVar 1) (dC (.bl true)) (ns.map D.int) [u,v,.val (mD ss)] (kdT ks)=some (kdT (ns.foldl (fun ks n=>(ss.getD n.toNat []).foldl putN ks) ks))
 |[],ks,u,v,_,_=>rfl
 |n::ns,ks,u,v,h,hn=>by
  have h0:=hn n (by simp)
  obtain⟨r,er,hr⟩:=row_at (fa:=dVar 2) (fb:=dVar 0) (t:=[.val (.int n),v,.val (mD ss)]) (i:=n) (M:=ss) (rfl:dVar 2 _=some (.cl (mD ss))) rfl rfl h0.1 h0.2
  have hm:ss.getD n.toNat []∈ss:=by
   rw [zbk5,zbj6 (by lia)]
   exact zbq4 _
  have hx:=hs _ hm
  obtain⟨u',e⟩:=lk_in hM (a:=.val (.int n)) (S:=.val (mD ss)) (u:=v) h hx
  have i:=lk_out hM hs (ns:=ns) (u:=.val (.int n)) (v:=u') (AllK.fold h hx) fun m hm=>hn m (zbj2 _ hm)
  have ef:fsL (d2 kIx (dVar 2) (dVar 0)) [.val (.int n),v,.val (mD ss)]=some (r.ok,(ss.getD n.toNat []).map D.int):=by
   unfold fsL;rw [er];simp only [zbj3,hr,rwD]
  show ((fsL (d2 kIx (dVar 2) (dVar 0)) [.val (.int n),v,.val (mD ss)]).bind fun q=>(zm5 (za6 1) zc7 (dVar 1) (dC (.bl true)) q.2 [.val (.int n),v,.val (mD ss)] (kdT ks)).bind fun p=>zm6 (za6 0) zc7 (fsL (d2 kIx (dVar 2) (dVar 0))) (za6 1) zc7 (dVar 1) (dC (.bl true)) (ns.map D.int) p.2 p.1)=_
  rw [ef]
  simp only [zbj3]
  rw [e]
  exact i
theorem mem_hads {ss:List (List Int)}{y:Int}:∀ {ns ks:List Int},y∈ns.foldl (fun ks n=>(ss.getD n.toNat []).foldl putN ks) ks↔y∈ks∨∃n∈ns,y∈ss.getD n.toNat []
 |[],ks=>by simp
 |n::ns,ks=>by
  rw [zbr6,mem_hads (ns:=ns),zt6,or_assoc]
  simp
structure Cv (M:Nat) (ss:List (List Int)):Prop where
 nd:∀s∈ss,s.Nodup
 lt:∀s∈ss,∀x∈s,0≤x∧x<(M:Int)
 all:∀x:Int,0≤x→x<(M:Int)→∃s∈ss,x∈s
theorem Cv.ne {M:Nat}{ss:List (List Int)} (c:Cv M ss) (h:0<M):ss≠[]:=fun z=>by
 obtain⟨s,hs,_⟩:=c.all 0 (by lia) (by lia)
 rw [z]at hs;exact nomatch hs
theorem Cv.len {M:Nat}{ss:List (List Int)} (c:Cv M ss) {s:List Int} (h:s∈ss):s.length≤M:=AllK.len ⟨c.nd s h,c.lt s h⟩
structure HI (M:Nat) (ss:List (List Int)) (hd:Hd):Prop where
 ak:AllK M (hd.map Prod.fst)
 ps:∀p∈hd,0<p.2∧p.2≤M
theorem HI.nil (M:Nat) (ss:List (List Int)):HI M ss []:=⟨⟨zbm2,fun x hx=>nomatch hx⟩,fun p hp=>nomatch hp⟩
theorem HI.some_new {M:Nat}{ss:List (List Int)}{hd:Hd} (c:Cv M ss) (h:HI M ss hd) (hl:hd.length<M):0<mxL (lnS hd ss):=by
 have:∃x∈zb4 M,x∉hd.map Prod.fst:=by
  refine Classical.byContradiction fun z=>?_
  have:=zu9 (l:=zb4 M) (C:=hd.map Prod.fst) (zr7 M) fun x hx=>Classical.byContradiction fun y=>z ⟨x,hx,y⟩
  simp [zb4]at this
  lia
 obtain⟨x,hx,nx⟩:=this
 obtain⟨x0,x1⟩:=ze9 hx
 obtain⟨s,hs,xs⟩:=c.all x x0 x1
 have:0<(nwS hd s).length:=zbs3 (mem_nwS.mpr ⟨xs,nx⟩)
 exact zbk9 this (le_mxL (zbm5.mpr ⟨s,hs,rfl⟩))
theorem HI.step {M:Nat}{ss:List (List Int)}{hd:Hd} (c:Cv M ss) (h:HI M ss hd) (h0:0<mxL (lnS hd ss)):HI M ss (adS hd ss)∧hd.length<(adS hd ss).length:=by
 have ne:ss≠[]:=fun z=>by rw [z]at h0;simp [lnS,mxL]at h0
 have bm:=zbh9 (hd:=hd) ne
 have bl:=zbi0 (hd:=hd) ne
 have nn:(nwS hd (ss.getD (bst hd ss) [])).Nodup:=(c.nd _ bm).filter _
 refine⟨⟨⟨?_,fun x hx=>?_⟩,fun p hp=>?_⟩,?_⟩
 ·rw [zas4]
  exact zbl0.mpr ⟨h.ak.nd,nn,fun a ha b hb e=>(mem_nwS.mp hb).2 (e ▸ ha)⟩
 ·rw [zas4]at hx
  rcases zbj4.mp hx with z | z
  ·exact h.ak.lt x z
  ·exact c.lt _ bm x (mem_nwS.mp z).1
 ·rcases zbj4.mp hp with z | z
  ·exact h.ps p z
  ·obtain⟨x,_,rfl⟩:=zbm5.mp z
   refine⟨h0,?_⟩
   show mxL (lnS hd ss)≤M
   rw [← bl]
   exact zbk3 (zbq9 _ _) (c.len bm)
 ·unfold adS
  rw [zbl8,zbl5,bl]
  lia
noncomputable def chs (M:Nat) (ss:List (List Int)):Nat→Hd→List Int→Hd×List Int
 |0,hd,ch=>(hd,ch)
 |n+1,hd,ch=>if hd.length<M then chs M ss n (adS hd ss) (ch++[(bst hd ss:Int)]) else (hd,ch)
def shr (hd:Hd) (x:Int):Nat:=((hd.find? fun p=>decide (p.1=x)).map Prod.snd).getD 0
theorem get_hd {x:Int}:∀ {hd:Hd},x∈hd.map Prod.fst→zaj3 ((hd.map Prod.fst).map kN) (hd.map fun p=>tP p.2) (kN x)=some (tP (shr hd x))
 |[],h=>nomatch h
 |p::hd,h=>by
  rw [zbk4,zbk4,zbk4]
  unfold zaj3
  by_cases e:p.1=x
  ·rw [if_pos (by rw [e]),shr,zby6 (by simpa using e)]
   rfl
  ·rw [if_neg fun z=>e (by cases z;rfl)]
   rw [zbk4,zbj9]at h
   have h':=h.resolve_left fun z=>e z.symm
   rw [get_hd h',shr,shr,zby7 (by simpa using e)]
theorem shr_of {x:Int}{m:Nat}:∀ {hd:Hd},(hd.map Prod.fst).Nodup→(x,m)∈hd→shr hd x=m
 |[],_,h=>nomatch h
 |p::hd,n,h=>by
  rw [zbk4]at n
  have n':=zbl6.mp n
  rcases zbj9.mp h with z | z
  ·subst z
   rw [shr,zby6 (by simp)]
   rfl
  ·have e : ¬ p.1=x:=fun y=>n'.1 (by rw [y];exact zbm5.mpr ⟨(x,m),z,rfl⟩)
   rw [shr,zby7 (by simpa using e)]
   exact shr_of n'.2 z
theorem mg_new (m:Nat):∀(xs:List Int) (hd:Hd),xs.Nodup→(∀x∈xs,x∉hd.map Prod.fst)→mgKD (xs.map kN) (xs.map fun _=>tP m) ((hd.map Prod.fst).map kN,hd.map fun p=>tP p.2)=(((hd++xs.map fun x=>(x,m)).map Prod.fst).map kN,(hd++xs.map fun x=>(x,m)).map fun p=>tP p.2)
 |[],hd,_,_=>by simp [mgKD]
 |x::xs,hd,n,h=>by
  have n':=zbl6.mp n
  have i:=mg_new m xs (hd++[(x,m)]) n'.2 fun y hy z=>by
   rw [zbp8,zbj4]at z
   rcases z with z | z
   ·exact h y (zbj2 _ hy) z
   ·simp at z;exact n'.1 (z ▸ hy)
  rw [zbk4,zbk4]
  unfold mgKD
  have e:zi7 ((hd.map Prod.fst).map kN) (hd.map fun p=>tP p.2) (kN x) (tP m)=(((hd++[(x,m)]).map Prod.fst).map kN,(hd++[(x,m)]).map fun p=>tP p.2):=by
   unfold zi7
   rw [zaj2,decide_eq_false (h x (by simp)),if_neg (by decide)]
   simp
  rw [e,i]
  simp
theorem zak4 {m:Nat}{fv:DE}{ext:Th} (hv:∀x:Int,∃r,fv (.val (.int x)::ext)=some r∧r.d=tP m):∀(xs:List Int) (ys:List Int) (s:Sl),(ys++xs).Nodup→(ys++xs).length≤50000 →
  zk8 (za6 0) zc7 (dVar 0) fv (xs.map D.int) (s::ext) (ys.map kN,ys.map fun _=>tP m)=some ((ys++xs).map kN,(ys++xs).map fun _=>tP m)
 |[],ys,s,_,_=>by simp [zk8]
 |x::xs,ys,s,n,hl=>by
  have i:=zak4 hv xs (ys++[x]) (.val (.int x)) (by simpa using n) (by simpa using hl)
  obtain⟨r,e1,e2⟩:=hv x
  have nx:x∉ys:=fun z=>(zbl0.mp n).2.2 x z x (by simp) rfl
  have st:stKF (ys.map kN,ys.map fun _=>tP m) (.cl (.int x)) r=some ((ys++[x]).map kN,(ys++[x]).map fun _=>tP m):=by
   unfold stKF
   rw [e2]
   show (if (true&&decide ((ys.map kN).length<50000))=true then some (zi7 (ys.map kN) (ys.map fun _=>tP m) (kN x) (tP m)) else none)=_
   rw [if_pos (by rw [decide_eq_true (by rw [zbl5];rw [zbl8,zbm4]at hl;lia)];rfl)]
   unfold zi7
   rw [zaj2,decide_eq_false nx,if_neg (by decide)]
   simp
  show ((fv (.val (.int x)::ext)).bind fun y=>(stKF (ys.map kN,ys.map fun _=>tP m) (.cl (.int x)) y).bind fun a1=>zk8 (za6 0) zc7 (dVar 0) fv (xs.map D.int) (.val (.int x)::ext) a1)=_
  rw [e1]
  simp only [zbj3]
  rw [st]
  simp only [zbj3]
  rw [i]
  simp
theorem zbb0:∀(l:List Nat) (a:Nat),zr8 (a:Int) (l.map fun (n:Nat)=>(n:Int))=((max a (mxL l):Nat):Int)
 |[],a=>by simp [zr8,mxL]
 |b::l,a=>by
  rw [zbk4]
  unfold zr8
  have e:(if (a:Int)<(b:Int) then (b:Int) else (a:Int))=((max a b:Nat):Int):=by
   split<;>lia
  rw [e,zbb0 l]
  show _=((max a (max b (mxL l)):Nat):Int)
  rw [Nat.max_assoc]
theorem top_mx {l:List Nat} (h:l≠[]):topI' (l.map fun (n:Nat)=>(n:Int))=(mxL l:Int):=by
 cases l with
 |nil=>exact absurd rfl h
 |cons a l=>exact zbb0 l a
theorem zas1 (m:Nat):∀l:List Nat,(l.map fun (n:Nat)=>(n:Int)).idxOf (m:Int)=l.idxOf m
 |[]=>rfl
 |a::l=>by
  rw [zbk4,List.idxOf_cons,List.idxOf_cons,zas1 m l]
  have z:((a:Int) ==(m:Int))=(a == m):=by
   by_cases e:a=m
   ·subst e;rw [beq_self_eq_true,beq_self_eq_true]
   ·rw [beq_eq_false_iff_ne.mpr e,beq_eq_false_iff_ne.mpr (by lia)]
  rw [z]
theorem zy4 (f:Int→Nat):∀xs:List Int,flats (xs.map fun x=>tP (f x))=true
 |[]=>rfl
 |x::xs=>by
  show (flat (tP (f x))&&flats (xs.map fun x=>tP (f x)))=true
  rw [zy4 f xs]
  rfl
def finH (M:Nat) (ss:List (List Int)):Nat→Hd→Hd
 |0,hd=>hd
 |n+1,hd=>if hd.length<M then finH M ss n (adS hd ss) else hd
noncomputable def rstH (M:Nat) (ss:List (List Int)):Nat→Hd→List Int
 |0,_=>[]
 |n+1,hd=>if hd.length<M then (bst hd ss:Int)::rstH M ss n (adS hd ss) else []
theorem chs_eq (M:Nat) (ss:List (List Int)):∀(n:Nat) (hd:Hd) (ch:List Int),chs M ss n hd ch=(finH M ss n hd,ch++rstH M ss n hd)
 |0,hd,ch=>by simp [chs,finH,rstH]
 |n+1,hd,ch=>by
  unfold chs finH rstH
  split
  ·rw [chs_eq M ss n];simp
  ·simp
theorem zam4 {M:Nat}{ss:List (List Int)} (ne:ss≠[]):∀(n:Nat) (hd:Hd),∀k∈rstH M ss n hd,0≤k∧k<(ss.length:Int)
 |0,hd,k,h=>nomatch h
 |n+1,hd,k,h=>by
  unfold rstH at h
  split at h
  ·rcases zbj9.mp h with z | z
   ·subst z
    have:=zat4 (hd:=hd) ne
    lia
   ·exact zam4 ne n _ k z
  ·exact nomatch h
theorem rst_nd {M:Nat}{ss:List (List Int)} (c:Cv M ss):∀(n:Nat) (hd:Hd),HI M ss hd→(rstH M ss n hd).Nodup∧∀k∈rstH M ss n hd,∃x,x∈nwS hd (ss.getD k.toNat [])
 |0,hd,h=>⟨zbm2,fun k hk=>nomatch hk⟩
 |n+1,hd,h=>by
  unfold rstH
  split
  ·rename_i hl
   have h0:=h.some_new c hl
   have ne:ss≠[]:=fun z=>by rw [z]at h0;simp [lnS,mxL]at h0
   have bl:=zbi0 (hd:=hd) ne
   obtain⟨h1,_⟩:=h.step c h0
   obtain⟨i1,i2⟩:=rst_nd c n (adS hd ss) h1
   refine⟨zbl6.mpr ⟨fun z=>?_,i1⟩,fun k hk=>?_⟩
   ·obtain⟨x,hx⟩:=i2 _ z
    obtain⟨a,b⟩:=mem_nwS.mp hx
    rw [zas4]at b
    exact b (zbi9 _ (mem_nwS.mpr ⟨a,fun y=>b (zbj1 _ y)⟩))
   ·rcases zbj9.mp hk with z | z
    ·subst z
     show ∃x,x∈nwS hd (ss.getD (bst hd ss) [])
     exact List.exists_mem_of_length_pos (by lia)
    ·obtain⟨x,hx⟩:=i2 k z
     obtain⟨a,b⟩:=mem_nwS.mp hx
     rw [zas4]at b
     exact⟨x,mem_nwS.mpr ⟨a,fun y=>b (zbj1 _ y)⟩⟩
  ·exact⟨zbm2,fun k hk=>nomatch hk⟩
def fct:Nat→Nat
 |0=>1
 |n+1=>(n+1)*fct n
def hmT:Nat→Nat
 |0=>0
 |n+1=>hmT n*(n+1)+fct n
theorem zp9:∀n,0<fct n
 |0=>zbv3
 |n+1=>zbu3 (zcd2 n) (zp9 n)
theorem zbe0 {m:Nat} (h1:1≤m):∀ {N:Nat},m≤N→m ∣ fct N
 |0,h=>by lia
 |N+1,h=>by
  rcases zbs8 h with z | z
  ·exact zcb2 (zbe0 h1 (N:=N) (by lia)) (Nat.dvd_mul_left _ _)
  ·rw [z];exact zcb9 _ _
def wP (N m:Nat):Nat:=fct N / m
theorem pt_w (N:Nat):Pt (wP N) (fct N) N:=⟨fun m h1 h2=>zca1 (zbe0 h1 h2)⟩
theorem hm_eq {N:Nat}:∀ {n:Nat},n≤N→hmT n*fct N=fct n*Hw (wP N) n
 |0,_=>by simp [hmT,Hw]
 |n+1,h=>by
  have i:=hm_eq (N:=N) (n:=n) (by lia)
  have e:=(pt_w N).eq (n+1) (by lia) h
  show (hmT n*(n+1)+fct n)*fct N=(n+1)*fct n*(Hw (wP N) n+wP N (n+1))
  rw [zbv4,Nat.mul_add ((n+1)*fct n)]
  have e1:hmT n*(n+1)*fct N=(n+1)*fct n*Hw (wP N) n:=by
   rw [zbp9,zbt6 (n+1) (fct N), ← zbp9,i,zbt6 (n+1) (fct n),zbp9,zbp9,zbt6 (n+1)]
  have e2:fct n*fct N=(n+1)*fct n*wP N (n+1):=by
   rw [← e,zbt6 (n+1) (fct n),zbp9]
  rw [e1,e2]
theorem hm_le:∀n,hmT n≤n*fct n
 |0=>zbl1 _
 |n+1=>by
  have:=hm_le n
  have h2:hmT n*(n+1)≤n*fct n*(n+1):=zbn3 _ this
  show hmT n*(n+1)+fct n≤(n+1)*((n+1)*fct n)
  have:(n+1)*((n+1)*fct n)=n*fct n*(n+1)+(n+1)*fct n:=by
   rw [zbv4 n 1,zbv5,zbt6 (n+1) (fct n), ← zbp9]
  have h3:fct n≤(n+1)*fct n:=zbm3 _ (zcd2 n)
  lia
theorem fct_mono {a b:Nat} (h:a≤b):fct a≤fct b:=by
 induction b with
 |zero=>rw [Nat.le_zero.mp h];exact zbl1 _
 |succ b ih =>
  rcases zbs8 h with z | z
  ·exact zbk3 (ih (by lia)) (zbm3 _ (zcd2 b))
  ·rw [z];exact zbl1 _
def hA (n:Nat):Nat:=hmT n / zbn1 (hmT n) (fct n)
def hB (n:Nat):Nat:=fct n / zbn1 (hmT n) (fct n)
theorem hAB {N n:Nat} (h:n≤N):hA n*fct N=hB n*Hw (wP N) n:=by
 have g0:0<zbn1 (hmT n) (fct n):=zbn7 _ (zp9 n)
 have e1:hA n*zbn1 (hmT n) (fct n)=hmT n:=zbr2 (zbt9 _ _)
 have e2:hB n*zbn1 (hmT n) (fct n)=fct n:=zbr2 (zbt3 _ _)
 have i:=hm_eq h
 refine Nat.eq_of_mul_eq_mul_right g0 ?_
 rw [zca7,e1,i,zca7,e2]
theorem hB_pos (n:Nat):0<hB n:=by
 have g0:0<zbn1 (hmT n) (fct n):=zbn7 _ (zp9 n)
 exact zcf3 (zby8 _ (zp9 n)) g0
theorem zap9:∀bs:List Bool,blsD (bs.map D.bl)=some bs
 |[]=>rfl
 |b::bs=>by
  show (blsD (bs.map D.bl)).map (b::·)=_
  rw [zap9 bs]
  rfl
theorem allB_of {f:DE}{t:Th}{bs:List Bool} (h:f t=some (.nw (bs.map D.bl))):(dT1 qU (za2 f dNil)) t=some (.cl (.bl (bs.all id))):=by
 rw [zj7 h]
 (try unfold qU);unfold kBls
 simp only [Ev.d,zap9,zbp0]
theorem anyB_of {f:DE}{t:Th}{bs:List Bool} (h:f t=some (.nw (bs.map D.bl))):(dT1 (kBls fun bs=>bs.any id) (za2 f dNil)) t=some (.cl (.bl (bs.any id))):=by
 rw [zj7 h]
 (try unfold qU);unfold kBls
 simp only [Ev.d,zap9,zbp0]
theorem ch_of {fa fb fc:DE}{t:Th}{a b c:Int} (h1:fa t=some (.cl (.int a))) (h2:fb t=some (.cl (.int b))) (h3:fc t=some (.cl (.int c))):dCh qE qL fa fb fc t=some (decide (a≤b)&&decide (b<c)):=by
 unfold dCh
 rw [h1,h2,h3]
 show (match D.bl (decide (a≤b)) with
  |.bl true=>some (decide (b<c))
  |.bl false=>some false
  |_=>none)=_
 cases decide (a≤b)<;>rfl
theorem chv_of {fa fb fc:DE}{t:Th}{a b c:Int} (h1:fa t=some (.cl (.int a))) (h2:fb t=some (.cl (.int b))) (h3:fc t=some (.cl (.int c))):dChV qE qL fa fb fc t=some (.cl (.bl (decide (a≤b)&&decide (b<c)))):=by
 unfold dChV
 rw [ch_of h1 h2 h3]
 rfl
theorem lens_of {f:DE}{t:Th}{r:Ev}{xs:List Int} (h:f t=some r) (hr:r.d=.lst (xs.map D.int)) (hl:xs.length≤3000):(dT1 zv7 (za2 f dNil)) t=some (.cl (.int ((ddp xs).length:Int))):=by
 rw [zj7 h]
 unfold zv7
 simp only [hr,zn2,zbj3]
 rw [if_pos hl]
theorem mem_ddp (P:List Int) (x:Int):x∈ddp P↔x∈P:=by
 have:∀(l acc:List Int),x∈l.foldl step_dedup acc↔x∈acc∨x∈l:=by
  intro l
  induction l with
  |nil=>intro acc;simp
  |cons y l ih =>
   intro acc
   simp only [zbr6,ih,zbj9]
   unfold step_dedup
   split
   ·rename_i c
    obtain⟨z,hz,e⟩:=zbv7.mp c
    have e:z=y:=by simpa using e
    subst e
    constructor
    ·rintro (h | h)
     ·exact .inl h
     ·exact .inr (.inr h)
    ·rintro (h | h | h)
     ·exact .inl h
     ·subst h;exact .inl hz
     ·exact .inr h
   ·simp only [zbj4,zbk6,or_assoc]
 have h:=this P []
 simpa [ddp] using h
theorem ddp_nd:∀(xs:List Int),xs.Nodup→(ddp xs).length=xs.length:=fun xs h=>by
 have h1:=zu9 h (C:=ddp xs) fun x hx=>(mem_ddp xs x).mpr hx
 have h2:=ddp_le xs
 lia
theorem bo_of {f:DE}{t:Th}{b:Bool} (h:f t=some (.cl (.bl b))):dBo f t=some b:=by
 unfold dBo
 rw [h]
 rfl
theorem compN_R {fe f:DE}{g:Int→D}{cap:List Nat}{t:Th}{r:Ev}{n:Nat}{b:Bool}{c:List D} (hf:f t=some r) (hr:r.d=.int (n:Int)) (hc:capD t cap=some (b,c)) (hl:n≤50000)
  (h2:∀x∈zb4 n,∃r,fe (.val (.int x)::c.map Sl.val)=some r∧toDn r=some (g x)):zn4 1 cap (fsR1 f) (za6 0) zc7 fe t=some (.dn (.lst ((zb4 n).map g))):=by
 unfold zn4
 have e1:fsR1 f t=some (true,(zb4 n).map D.int):=by
  unfold fsR1;rw [hf];simp only [zbj3,hr]
  rw [if_pos (by unfold bigI;simp;lia), ← zaq6]
  rfl
 have e2:zj6 (za6 0) zc7 fe ((zb4 n).map D.int) (Sl.no::c.map Sl.val)=some ((zb4 n).map g):=zap5 (zb4 n) _ h2
 rw [e1,hc]
 simp only [zbj3]
 rw [if_pos (by simpa [zb4] using hl)]
 show (zj6 (za6 0) zc7 fe ((zb4 n).map D.int) (Sl.no::c.map Sl.val)).map _=_
 rw [e2]
 rfl
theorem app_nw {t:Th}{f:DE}{i:Nat}{xs ys:List D} (hf:f t=some (.nw ys)) (hi:t[i]?=some (.own xs)) (hl:xs.length<100000):dApp i f t=some (.nx (t.set i (.own (xs++[.lst ys])))):=by
 unfold dApp
 rw [hf]
 simp [kApp,hi,hl,Ev.ok,Ev.d]
theorem calld {G:List D→Option Ev}{rs:List Ev}{d:D} (h:G (rs.map Ev.d)=some (.dn d)):zc3 G rs=some (.dn d):=by
 unfold zc3
 rw [h]
 simp only [zbp0]
 unfold upEv
 split<;>rfl
theorem zaj6 {fa fb:DE}{t:Th}{a b:Int} (h1:fa t=some (.cl (.int a))) (h2:fb t=some (.cl (.int b))):(d2 kEq fa fb) t=some (.cl (.bl (decide (a=b)))):=by
 rw [zh7 h1 h2]
 have:kEq (.cl (.int a)) (.cl (.int b))=some (.cl (.bl (eqD (.int a) (.int b)))):=rfl
 rw [this,zaf2]
theorem grd' {c:DT}{g:DS}{t:Th} (h:c t=some false):dIfS c g zf0 t=some (.nx t):=grd h rfl
def lcF (L b:Nat):Nat:=L / zbn1 L b*b
def lcQ (qs:List (Int×Nat)) (L:Nat):Nat:=qs.foldl (fun L q=>lcF L q.2) L
theorem zbc6 {L b:Nat} (h:0<L) (h':0<b):0<lcF L b:=zbu3 (zcf3 (Nat.gcd_le_left _ h) (zbx9 _ h)) h'
theorem lcF_dvd (L b:Nat):L ∣ lcF L b∧b ∣ lcF L b:=by
 refine⟨?_,Nat.dvd_mul_left _ _⟩
 obtain⟨k,hk⟩:=zbt3 L b
 have e:L / zbn1 L b*zbn1 L b=L:=zbr2 (zbt9 L b)
 refine⟨k,?_⟩
 show L / zbn1 L b*b=L*k
 calc L / zbn1 L b*b=L / zbn1 L b*(zbn1 L b*k):=by rw [← hk]
  _=L*k:=by rw [← zbp9,e]
theorem lcF_le (L b:Nat):lcF L b≤L*b:=zbn3 _ (zbr7 _ _)
structure Shs (qs:List (Int×Nat)):Prop where
 len:qs.length≤200
 bt:∀q∈qs,1≤q.2∧q.2≤1000
 tp:∀q∈qs,q.1.natAbs≤1000000000000000000
theorem zac7:∀(qs:List (Int×Nat)) (L:Nat),0<L→(∀q∈qs,1≤q.2∧q.2≤1000)→0<lcQ qs L∧L ∣ lcQ qs L∧(∀q∈qs,q.2 ∣ lcQ qs L)∧lcQ qs L≤L*1000 ^ qs.length
 |[],L,h,_=>⟨h,Nat.dvd_refl _,(fun q hq=>nomatch hq),by simp [lcQ]⟩
 |q::qs,L,h,hb=>by
  have b:=hb q (by simp)
  obtain⟨i1,i2,i3,i4⟩:=zac7 qs (lcF L q.2) (zbc6 h b.1) fun x hx=>hb x (zbj2 _ hx)
  obtain⟨d1,d2⟩:=lcF_dvd L q.2
  refine⟨i1,zcb2 d1 i2,fun x hx=>?_,?_⟩
  ·rcases zbj9.mp hx with z | z
   ·subst z;exact zcb2 d2 i2
   ·exact i3 x z
  ·refine zbk3 i4 ?_
   rw [zbm4,zbu4,zbt6 (1000 ^ qs.length), ← zbp9]
   exact zbn3 _ (zbk3 (lcF_le L q.2) (zbs1 _ b.2))
def qD (q:Int×Nat):D:=.tup [.int q.1,.int (q.2:Int)]
def lcL (qs:List (Int×Nat)):Nat:=lcQ qs 1
def tps (qs:List (Int×Nat)):List Int:=qs.map fun q=>q.1*((lcL qs / q.2:Nat):Int)
def bigT:Nat:=1000000000000000000*1000 ^ 200
theorem zag0:1000*bigT<DL.bnd:=by decide +kernel
theorem zbc5 {qs:List (Int×Nat)} (h:Shs qs):lcL qs≤1000 ^ 200:=by
 have:=(zac7 qs 1 zbv3 h.bt).2.2.2
 rw [zbv5]at this
 exact zbk3 this (zbm9 (by decide) h.len)
theorem zbc4 {qs:List (Int×Nat)} (h:Shs qs):0<lcL qs:=(zac7 qs 1 zbv3 h.bt).1
theorem zv3:1000 ^ 200≤bigT:=zbm3 _ (by decide)
theorem tps_le {qs:List (Int×Nat)} (h:Shs qs):∀x∈tps qs,x.natAbs≤bigT:=fun x hx=>by
 obtain⟨q,hq,rfl⟩:=zbm5.mp hx
 rw [zbu0,zbq1]
 exact zbo0 (h.tp q hq) (zbk3 (zbr7 _ _) (zbc5 h))
theorem zay0 {B:Nat}:∀ {l:List Int},(∀x∈l,x.natAbs≤B)→l.sum.natAbs≤l.length*B
 |[],_=>by simp
 |a::l,h=>by
  have i:=zay0 (l:=l) fun x hx=>h x (zbj2 _ hx)
  have:=h a (by simp)
  rw [zcb3,zbm4,zbv4,zbv5]
  exact zbk3 (zcc0 _ _) (by lia)
theorem smA {i:Int} (h:i.natAbs<DL.bnd):sm i=true:=by
 unfold sm
 rw [decide_eq_true_eq]
 exact h
noncomputable def isCh (M:Nat) (ss:List (List Int)) (ch:List Int):Bool:=(ch.map fun c=>decide (0≤c)&&decide (c<(ss.length:Int))).all id&&(decide ((ddp ch).length=ch.length)&&((zb4 M).filter fun x=>decide (x∉hads ss ch)).isEmpty)
def sumS (T:List Int) (s:List Int):Int:=(s.map fun x=>T.getD x.toNat 0).sum
def payS (T:List Int) (L:Nat) (s:List Int):Bool:=!decide ((hA s.length:Int)*(L:Int)<sumS T s*(hB s.length:Int))
noncomputable def zr9 (M:Nat) (ss:List (List Int)) (ch:List Int) (qs:List (Int×Nat)):Bool :=
 isCh M ss ch&&decide (qs.length=M)&&!((tps qs).map fun x=>decide (x<0)).any id&&decide ((tps qs).sum=(ch.length:Int)*(lcL qs:Int))&&ss.all (payS (tps qs) (lcL qs))
theorem all_id {α:Type}{p:α→Bool}{l:List α}:(l.map p).all id=true↔∀x∈l,p x=true:=by
 rw [zbr1]
 exact⟨fun h x hx=>h _ (zbm5.mpr ⟨x,hx,rfl⟩),fun h y hy=>by
  obtain⟨x,hx,rfl⟩:=zbm5.mp hy
  exact h x hx⟩
theorem any_id {α:Type}{p:α→Bool}{l:List α}:(l.map p).any id=true↔∃x∈l,p x=true:=by
 rw [zbv7]
 exact⟨fun ⟨y,hy,h⟩=>by
  obtain⟨x,hx,rfl⟩:=zbm5.mp hy
  exact⟨x,hx,h⟩,fun ⟨x,hx,h⟩=>⟨_,zbm5.mpr ⟨x,hx,rfl⟩,h⟩⟩
def ownQ (M:Nat) (H:Hd):List (Int×Nat):=(zb4 M).map fun x=>(1,shr H x)
structure Full (M:Nat) (ss:List (List Int)) (H:Hd):Prop where
 hi:HI M ss H
 ln:H.length=M
theorem Full.perm {M:Nat}{ss:List (List Int)}{H:Hd} (h:Full M ss H):(H.map Prod.fst).Perm (zb4 M):=by
 refine (List.perm_ext_iff_of_nodup h.hi.ak.nd (zr7 M)).mpr fun x=>⟨fun hx=>zo3 (h.hi.ak.lt x hx).1 (h.hi.ak.lt x hx).2,fun hx=>?_⟩
 refine Classical.byContradiction fun z=>?_
 obtain⟨x0,x1⟩:=ze9 hx
 have ak:AllK M (H.map Prod.fst++[x]):=⟨zbl0.mpr ⟨h.hi.ak.nd,by simp,fun a ha b hb e=>by rw [zbk6]at hb;subst hb;subst e;exact z ha⟩,fun y hy=>by
  rcases zbj4.mp hy with q | q
  ·exact h.hi.ak.lt y q
  ·rw [zbk6]at q;subst q;exact⟨x0,x1⟩⟩
 have:=ak.len
 rw [zbl8,zbl5,h.ln,zbn8]at this
 lia
theorem Full.shr {M:Nat}{ss:List (List Int)}{H:Hd} (h:Full M ss H) {x:Int} (h0:0≤x) (h1:x<(M:Int)):0<shr H x∧shr H x≤M:=by
 have:x∈H.map Prod.fst:=h.perm.mem_iff.mpr (zo3 h0 h1)
 obtain⟨p,hp,rfl⟩:=zbm5.mp this
 rw [shr_of (m:=p.2) h.hi.ak.nd hp]
 exact h.hi.ps p hp
theorem fin_hi {M:Nat}{ss:List (List Int)} (c:Cv M ss):∀(n:Nat) (hd:Hd),HI M ss hd→M<hd.length+n→HI M ss (finH M ss n hd)∧(finH M ss n hd).length=M
 |0,hd,h,hn=>by
  have:hd.length≤M:=by simpa using h.ak.len
  lia
 |n+1,hd,h,hn=>by
  unfold finH
  by_cases hl':hd.length<M
  ·rw [if_pos hl']
   obtain⟨h1,h2⟩:=h.step c (h.some_new c hl')
   exact fin_hi c n _ h1 (by lia)
  ·rw [if_neg hl']
   have:hd.length≤M:=by simpa using h.ak.len
   exact⟨h,show hd.length=M by lia⟩
theorem fin_full {M:Nat}{ss:List (List Int)} (c:Cv M ss) {n:Nat} (hn:M<n):Full M ss (finH M ss n []):=by
 have:=fin_hi c n [] (HI.nil M ss) (by simpa using hn)
 exact⟨this.1,this.2⟩
def hadS (ss:List (List Int)) (ks:List Int):List Int:=ss.foldl (fun ks s=>s.foldl putN ks) ks
theorem mem_hadS {y:Int}:∀ {ss:List (List Int)}{ks:List Int},y∈hadS ss ks↔y∈ks∨∃s∈ss,y∈s
 |[],ks=>by simp [hadS]
 |s::ss,ks=>by
  show y∈hadS ss (s.foldl putN ks)↔_
  rw [mem_hadS (ss:=ss),zt6,or_assoc]
  simp
def zas8 (M:Nat) (ss:List (List Int)):List (List Int):=ss++[(zb4 M).filter fun x=>decide (x∉hadS ss [])]
theorem zbg0 {M:Nat}{ss:List (List Int)} (h:∀s∈ss,∃p:Int→Bool,s=(zb4 M).filter p):(∀s∈zas8 M ss,∃p:Int→Bool,s=(zb4 M).filter p)∧Cv M (zas8 M ss):=by
 have hf:∀s∈zas8 M ss,∃p:Int→Bool,s=(zb4 M).filter p:=fun s hs=>by
  rcases zbj4.mp hs with z | z
  ·exact h s z
  ·rw [zbk6.mp z];exact⟨_,rfl⟩
 refine⟨hf,⟨fun s hs=>?_,fun s hs x hx=>?_,fun x h0 h1=>?_⟩⟩
 ·obtain⟨p,rfl⟩:=hf s hs
  exact (zr7 M).filter _
 ·obtain⟨p,rfl⟩:=hf s hs
  exact ze9 (zbp6.mp hx).1
 ·by_cases z:x∈hadS ss []
  ·rcases mem_hadS.mp z with y | ⟨s,hs,y⟩
   ·exact nomatch y
   ·exact⟨s,zbj1 _ hs,y⟩
  ·exact⟨_,zbi9 _ (zbk6.mpr rfl),zbp6.mpr ⟨zo3 h0 h1,by simpa using z⟩⟩
def dctT (ks:List Int):D:=.dct (ks.map kN) (ks.map ttD)
theorem sc_tt:∀ks:List Int,(ks.map ttD).all scD=true
 |[]=>rfl
 |k::ks=>by
  rw [zbk4,zbn4,sc_tt ks]
  rfl
theorem zbe7 {t:Th}{i:Nat}{fk:DE}{r:Ev}{ks:List Int}{x:Int} (hi:t[i]?=some (.dp (dctT ks))) (hk:fk t=some r) (hr:r.d=.int x) (hl:ks.length<100000):zaf5 i fk (dC (.bl true)) t=some (.nx (t.set i (.dp (dctT (putN ks x))))):=by
 unfold zaf5
 show ((fk t).bind fun k=>zai7 t i (.cl (.bl true)) k)=_
 rw [hk]
 show zai7 t i (.cl (.bl true)) r=_
 unfold zai7
 rw [hi,hr]
 show (if (ks.map ttD).all scD&&scD (.bl true)&&decide ((ks.map kN).length<100000) then some (Out.nx (t.set i (.dp (.dct (zi7 (ks.map kN) (ks.map ttD) (kN x) (.bl true)).1 (zi7 (ks.map kN) (ks.map ttD) (kN x) (.bl true)).2)))) else none)=_
 rw [sc_tt,decide_eq_true (by rw [zbl5];exact hl),if_pos (by rfl),put_tt]
 rfl
end KX
set_option maxHeartbeats 4000000
namespace KX
open PySem.Spec L2 DL
def top (i:Nat):Stmt:=PySem.Challenge.pw_nearenough_k28_looker_of_choices.main.body.getD i (.Pass ⟨0,0,0,0⟩)
abbrev zi9:Stmt:=top 4
abbrev zq7:Stmt:=top 5
abbrev zq6:Stmt:=top 6
abbrev zh3:Stmt:=top 7
abbrev zi2:Stmt:=top 9
abbrev zj0:Stmt:=top 10
abbrev zo1:Stmt:=top 11
abbrev zl2:Stmt:=top 12
abbrev zl0:Stmt:=top 13
abbrev zq5:Stmt:=top 15
abbrev zo0:Stmt:=top 16
abbrev zs8:Stmt:=top 17
abbrev zq3:Stmt:=top 18
abbrev zs9:Stmt:=top 19
abbrev zt1:Stmt:=top 20
abbrev zs7:Stmt:=top 21
abbrev zk0:Stmt:=top 22
abbrev zt0:Stmt:=top 23
abbrev zn9:Stmt:=top 24
abbrev zl1:Stmt:=top 25
abbrev zq4:Stmt:=top 26
abbrev zi8:Stmt:=top 27
abbrev s_law:Stmt:=top 28
structure Blt (mg:Str→Option Value):Prop where
 n_abs:mg "abs"=none
 n_all:mg "all"=none
 n_any:mg "any"=none
 n_bool:mg "bool"=none
 n_enumerate:mg "enumerate"=none
 n_int:mg "int"=none
 n_isinstance:mg "isinstance"=none
 n_len:mg "len"=none
 n_list:mg "list"=none
 n_max:mg "max"=none
 n_min:mg "min"=none
 n_range:mg "range"=none
 n_reversed:mg "reversed"=none
 n_set:mg "set"=none
 n_sum:mg "sum"=none
variable {P:Program}{w:World}{K:zbj0}{mg:Str→Option Value}{base:BHeap}{ad:Addr}{fd:FuncData}
theorem zx1:FnScope ["one", "other"] ["one", "other"] (zb8 zi9):=zl7 rfl rfl rfl rfl (by decide +kernel)
def cfB:DS:=(dPar 0 1 (za2 (dVar 1) (za2 (d2 qR (dVar 0) (dVar 1)) dNil)))
def zp8:DS :=
 (dSeq (zw5 (zao7 1) (dBo (d2 kNe (dVar 1) (dC (.int 0)))) cfB) (dRet (dT1 kAbs (za2 (dVar 0) dNil))))
def ze0:List D→Option Ev:=mkG 2 ["one", "other"] zp8
theorem zx4 (Fn:L2.Fun K "common_factor" "common_factor" zi9 ad fd) (bu:Blt mg) :FnOk P w K mg base CX0 1 ad fd ["one", "other"] (spD K ze0):=by
 have SC:=zx1
 refine zg9 (k:=0) Fn SC (fun _ _ e=>ze8 e) zp8 (fun _ _ e=>zg8 e) (fun cdv A outer s H E F hr=>?_)
 refine za5 ?_ ?_
 ·exact (zz0 (zao7 1) PassesOwn.never (zd2 (zan8 hr.units) (za1 1) za3) (zb2 (zam7 (i:=0) (j:=1) rfl SC.nd rfl rfl (by decide) rfl rfl (za0 (za1 1) (za0 (za7 zd9 (za1 0) (za1 1)) za4)) rfl)))
 exact zb2 (zc8 (zc0 cd_abs rfl bu.n_abs bt_abs (za0 (za1 0) za4)))
theorem zam3:FnScope ["top", "bottom", "factor"] ["top", "bottom"] (zb8 zq7):=zl7 rfl rfl rfl rfl (by decide +kernel)
noncomputable def zw2:DS :=
 (dSeq (dAsg 2 (dT1 (zc3 ze0) (za2 (dVar 0) (za2 (dVar 1) dNil)))) (dSeq (dIfS (dBo (d2 qL (dVar 1) (dC (.int 0)))) (dAsg 2 (d1 kNeg (dVar 2))) zf0) (dRet (dT1 kTup (za2 (d2 qV (dVar 0) (dVar 2)) (za2 (d2 qV (dVar 1) (dVar 2)) dNil))))))
def zn7:List D→Option Ev:=mkG 2 ["top", "bottom", "factor"] zw2
theorem zan6 (Fn:L2.Fun K "fraction" "fraction" zq7 ad fd) (bu:Blt mg) (c_common_factor:Cal P w K mg base "common_factor" 1 ze0):FnOk P w K mg base CX0 2 ad fd ["top", "bottom"] (spD K zn7):=by
 have SC:=zam3
 refine zg9 (k:=1) Fn SC (fun _ _ e=>ze8 e) zw2 (fun _ _ e=>zg8 e) (fun cdv A outer s H E F hr=>?_)
 refine za5 ?_ ?_
 ·exact (zb5 (i:=2) SC.nd rfl (zb1 rfl) (zb0 c_common_factor (hr.mono (by decide)) (za0 (za1 0) (za0 (za1 1) za4))))
 refine za5 ?_ ?_
 ·exact (ze5 (zd2 zan9 (za1 1) za3) (zb2 (zb5 (i:=2) SC.nd rfl (zb1 rfl) (zae4 (za1 2)))) zd3)
 exact zb2 (zc8 (ze1 (za0 (za7 zj3 (za1 0) (za1 2)) (za0 (za7 zj3 (za1 1) (za1 2)) za4))))
theorem zam2:FnScope ["many", "top", "bottom", "step"] ["many"] (zb8 zq6):=zl7 rfl rfl rfl rfl (by decide +kernel)
def bdHm:DS:=(dPar 1 2 (za2 (d2 qA (d2 qM (dVar 1) (dVar 3)) (dVar 2)) (za2 (d2 qM (dVar 2) (dVar 3)) dNil)))
noncomputable def zw1:DS :=
 (dSeq (zac1 (zr0 2 (ze6 (za6 1) (ze6 (za6 2) zr1))) (dT1 kTup (za2 (dC (.int 0)) (za2 (dC (.int 1)) dNil)))) (dSeq (zak0 (za6 3) (dC (.int 1)) (d2 qA (dVar 0) (dC (.int 1))) bdHm) (dRet (dT1 (zc3 zn7) (za2 (dVar 1) (za2 (dVar 2) dNil))))))
def zn6:List D→Option Ev:=mkG 1 ["many", "top", "bottom", "step"] zw1
theorem zan5 (Fn:L2.Fun K "harmonic" "harmonic" zq6 ad fd) (bu:Blt mg) (c_fraction:Cal P w K mg base "fraction" 2 zn7):FnOk P w K mg base CX0 3 ad fd ["many"] (spD K zn6):=by
 have SC:=zam2
 refine zg9 (k:=2) Fn SC (fun _ _ e=>ze8 e) zw1 (fun _ _ e=>zg8 e) (fun cdv A outer s H E F hr=>?_)
 refine za5 ?_ ?_
 ·exact (zam8 (ze1 (za0 za3 (za0 za3 za4))) (zar6 rfl (zk1 (zc2 (i:=1) SC.nd rfl (zb1 rfl)) (zk1 (zc2 (i:=2) SC.nd rfl (zb1 rfl)) zz4))) (zax7 (zm1 (zc5 1) (zm1 (zc5 2) zad4))))
 refine za5 ?_ ?_
 ·exact (zar4 PassesOwn.never rfl rfl bu.n_range za3 (za7 (od_add.or ze2) (za1 0) za3) (zc2 (i:=3) SC.nd rfl (zb1 rfl)) (zc5 3) (zb2 (zam7 (i:=1) (j:=2) rfl SC.nd rfl rfl (by decide) rfl rfl (za0 (za7 (od_add.or ze2) (za7 (od_mul.or ze7) (za1 1) (za1 3)) (za1 2)) (za0 (za7 (od_mul.or ze7) (za1 2) (za1 3)) za4)) rfl)))
 exact zb2 (zc8 (zb0 c_fraction (hr.mono (by decide)) (za0 (za1 1) (za0 (za1 2) za4))))
theorem zs6:FnScope ["parts", "bottom", "part"] ["parts"] (zb8 zh3):=zl7 rfl rfl rfl rfl (by decide +kernel)
noncomputable def bdB:DS:=(dAsg 1 (d2 qM (d2 qV (dVar 1) (dT1 (zc3 ze0) (za2 (dVar 1) (za2 (d2 kIx (dVar 2) (dC (.int 1))) dNil)))) (d2 kIx (dVar 2) (dC (.int 1)))))
noncomputable def zj8:DS :=
 (dSeq (dAsg 1 (dC (.int 1))) (dSeq (dFor (za6 2) (dVar 0) bdB) (dRet (dT1 kTup (za2 (ze3 1 [1] (fsL (dVar 0)) (za6 0) zc7 (d2 qM (d2 kIx (dVar 0) (dC (.int 0))) (d2 qV (dVar 1) (d2 kIx (dVar 0) (dC (.int 1)))))) (za2 (dVar 1) dNil))))))
def zd7:List D→Option Ev:=mkG 1 ["parts", "bottom", "part"] zj8
theorem zt5 (Fn:L2.Fun K "over_one_bottom" "over_one_bottom" zh3 ad fd) (bu:Blt mg) (c_common_factor:Cal P w K mg base "common_factor" 1 ze0):FnOk P w K mg base CX0 2 ad fd ["parts"] (spD K zd7):=by
 have SC:=zs6
 refine zg9 (k:=1) Fn SC (fun _ _ e=>ze8 e) zj8 (fun _ _ e=>zg8 e) (fun cdv A outer s H E F hr=>?_)
 refine za5 ?_ ?_
 ·exact (zb5 (i:=1) SC.nd rfl (zb1 rfl) za3)
 refine za5 ?_ ?_
 ·exact (zv2 PassesOwn.never rfl (za1 0) (zc2 (i:=2) SC.nd rfl (zb1 rfl)) (zc5 2) (zb2 (zb5 (i:=1) SC.nd rfl (zb1 rfl) (za7 (od_mul.or ze7) (za7 zj3 (za1 1) (zb0 c_common_factor (hr.mono (by decide)) (za0 (za1 1) (za0 (zd8 (za1 2) za3) za4)))) (zd8 (za1 2) za3)))))
 exact zb2 (zc8 (ze1 (za0 (zf5 1 [1] ["part", "bottom"] rfl (zh4 (za1 0)) (fun _ _ _ _ _=>(zc2 (i:=0) (show List.Nodup (["part", "bottom"]:List Str) by decide +kernel) rfl (zb1 rfl))) (fun _=>(zc5 0)) (fun _ _ _ _ _ _=>zf4) (fun _ _ _ _ _ _=>(za7 (od_mul.or ze7) (zd8 (za1 0) za3) (za7 zj3 (za1 1) (zd8 (za1 0) za3))))) (za0 (za1 1) za4))))
theorem zv0:FnScope ["many", "sets", "numbers", "had"] ["many", "sets", "numbers"] (zb8 zi2):=zl7 rfl rfl rfl rfl (by decide +kernel)
noncomputable def zi3:DS :=
 (dSeq (dAsg 3 (zab0 2 [1] (fsL (dVar 2)) (za6 0) zc7 (fsL (d2 kIx (dVar 2) (dVar 0))) (za6 1) zc7 (dVar 1) (dC (.bl true)))) (dRet (ze3 1 [3] (fsR1 (dVar 0)) (za6 0) (dBo (d2 (kInD true) (dVar 0) (dVar 1))) (dVar 0))))
def zc4:List D→Option Ev:=mkG 3 ["many", "sets", "numbers", "had"] zi3
theorem zv4 (Fn:L2.Fun K "lacking_things" "lacking_things" zi2 ad fd) (bu:Blt mg) :FnOk P w K mg base CX0 1 ad fd ["many", "sets", "numbers"] (spD K zc4):=by
 have SC:=zv0
 refine zg9 (k:=0) Fn SC (fun _ _ e=>ze8 e) zi3 (fun _ _ e=>zg8 e) (fun cdv A outer s H E F hr=>?_)
 refine za5 ?_ ?_
 ·exact (zb5 (i:=3) SC.nd rfl (zb1 rfl) (zan0 2 [1] ["number", "thing", "sets"] rfl (zh4 (za1 2)) (fun _ _ _ _ _=>(zc2 (i:=0) (show List.Nodup (["number", "thing", "sets"]:List Str) by decide +kernel) rfl (zb1 rfl))) (fun _=>(zc5 0)) (fun _ _ _ _ _ _=>zf4) (fun _ _ _ _ _ _=>(zh4 (zd8 (za1 2) (za1 0)))) (fun _ _ _ _ _=>(zc2 (i:=1) (show List.Nodup (["number", "thing", "sets"]:List Str) by decide +kernel) rfl (zb1 rfl))) (fun _=>(zc5 1)) (fun _ _ _ _ _ _=>zf4) (fun _ _ _ _ _ _=>(za1 1)) (fun _ _ _ _ _ _=>zg6)))
 exact zb2 (zc8 (zf5 1 [3] ["thing", "had"] rfl (zo2 rfl bu.n_range (za1 0)) (fun _ _ _ _ _=>(zc2 (i:=0) (show List.Nodup (["thing", "had"]:List Str) by decide +kernel) rfl (zb1 rfl))) (fun _=>(zc5 0)) (fun _ _ _ _ _ _=>(zt3 (zd2 (zan7 hr.units) (za1 0) (za1 1)))) (fun _ _ _ _ _ _=>(za1 0))))
theorem zx2:FnScope ["many", "sets", "lacking", "shares", "choice", "new", "lengths", "most", "best"] ["many", "sets"] (zb8 zj0):=zl7 rfl rfl rfl rfl (by decide +kernel)
noncomputable def bdN:DS:=(dSeq (dAsg 5 (zn4 1 [3] (fsL (dVar 1)) (za6 0) zc7 (ze3 1 [1] (fsL (dVar 0)) (za6 0) (dBo (d2 (kInD true) (dVar 0) (dVar 1))) (dVar 0))))
  (dSeq (dAsg 6 (ze3 1 [] (fsL (dVar 5)) (za6 0) zc7 (dT1 kLen (za2 (dVar 0) dNil))))
  (dSeq (dAsg 7 (dT1 (zx7 zr8) (za2 (dVar 6) dNil)))
  (dSeq (dAsg 8 (d2 kIdx (dVar 6) (dVar 7)))
  (dSeq (dApp 4 (dVar 8))
  (dUpd 3 (zw3 1 [7] (fsL (d2 kIx (dVar 5) (dVar 8))) (za6 0) zc7 (dVar 0) (dT1 kTup (za2 (dC (.int 1)) (za2 (dVar 1) dNil))))))))))
def cdN:DT:=(dBo (d2 qL (dT1 zaw1 (za2 (dVar 3) dNil)) (dVar 0)))
noncomputable def zj4:DS :=
 (dSeq (dAsg 2 (dT1 (zc3 zc4) (za2 (dVar 0) (za2 (dVar 1) (za2 (zg4 (za2 (dT1 kLen (za2 (dVar 1) dNil)) dNil)) dNil))))) (dSeq (dIfS (dTr (dVar 2)) zbf6 zf0) (dSeq (dAsg 3 zap3) (dSeq (dAsg 4 (dT1 kLst dNil)) (dSeq (zw5 (fun _=>500) cdN bdN) (zaw8 (mTup (zae7 (mOwn 4) (zae7 (mOf (ze3 1 [3] (fsR1 (dVar 0)) (za6 0) zc7 (d2 zac9 (dVar 1) (dVar 0)))) mNil)))))))))
def zf7:List D→Option Ev:=mkG 2 ["many", "sets", "lacking", "shares", "choice", "new", "lengths", "most", "best"] zj4
theorem zx5 (Fn:L2.Fun K "choose_by_new" "choose_by_new" zj0 ad fd) (bu:Blt mg) (c_lacking_things:Cal P w K mg base "lacking_things" 1 zc4):FnOk P w K mg base CX0 2 ad fd ["many", "sets"] (spD K zf7):=by
 have SC:=zx2
 refine zg9 (k:=1) Fn SC (fun _ _ e=>ze8 e) zj4 (fun _ _ e=>zg8 e) (fun cdv A outer s H E F hr=>?_)
 refine za5 ?_ ?_
 ·exact (zb5 (i:=2) SC.nd rfl (zb1 rfl) (zb0 c_lacking_things (hr.mono (by decide)) (za0 (za1 0) (za0 (za1 1) (za0 (zj1 rfl rfl bu.n_list rfl bu.n_range (za0 (zc0 zi6 rfl bu.n_len PySem.boot_len (za0 (za1 1) za4)) za4)) za4)))))
 refine za5 ?_ ?_
 ·exact (ze5 (zg3 (za1 2)) (zb2 zaz2) zd3)
 refine za5 ?_ ?_
 ·exact (zb5 (i:=3) SC.nd rfl (zb1 rfl) zae3)
 refine za5 ?_ ?_
 ·exact (zb5 (i:=4) SC.nd rfl (zb1 rfl) (zc6 za4))
 refine za5 ?_ ?_
 ·exact (zz0 (fun _=>500) PassesOwn.never (zd2 zan9 (zc0 zbg7 rfl bu.n_len PySem.boot_len (za0 (za1 3) za4)) (za1 0)) (za5 (zaz1 (i:=5) 1 [3] ["things", "shares"] SC.nd rfl (Or.inl rfl) rfl (zh4 (za1 1)) (fun _ _ _ _ _=>(zc2 (i:=0) (show List.Nodup (["things", "shares"]:List Str) by decide +kernel) rfl (zb1 rfl))) (fun _=>(zc5 0)) (fun _ _ _ _ _ _=>zf4) (fun _ _ _ _ _ _=>(zf5 1 [1] ["thing", "shares"] rfl (zh4 (za1 0)) (fun _ _ _ _ _=>(zc2 (i:=0) (show List.Nodup (["thing", "shares"]:List Str) by decide +kernel) rfl (zb1 rfl))) (fun _=>(zc5 0)) (fun _ _ _ _ _ _=>(zt3 (zd2 (zan7 hr.units) (za1 0) (za1 1)))) (fun _ _ _ _ _ _=>(za1 0)))))
  (za5 (zy0 (i:=6) 1 [] ["things"] SC.nd rfl (Or.inl rfl) rfl (zh4 (za1 5)) (fun _ _ _ _ _=>(zc2 (i:=0) (show List.Nodup (["things"]:List Str) by decide +kernel) rfl (zb1 rfl))) (fun _=>(zc5 0)) (fun _ _ _ _ _ _=>zf4) (fun _ _ _ _ _ _=>(zc0 zi6 rfl bu.n_len PySem.boot_len (za0 (za1 0) za4))))
  (za5 (zb5 (i:=7) SC.nd rfl (zb1 rfl) (zc0 (cd_maxL rfl) rfl bu.n_max (by decide +kernel) (za0 (za1 6) za4)))
  (za5 (zb5 (i:=8) SC.nd rfl (zb1 rfl) (zaz8 (za1 6) (za1 7)))
  (za5 (zz2 4 (za1 8))
  (zb2 (psd_upd 3 (zan1 1 [7] ["thing", "most"] rfl (zh4 (zd8 (za1 5) (za1 8))) (fun _ _ _ _ _=>(zc2 (i:=0) (show List.Nodup (["thing", "most"]:List Str) by decide +kernel) rfl (zb1 rfl))) (fun _=>(zc5 0)) (fun _ _ _ _ _ _=>zf4) (fun _ _ _ _ _ _=>(za1 0)) (fun _ _ _ _ _ _=>(ze1 (za0 za3 (za0 (za1 1) za4)))))))))))))
 exact zb2 (psd_retM (pm_tup (zar5 (fun _=>(pm_own 4)) (fun _=>(zar5 (fun _=>(pm_of (zf5 1 [3] ["thing", "shares"] rfl (zo2 rfl bu.n_range (za1 0)) (fun _ _ _ _ _=>(zc2 (i:=0) (show List.Nodup (["thing", "shares"]:List Str) by decide +kernel) rfl (zb1 rfl))) (fun _=>(zc5 0)) (fun _ _ _ _ _ _=>zf4) (fun _ _ _ _ _ _=>(zaz9 hr.units (za1 1) (za1 0)))))) (fun _=>pms_nil))))))
theorem zah2:FnScope ["many", "sets", "numbers"] ["many", "sets", "numbers"] (zb8 zo1):=zl7 rfl rfl rfl rfl (by decide +kernel)
noncomputable def zs1:DS :=
 (dSeq (dIfS (dNot (dTr (dT1 qU (za2 (ze3 1 [1] (fsL (dVar 2)) (za6 0) zc7 (dChV qE qL (dC (.int 0)) (dVar 0) (dT1 kLen (za2 (dVar 1) dNil)))) dNil)))) (dRet (dC (.bl false))) zf0) (dRet (zbf9 (d2 kEq (dT1 zv7 (za2 (dVar 2) dNil)) (dT1 kLen (za2 (dVar 2) dNil))) (d1 zao4 (dT1 (zc3 zc4) (za2 (dVar 0) (za2 (dVar 1) (za2 (dVar 2) dNil))))))))
def zm0:List D→Option Ev:=mkG 3 ["many", "sets", "numbers"] zs1
theorem zai0 (Fn:L2.Fun K "is_choice" "is_choice" zo1 ad fd) (bu:Blt mg) (c_lacking_things:Cal P w K mg base "lacking_things" 1 zc4):FnOk P w K mg base CX0 2 ad fd ["many", "sets", "numbers"] (spD K zm0):=by
 have SC:=zah2
 refine zg9 (k:=1) Fn SC (fun _ _ e=>ze8 e) zs1 (fun _ _ e=>zg8 e) (fun cdv A outer s H E F hr=>?_)
 refine za5 ?_ ?_
 ·exact (ze5 (zk4 (zg3 (zc0 (cd_bls (zac4 rfl)) rfl bu.n_all (by decide +kernel) (za0 (zf5 1 [1] ["number", "sets"] rfl (zh4 (za1 2)) (fun _ _ _ _ _=>(zc2 (i:=0) (show List.Nodup (["number", "sets"]:List Str) by decide +kernel) rfl (zb1 rfl))) (fun _=>(zc5 0)) (fun _ _ _ _ _ _=>zf4) (fun _ _ _ _ _ _=>(zba1 od_le zan9 za3 (za1 0) (zc0 zi6 rfl bu.n_len PySem.boot_len (za0 (za1 1) za4))))) za4)))) (zb2 (zc8 zg6)) zd3)
 exact zb2 (zc8 (ped_and (zr6 (zp7 hr.units) (zau8 rfl rfl bu.n_len rfl bu.n_set (za1 2)) (zc0 zi6 rfl bu.n_len PySem.boot_len (za0 (za1 2) za4))) (ped_one (ped_notT (zb0 c_lacking_things (hr.mono (by decide)) (za0 (za1 0) (za0 (za1 1) (za0 (za1 2) za4))))))))
theorem zab6:FnScope ["sets", "tops", "bottom", "things", "most"] ["sets", "tops", "bottom"] (zb8 zl2):=zl7 rfl rfl rfl rfl (by decide +kernel)
noncomputable def bdPy:DS:=(dSeq (dAsg 4 (dT1 (zc3 zn6) (za2 (dT1 kLen (za2 (dVar 3) dNil)) dNil)))
  (dIfS (dBo (d2 qG (d2 qM (dT1 kSum (za2 (ze3 1 [1] (fsL (dVar 3)) (za6 0) zc7 (d2 kIx (dVar 1) (dVar 0))) dNil)) (d2 kIx (dVar 4) (dC (.int 1)))) (d2 qM (d2 kIx (dVar 4) (dC (.int 0))) (dVar 2)))) (dRet (dC (.bl false))) zf0))
def zo9:DS :=
 (dSeq (dFor (za6 3) (dVar 0) bdPy) (dRet (dC (.bl true))))
def zj5:List D→Option Ev:=mkG 3 ["sets", "tops", "bottom", "things", "most"] zo9
theorem zab9 (Fn:L2.Fun K "are_payable" "are_payable" zl2 ad fd) (bu:Blt mg) (c_harmonic:Cal P w K mg base "harmonic" 3 zn6):FnOk P w K mg base CX0 4 ad fd ["sets", "tops", "bottom"] (spD K zj5):=by
 have SC:=zab6
 refine zg9 (k:=3) Fn SC (fun _ _ e=>ze8 e) zo9 (fun _ _ e=>zg8 e) (fun cdv A outer s H E F hr=>?_)
 refine za5 ?_ ?_
 ·exact (zv2 PassesOwn.never rfl (za1 0) (zc2 (i:=3) SC.nd rfl (zb1 rfl)) (zc5 3) (za5 (zb5 (i:=4) SC.nd rfl (zb1 rfl) (zb0 c_harmonic (hr.mono (by decide)) (za0 (zc0 zi6 rfl bu.n_len PySem.boot_len (za0 (za1 3) za4)) za4)))
  (zb2 (ze5 (zd2 zba6 (za7 (od_mul.or ze7) (zc0 (cd_sum rfl) rfl bu.n_sum (by decide +kernel) (za0 (zf5 1 [1] ["thing", "tops"] rfl (zh4 (za1 3)) (fun _ _ _ _ _=>(zc2 (i:=0) (show List.Nodup (["thing", "tops"]:List Str) by decide +kernel) rfl (zb1 rfl))) (fun _=>(zc5 0)) (fun _ _ _ _ _ _=>zf4) (fun _ _ _ _ _ _=>(zd8 (za1 1) (za1 0)))) za4)) (zd8 (za1 4) za3)) (za7 (od_mul.or ze7) (zd8 (za1 4) za3) (za1 2))) (zb2 (zc8 zg6)) zd3))))
 exact zb2 (zc8 zg6)
theorem zab4:FnScope ["many", "sets", "choice", "shares", "tops", "bottom"] ["many", "sets", "choice", "shares"] (zb8 zl0):=zl7 rfl rfl rfl rfl (by decide +kernel)
noncomputable def zo5:DS :=
 (dSeq (dIfS (dOr (dNot (dTr (dT1 (zc3 zm0) (za2 (dVar 0) (za2 (dVar 1) (za2 (dVar 2) dNil)))))) (dBo (d2 kNe (dT1 kLen (za2 (dVar 3) dNil)) (dVar 0)))) (dRet (dC (.bl false))) zf0) (dSeq (zac1 (zr0 2 (ze6 (za6 4) (ze6 (za6 5) zr1))) (dT1 (zc3 zd7) (za2 (dVar 3) dNil))) (dSeq (dIfS (dOr (dTr (dT1 (kBls fun bs=>bs.any id) (za2 (ze3 1 [] (fsL (dVar 4)) (za6 0) zc7 (d2 qL (dVar 0) (dC (.int 0)))) dNil))) (dBo (d2 kNe (dT1 kSum (za2 (dVar 4) dNil)) (d2 qM (dT1 kLen (za2 (dVar 2) dNil)) (dVar 5))))) (dRet (dC (.bl false))) zf0) (dRet (dT1 (zc3 zj5) (za2 (dVar 1) (za2 (dVar 4) (za2 (dVar 5) dNil))))))))
def zb9:List D→Option Ev:=mkG 4 ["many", "sets", "choice", "shares", "tops", "bottom"] zo5
theorem zab7 (Fn:L2.Fun K "lets_choice" "lets_choice" zl0 ad fd) (bu:Blt mg) (c_is_choice:Cal P w K mg base "is_choice" 2 zm0) (c_over_one_bottom:Cal P w K mg base "over_one_bottom" 2 zd7) (c_are_payable:Cal P w K mg base "are_payable" 4 zj5):FnOk P w K mg base CX0 5 ad fd ["many", "sets", "choice", "shares"] (spD K zb9):=by
 have SC:=zab4
 refine zg9 (k:=4) Fn SC (fun _ _ e=>ze8 e) zo5 (fun _ _ e=>zg8 e) (fun cdv A outer s H E F hr=>?_)
 refine za5 ?_ ?_
 ·exact (ze5 (L2.PW.pt (zt2 (zk4 (zg3 (zb0 c_is_choice (hr.mono (by decide)) (za0 (za1 0) (za0 (za1 1) (za0 (za1 2) za4)))))) (zp4 (zd2 (zan8 hr.units) (zc0 zi6 rfl bu.n_len PySem.boot_len (za0 (za1 3) za4)) (za1 0))))) (zb2 (zc8 zg6)) zd3)
 refine za5 ?_ ?_
 ·exact (zam8 (zb0 c_over_one_bottom (hr.mono (by decide)) (za0 (za1 3) za4)) (zar6 rfl (zk1 (zc2 (i:=4) SC.nd rfl (zb1 rfl)) (zk1 (zc2 (i:=5) SC.nd rfl (zb1 rfl)) zz4))) (zax7 (zm1 (zc5 4) (zm1 (zc5 5) zad4))))
 refine za5 ?_ ?_
 ·exact (ze5 (L2.PW.pt (zt2 (zg3 (zc0 (cd_bls (zac3 rfl)) rfl bu.n_any (by decide +kernel) (za0 (zf5 1 [] ["top"] rfl (zh4 (za1 4)) (fun _ _ _ _ _=>(zc2 (i:=0) (show List.Nodup (["top"]:List Str) by decide +kernel) rfl (zb1 rfl))) (fun _=>(zc5 0)) (fun _ _ _ _ _ _=>zf4) (fun _ _ _ _ _ _=>(zr6 zan9 (za1 0) za3))) za4))) (zp4 (zd2 (zan8 hr.units) (zc0 (cd_sum rfl) rfl bu.n_sum (by decide +kernel) (za0 (za1 4) za4)) (za7 (od_mul.or ze7) (zc0 zi6 rfl bu.n_len PySem.boot_len (za0 (za1 2) za4)) (za1 5)))))) (zb2 (zc8 zg6)) zd3)
 exact zb2 (zc8 (zb0 c_are_payable (hr.mono (by decide)) (za0 (za1 1) (za0 (za1 4) (za0 (za1 5) za4)))))
theorem zam1:FnScope ["_law_script", "_law_k", "_law_number"] ["_law_script", "_law_k"] (zb8 zq5):=zl7 rfl rfl rfl rfl (by decide +kernel)
noncomputable def zi5:DS :=
 (dSeq (dIfS (dBo (d2 qL (dVar 1) (dT1 kLen (za2 (dVar 0) dNil)))) (dRet (d2 kIx (dVar 0) (dVar 1))) zf0) (dSeq (dAsg 2 (d2 qA (d2 qM (dVar 1) (dVar 1)) (dC (.int 7919)))) (dSeq (dIfS (dBo (d2 qG (dT1 kLen (za2 (dVar 0) dNil)) (dC (.int 0)))) (dAsg 2 (d2 qA (dVar 2) (d2 qR (d2 kIx (dVar 0) (d2 qR (d2 qM (dVar 1) (dC (.int 7))) (dT1 kLen (za2 (dVar 0) dNil)))) (dC (.int 2147483629))))) zf0) (dRet (d2 qR (d2 qM (dVar 2) (dVar 2)) (dC (.int 2147483629)))))))
def zf3:List D→Option Ev:=mkG 2 ["_law_script", "_law_k", "_law_number"] zi5
theorem zan4 (Fn:L2.Fun K "_law_cell" "_law_cell" zq5 ad fd) (bu:Blt mg) :FnOk P w K mg base CX0 1 ad fd ["_law_script", "_law_k"] (spD K zf3):=by
 have SC:=zam1
 refine zg9 (k:=0) Fn SC (fun _ _ e=>ze8 e) zi5 (fun _ _ e=>zg8 e) (fun cdv A outer s H E F hr=>?_)
 refine za5 ?_ ?_
 ·exact (ze5 (zd2 zan9 (za1 1) (zc0 zi6 rfl bu.n_len PySem.boot_len (za0 (za1 0) za4))) (zb2 (zc8 (zd8 (za1 0) (za1 1)))) zd3)
 refine za5 ?_ ?_
 ·exact (zb5 (i:=2) SC.nd rfl (zb1 rfl) (za7 (od_add.or ze2) (za7 (od_mul.or ze7) (za1 1) (za1 1)) za3))
 refine za5 ?_ ?_
 ·exact (ze5 (zd2 zba6 (zc0 zi6 rfl bu.n_len PySem.boot_len (za0 (za1 0) za4)) za3) (zb2 (zb5 (i:=2) SC.nd rfl (zb1 rfl) (za7 (od_add.or ze2) (za1 2) (za7 zd9 (zd8 (za1 0) (za7 zd9 (za7 (od_mul.or ze7) (za1 1) za3) (zc0 zi6 rfl bu.n_len PySem.boot_len (za0 (za1 0) za4)))) za3)))) zd3)
 exact zb2 (zc8 (za7 zd9 (za7 (od_mul.or ze7) (za1 2) (za1 2)) za3))
theorem zah1:FnScope ["_law_cell_here", "_law_k", "_law_number"] ["_law_cell_here", "_law_k"] (zb8 zo0):=zl7 rfl rfl rfl rfl (by decide +kernel)
noncomputable def zo7:DS :=
 (dSeq (dAsg 2 (d2 qR (d2 qM (d2 qA (d2 qA (d2 qA (d2 qR (dVar 0) (dC (.int 2147483629))) (d2 qM (d2 qM (dVar 1) (dVar 1)) (dC (.int 7919)))) (dVar 1)) (dC (.int 1))) (dC (.int 48271))) (dC (.int 2147483587)))) (dSeq (dAsg 2 (d2 qR (d2 qM (dVar 2) (dVar 2)) (dC (.int 2147483629)))) (dRet (d2 qR (d2 qM (d2 qA (dVar 2) (dVar 1)) (dC (.int 69621))) (dC (.int 2147483563))))))
def zd1:List D→Option Ev:=mkG 2 ["_law_cell_here", "_law_k", "_law_number"] zo7
theorem zah9 (Fn:L2.Fun K "_law_mixed" "_law_mixed" zo0 ad fd) (bu:Blt mg) :FnOk P w K mg base CX0 1 ad fd ["_law_cell_here", "_law_k"] (spD K zd1):=by
 have SC:=zah1
 refine zg9 (k:=0) Fn SC (fun _ _ e=>ze8 e) zo7 (fun _ _ e=>zg8 e) (fun cdv A outer s H E F hr=>?_)
 refine za5 ?_ ?_
 ·exact (zb5 (i:=2) SC.nd rfl (zb1 rfl) (za7 zd9 (za7 (od_mul.or ze7) (za7 (od_add.or ze2) (za7 (od_add.or ze2) (za7 (od_add.or ze2) (za7 zd9 (za1 0) za3) (za7 (od_mul.or ze7) (za7 (od_mul.or ze7) (za1 1) (za1 1)) za3)) (za1 1)) za3) za3) za3))
 refine za5 ?_ ?_
 ·exact (zb5 (i:=2) SC.nd rfl (zb1 rfl) (za7 zd9 (za7 (od_mul.or ze7) (za1 2) (za1 2)) za3))
 exact zb2 (zc8 (za7 zd9 (za7 (od_mul.or ze7) (za7 (od_add.or ze2) (za1 2) (za1 1)) za3) za3))
theorem zau2:FnScope ["_law_cell_here", "_law_many", "_law_bounds", "_law_plain", "_law_found", "_law_k", "_law_bound"] ["_law_cell_here", "_law_many", "_law_bounds", "_law_plain"] (zb8 zs8):=zl7 rfl rfl rfl rfl (by decide +kernel)
noncomputable def bdRw:DS:=(dSeq (dAsg 6 (d2 kIx (dVar 2) (d2 qR (dVar 5) (dT1 kLen (za2 (dVar 2) dNil)))))
  (dIfS (dTr (dVar 3)) (dSeq (dApp 4 (d2 qR (dVar 0) (dVar 6)))
  (dAsg 0 (d2 qV (dVar 0) (dVar 6)))) (dApp 4 (d2 qR (dT1 (zc3 zd1) (za2 (dVar 0) (za2 (dVar 5) dNil))) (dVar 6)))))
def zaa3:DS :=
 (dSeq (dAsg 4 (dT1 kLst dNil)) (dSeq (zac0 (za6 5) (dVar 1) bdRw) (zbf5 4)))
noncomputable def zq2:List D→Option Ev:=mkG 4 ["_law_cell_here", "_law_many", "_law_bounds", "_law_plain", "_law_found", "_law_k", "_law_bound"] zaa3
theorem zav3 (Fn:L2.Fun K "_law_row" "_law_row" zs8 ad fd) (bu:Blt mg) (c_law_mixed:Cal P w K mg base "_law_mixed" 1 zd1):FnOk P w K mg base CX0 2 ad fd ["_law_cell_here", "_law_many", "_law_bounds", "_law_plain"] (spD K zq2):=by
 have SC:=zau2
 refine zg9 (k:=1) Fn SC (fun _ _ e=>ze8 e) zaa3 (fun _ _ e=>zg8 e) (fun cdv A outer s H E F hr=>?_)
 refine za5 ?_ ?_
 ·exact (zb5 (i:=4) SC.nd rfl (zb1 rfl) (zc6 za4))
 refine za5 ?_ ?_
 ·exact (zae0 PassesOwn.never rfl rfl bu.n_range (za1 1) (zc2 (i:=5) SC.nd rfl (zb1 rfl)) (zc5 5) (za5 (zb5 (i:=6) SC.nd rfl (zb1 rfl) (zd8 (za1 2) (za7 zd9 (za1 5) (zc0 zi6 rfl bu.n_len PySem.boot_len (za0 (za1 2) za4)))))
  (zb2 (ze5 (zg3 (za1 3)) (za5 (zz2 4 (za7 zd9 (za1 0) (za1 6)))
  (zb2 (zb5 (i:=0) SC.nd rfl (zb1 rfl) (za7 zj3 (za1 0) (za1 6))))) (zb2 (zz2 4 (za7 zd9 (zb0 c_law_mixed (hr.mono (by decide)) (za0 (za1 0) (za0 (za1 5) za4))) (za1 6))))))))
 exact zb2 (zae1 4)
theorem zal9:FnScope ["_law_script", "_law_start", "_law_many", "_law_count", "_law_plain", "_law_sets_here", "_law_k", "_law_cell_here", "_law_bits"] ["_law_script", "_law_start", "_law_many", "_law_count"] (zb8 zq3):=zl7 rfl rfl rfl rfl (by decide +kernel)
noncomputable def feBt:DE:=(d2 qM (dVar 1) (dT1 zbd2 (za2 (d2 kEq (d2 qR (dT1 (zc3 zd1) (za2 (dVar 2) (za2 (d2 qA (dC (.int 91)) (dVar 0)) dNil))) (dC (.int 3))) (dC (.int 0))) dNil)))
noncomputable def bdSt:DS:=(dSeq (dAsg 7 (dT1 (zc3 zf3) (za2 (dVar 0) (za2 (d2 qA (d2 qA (dVar 1) (dC (.int 1))) (dVar 6)) dNil))))
  (dSeq (dAsg 8 (dT1 (zc3 zq2) (za2 (dVar 7) (za2 (dVar 2) (za2 (dT1 kLst (za2 (dC (.int 2)) dNil)) (za2 (dVar 4) dNil))))))
  (dSeq (dIfS (dAnd (dNot (dTr (dVar 4))) (dBo (d2 kEq (d2 qR (dT1 (zc3 zd1) (za2 (dVar 7) (za2 (dC (.int 90)) dNil))) (dC (.int 3))) (dC (.int 0))))) (dAsg 8 (ze3 2 [7] (fsE (dVar 8)) (zr0 2 (ze6 (za6 0) (ze6 (za6 1) zr1))) zc7 feBt)) zf0)
  (dApp 5 (ze3 1 [8] (fsR1 (dVar 2)) (za6 0) (dBo (d2 kEq (d2 kIx (dVar 1) (dVar 0)) (dC (.int 1)))) (dVar 0))))))
noncomputable def zv9:DS :=
 (dSeq (dAsg 4 (d2 kEq (d2 qR (dT1 (zc3 zf3) (za2 (dVar 0) (za2 (dVar 1) dNil))) (dC (.int 2))) (dC (.int 1)))) (dSeq (dAsg 5 (dT1 kLst dNil)) (dSeq (zac0 (za6 6) (dVar 3) bdSt) (zbf5 5))))
noncomputable def zl5:List D→Option Ev:=mkG 4 ["_law_script", "_law_start", "_law_many", "_law_count", "_law_plain", "_law_sets_here", "_law_k", "_law_cell_here", "_law_bits"] zv9
theorem zan2 (Fn:L2.Fun K "_law_sets" "_law_sets" zq3 ad fd) (bu:Blt mg) (c_law_cell:Cal P w K mg base "_law_cell" 1 zf3) (c_law_row:Cal P w K mg base "_law_row" 2 zq2) (c_law_mixed:Cal P w K mg base "_law_mixed" 1 zd1):FnOk P w K mg base CX0 3 ad fd ["_law_script", "_law_start", "_law_many", "_law_count"] (spD K zl5):=by
 have SC:=zal9
 refine zg9 (k:=2) Fn SC (fun _ _ e=>ze8 e) zv9 (fun _ _ e=>zg8 e) (fun cdv A outer s H E F hr=>?_)
 refine za5 ?_ ?_
 ·exact (zb5 (i:=4) SC.nd rfl (zb1 rfl) (zr6 (zp7 hr.units) (za7 zd9 (zb0 c_law_cell (hr.mono (by decide)) (za0 (za1 0) (za0 (za1 1) za4))) za3) za3))
 refine za5 ?_ ?_
 ·exact (zb5 (i:=5) SC.nd rfl (zb1 rfl) (zc6 za4))
 refine za5 ?_ ?_
 ·exact (zae0 PassesOwn.never rfl rfl bu.n_range (za1 3) (zc2 (i:=6) SC.nd rfl (zb1 rfl)) (zc5 6) (za5 (zb5 (i:=7) SC.nd rfl (zb1 rfl) (zb0 c_law_cell (hr.mono (by decide)) (za0 (za1 0) (za0 (za7 (od_add.or ze2) (za7 (od_add.or ze2) (za1 1) za3) (za1 6)) za4))))
  (za5 (zb5 (i:=8) SC.nd rfl (zb1 rfl) (zb0 c_law_row (hr.mono (by decide)) (by refine za0 ?_ ?_ ?_;exact (za1 7);exact (by refine za0 ?_ ?_ ?_;exact (za1 2);exact (by refine za0 ?_ ?_ ?_;exact (zc6 (za0 za3 za4));exact (by refine za0 ?_ ?_ ?_;exact (za1 4);exact za4;exact (za9 rfl));exact (za9 rfl));exact (za9 rfl));exact (za9 rfl))))
  (za5 (ze5 (L2.PW.pt (pwd_and (zk4 (zg3 (za1 4))) (pwd_and1 (zd2 (zp7 hr.units) (za7 zd9 (zb0 c_law_mixed (hr.mono (by decide)) (za0 (za1 7) (za0 za3 za4))) za3) za3)))) (zb2 (zb5 (i:=8) SC.nd rfl (zb1 rfl) (zf5 2 [7] ["_law_thing", "_law_bit", "_law_cell_here"] rfl (pid_enum rfl bu.n_enumerate (za1 8)) (fun _ _ _ _ _=>(zar6 rfl (zk1 (zc2 (i:=0) (show List.Nodup (["_law_thing", "_law_bit", "_law_cell_here"]:List Str) by decide +kernel) rfl (zb1 rfl)) (zk1 (zc2 (i:=1) (show List.Nodup (["_law_thing", "_law_bit", "_law_cell_here"]:List Str) by decide +kernel) rfl (zb1 rfl)) zz4)))) (fun _=>(zax7 (zm1 (zc5 0) (zm1 (zc5 1) zad4)))) (fun _ _ _ _ _ _=>zf4) (fun _ _ _ _ _ _=>(za7 (od_mul.or ze7) (za1 1) (zp6 zbg8 rfl bu.n_int bt_int (za0 (zr6 (zp7 hr.units) (za7 zd9 (zb0 c_law_mixed (hr.mono (by decide)) (za0 (za1 2) (za0 (za7 (od_add.or ze2) za3 (za1 0)) za4))) za3) za3) za4))))))) zd3)
  (zb2 (zz2 5 (zf5 1 [8] ["_law_thing", "_law_bits"] rfl (zo2 rfl bu.n_range (za1 2)) (fun _ _ _ _ _=>(zc2 (i:=0) (show List.Nodup (["_law_thing", "_law_bits"]:List Str) by decide +kernel) rfl (zb1 rfl))) (fun _=>(zc5 0)) (fun _ _ _ _ _ _=>(zt3 (zd2 (zp7 hr.units) (zd8 (za1 1) (za1 0)) za3))) (fun _ _ _ _ _ _=>(za1 0)))))))))
 exact zb2 (zae1 5)
theorem zau3:FnScope ["_law_top", "_law_bottom", "_law_one", "_law_other"] ["_law_top", "_law_bottom"] (zb8 zs9):=zl7 rfl rfl rfl rfl (by decide +kernel)
def bdLw:DS:=(dPar 2 3 (za2 (dVar 3) (za2 (d2 qR (dVar 2) (dVar 3)) dNil)))
def cdLw:DT:=(dBo (d2 qG (dVar 3) (dC (.int 0))))
noncomputable def zaa4:DS :=
 (dSeq (dAsg 2 (dT1 kAbs (za2 (dVar 0) dNil))) (dSeq (dAsg 3 (dVar 1)) (dSeq (zw5 (zao7 3) cdLw bdLw) (dRet (dT1 kTup (za2 (d2 qV (dVar 0) (dVar 2)) (za2 (d2 qV (dVar 1) (dVar 2)) dNil)))))))
def zf6:List D→Option Ev:=mkG 2 ["_law_top", "_law_bottom", "_law_one", "_law_other"] zaa4
theorem zav4 (Fn:L2.Fun K "_law_low" "_law_low" zs9 ad fd) (bu:Blt mg) :FnOk P w K mg base CX0 1 ad fd ["_law_top", "_law_bottom"] (spD K zf6):=by
 have SC:=zau3
 refine zg9 (k:=0) Fn SC (fun _ _ e=>ze8 e) zaa4 (fun _ _ e=>zg8 e) (fun cdv A outer s H E F hr=>?_)
 refine za5 ?_ ?_
 ·exact (zb5 (i:=2) SC.nd rfl (zb1 rfl) (zc0 cd_abs rfl bu.n_abs bt_abs (za0 (za1 0) za4)))
 refine za5 ?_ ?_
 ·exact (zb5 (i:=3) SC.nd rfl (zb1 rfl) (za1 1))
 refine za5 ?_ ?_
 ·exact (zz0 (zao7 3) PassesOwn.never (zd2 zba6 (za1 3) za3) (zb2 (zam7 (i:=2) (j:=3) rfl SC.nd rfl rfl (by decide) rfl rfl (za0 (za1 3) (za0 (za7 zd9 (za1 2) (za1 3)) za4)) rfl)))
 exact zb2 (zc8 (ze1 (za0 (za7 zj3 (za1 0) (za1 2)) (za0 (za7 zj3 (za1 1) (za1 2)) za4))))
theorem zau5:FnScope ["_law_one", "_law_other"] ["_law_one", "_law_other"] (zb8 zt1):=zl7 rfl rfl rfl rfl (by decide +kernel)
noncomputable def zaa6:DS :=
 (dRet (dT1 (zc3 zf6) (za2 (d2 qA (d2 qM (d2 kIx (dVar 0) (dC (.int 0))) (d2 kIx (dVar 1) (dC (.int 1)))) (d2 qM (d2 kIx (dVar 1) (dC (.int 0))) (d2 kIx (dVar 0) (dC (.int 1))))) (za2 (d2 qM (d2 kIx (dVar 0) (dC (.int 1))) (d2 kIx (dVar 1) (dC (.int 1)))) dNil))))
def zh2:List D→Option Ev:=mkG 2 ["_law_one", "_law_other"] zaa6
theorem zav6 (Fn:L2.Fun K "_law_add" "_law_add" zt1 ad fd) (bu:Blt mg) (c_law_low:Cal P w K mg base "_law_low" 1 zf6):FnOk P w K mg base CX0 2 ad fd ["_law_one", "_law_other"] (spD K zh2):=by
 have SC:=zau5
 refine zg9 (k:=1) Fn SC (fun _ _ e=>ze8 e) zaa6 (fun _ _ e=>zg8 e) (fun cdv A outer s H E F hr=>?_)
 exact zb2 (zc8 (zb0 c_law_low (hr.mono (by decide)) (za0 (za7 (od_add.or ze2) (za7 (od_mul.or ze7) (zd8 (za1 0) za3) (zd8 (za1 1) za3)) (za7 (od_mul.or ze7) (zd8 (za1 1) za3) (zd8 (za1 0) za3))) (za0 (za7 (od_mul.or ze7) (zd8 (za1 0) za3) (zd8 (za1 1) za3)) za4))))
theorem zau1:FnScope ["_law_some", "_law_found", "_law_one"] ["_law_some"] (zb8 zs7):=zl7 rfl rfl rfl rfl (by decide +kernel)
def bdSq:DS:=(dAsg 1 (dT1 (zc3 zh2) (za2 (dVar 1) (za2 (dVar 2) dNil))))
noncomputable def zaa2:DS :=
 (dSeq (dAsg 1 (dT1 kTup (za2 (dC (.int 0)) (za2 (dC (.int 1)) dNil)))) (dSeq (dFor (za6 2) (dVar 0) bdSq) (zbf5 1)))
def zh0:List D→Option Ev:=mkG 1 ["_law_some", "_law_found", "_law_one"] zaa2
theorem zav2 (Fn:L2.Fun K "_law_sum" "_law_sum" zs7 ad fd) (bu:Blt mg) (c_law_add:Cal P w K mg base "_law_add" 2 zh2):FnOk P w K mg base CX0 3 ad fd ["_law_some"] (spD K zh0):=by
 have SC:=zau1
 refine zg9 (k:=2) Fn SC (fun _ _ e=>ze8 e) zaa2 (fun _ _ e=>zg8 e) (fun cdv A outer s H E F hr=>?_)
 refine za5 ?_ ?_
 ·exact (zb5 (i:=1) SC.nd rfl (zb1 rfl) (ze1 (za0 za3 (za0 za3 za4))))
 refine za5 ?_ ?_
 ·exact (zv2 PassesOwn.never rfl (za1 0) (zc2 (i:=2) SC.nd rfl (zb1 rfl)) (zc5 2) (zb2 (zb5 (i:=1) SC.nd rfl (zb1 rfl) (zb0 c_law_add (hr.mono (by decide)) (za0 (za1 1) (za0 (za1 2) za4))))))
 exact zb2 (zae1 1)
theorem zy8:FnScope ["_law_many"] ["_law_many"] (zb8 zk0):=zl7 rfl rfl rfl rfl (by decide +kernel)
noncomputable def zm3:DS :=
 (dRet (dT1 (zc3 zh0) (za2 (ze3 1 [] (fsR2 (dC (.int 1)) (d2 qA (dVar 0) (dC (.int 1)))) (za6 0) zc7 (dT1 kTup (za2 (dC (.int 1)) (za2 (dVar 0) dNil)))) dNil)))
def zi1:List D→Option Ev:=mkG 1 ["_law_many"] zm3
theorem zz8 (Fn:L2.Fun K "_law_harmonic" "_law_harmonic" zk0 ad fd) (bu:Blt mg) (c_law_sum:Cal P w K mg base "_law_sum" 3 zh0):FnOk P w K mg base CX0 4 ad fd ["_law_many"] (spD K zi1):=by
 have SC:=zy8
 refine zg9 (k:=3) Fn SC (fun _ _ e=>ze8 e) zm3 (fun _ _ e=>zg8 e) (fun cdv A outer s H E F hr=>?_)
 exact zb2 (zc8 (zb0 c_law_sum (hr.mono (by decide)) (za0 (zf5 1 [] ["_law_k"] rfl (pid_rng2 rfl bu.n_range za3 (za7 (od_add.or ze2) (za1 0) za3)) (fun _ _ _ _ _=>(zc2 (i:=0) (show List.Nodup (["_law_k"]:List Str) by decide +kernel) rfl (zb1 rfl))) (fun _=>(zc5 0)) (fun _ _ _ _ _ _=>zf4) (fun _ _ _ _ _ _=>(ze1 (za0 za3 (za0 (za1 0) za4))))) za4)))
theorem zau4:FnScope ["_law_number", "_law_many"] ["_law_number", "_law_many"] (zb8 zt0):=zl7 rfl rfl rfl rfl (by decide +kernel)
noncomputable def zaa5:DS :=
 (dRet (d2 kIx (dT1 kLst (za2 (d1 kNeg (dC (.int 1))) (za2 (dVar 1) (za2 (d1 kNeg (dC (.int 2))) (za2 (d2 qS (dC (.int 0)) (dVar 1)) (za2 (d2 qP (dC (.int 10)) (dC (.int 12))) (za2 (d2 qR (d2 qV (dVar 0) (dC (.int 6))) (dVar 1)) dNil))))))) (d2 qR (dVar 0) (dC (.int 6)))))
def zn5:List D→Option Ev:=mkG 2 ["_law_number", "_law_many"] zaa5
theorem zav5 (Fn:L2.Fun K "_law_far" "_law_far" zt0 ad fd) (bu:Blt mg) :FnOk P w K mg base CX0 1 ad fd ["_law_number", "_law_many"] (spD K zn5):=by
 have SC:=zau4
 refine zg9 (k:=0) Fn SC (fun _ _ e=>ze8 e) zaa5 (fun _ _ e=>zg8 e) (fun cdv A outer s H E F hr=>?_)
 exact zb2 (zc8 (zd8 (by refine zc6 ?_;exact (by refine za0 ?_ ?_ ?_;exact (zae4 za3);exact (by refine za0 ?_ ?_ ?_;exact (za1 1);exact (by refine za0 ?_ ?_ ?_;exact (zae4 za3);exact (by refine za0 ?_ ?_ ?_;exact (za7 zai1 za3 (za1 1));exact (by refine za0 ?_ ?_ ?_;exact (za7 zai2 za3 za3);exact (by refine za0 ?_ ?_ ?_;exact (za7 zd9 (za7 zj3 (za1 0) za3) (za1 1));exact za4;exact (za9 rfl));exact (za9 rfl));exact (za9 rfl));exact (za9 rfl));exact (za9 rfl));exact (za9 rfl))) (za7 zd9 (za1 0) za3)))
theorem zah0:FnScope ["_law_many", "_law_sets_here", "_law_cell_here", "_law_choice", "_law_shares", "_law_way", "_law_rest", "_law_at", "_law_more"] ["_law_many", "_law_sets_here", "_law_cell_here"] (zb8 zn9):=zl7 rfl rfl rfl rfl (by decide +kernel)
noncomputable def fx6:DE:=(dT1 (zc3 zf6) (za2 (d2 qA (dC (.int 1)) (d2 qR (d2 qV (dVar 6) (dVar 0)) (dC (.int 3)))) (za2 (d2 qA (dC (.int 2)) (d2 qR (d2 qV (dVar 6) (dC (.int 16))) (dC (.int 5)))) dNil)))
def nx6:DE:=(d2 qR (d2 qA (dVar 7) (dC (.int 1))) (dVar 0))
noncomputable def bk6:DS:=(dIfS (dBo (d2 kEq (dVar 5) (dC (.int 6)))) (dSeq (dAsg 7 (d2 qR (dVar 6) (dVar 0)))
  (dSeq (dAsg 8 fx6)
  (dSeq (zap1 4 (dVar 7) (dT1 (zc3 zh2) (za2 (d2 kIx (dVar 4) (dVar 7)) (za2 (dVar 8) dNil))))
  (zap1 4 nx6 (dT1 (zc3 zh2) (za2 (d2 kIx (dVar 4) nx6) (za2 (dT1 kTup (za2 (d2 qS (dC (.int 0)) (d2 kIx (dVar 8) (dC (.int 0)))) (za2 (d2 kIx (dVar 8) (dC (.int 1))) dNil))) dNil))))))) zf0)
noncomputable def fx5:DE:=(dT1 (zc3 zf6) (za2 (d2 qS (d2 qR (d2 qV (dVar 6) (dVar 0)) (dC (.int 9))) (dC (.int 2))) (za2 (d2 qA (dC (.int 1)) (d2 qR (d2 qV (dVar 6) (dC (.int 16))) (dC (.int 6)))) dNil)))
def bk5:DS:=(dIfS (dBo (d2 kEq (dVar 5) (dC (.int 5)))) (dSeq (dAsg 7 (d2 qR (dVar 6) (dVar 0)))
  (zap1 4 (dVar 7) fx5)) zf0)
noncomputable def bk7:DS:=(dIfS (dBo (d2 kEq (dVar 5) (dC (.int 7)))) (dAsg 4 (d2 qA (dSlU (d2 qR (dVar 6) (d2 qA (dVar 0) (dC (.int 1)))) (dVar 4)) (d2 qM (dT1 kLst (za2 (dT1 kTup (za2 (dC (.int 0)) (za2 (dC (.int 1)) dNil))) dNil)) (d2 qR (d2 qV (dVar 6) (dC (.int 64))) (dC (.int 3)))))) zf0)
noncomputable def bk4:DS:=(dIfS (dBo (d2 kEq (dVar 5) (dC (.int 4)))) (dAsg 3 (d2 qA (dVar 3) (d2 qM (dT1 kLst (za2 (dT1 (zc3 zn5) (za2 (dVar 6) (za2 (dT1 kLen (za2 (dVar 1) dNil)) dNil))) dNil)) (d2 qA (dC (.int 1)) (d2 qR (d2 qV (dVar 6) (dC (.int 64))) (dC (.int 2))))))) zf0)
noncomputable def bk2:DS:=(dIfS (dOr (dBo (d2 kEq (dVar 5) (dC (.int 2)))) (dBo (d2 kEq (dVar 5) (dC (.int 3))))) (dAsg 3 (ze3 1 [6] (fsR1 (dT1 kLen (za2 (dVar 1) dNil))) (za6 0) (dBo (d2 kEq (d2 (kI tt2 fun i j=>.int (Builtin.bitAnd i j)) (d2 (kI cShr fun i j=>.int (i / 2 ^ j.toNat)) (dVar 1) (dVar 0)) (dC (.int 1))) (dC (.int 1)))) (dVar 0))) zf0)
noncomputable def bk3:DS:=(dIfS (dBo (d2 kEq (dVar 5) (dC (.int 3)))) (dAsg 4 (d2 qM (dT1 kLst (za2 (dT1 (zc3 zf6) (za2 (dT1 kLen (za2 (dVar 3) dNil)) (za2 (dVar 0) dNil))) dNil)) (dVar 0))) zf0)
def bk1:DS:=(dIfS (dBo (d2 kEq (dVar 5) (dC (.int 1)))) (dAsg 3 (dT1 zy2 (za2 (dVar 3) dNil))) zf0)
noncomputable def zo6:DS :=
 (dSeq (zbf8 (zr0 2 (ze6 (zad2 3) (ze6 (zad2 4) zr1))) (dT1 (zc3 zf7) (za2 (dVar 0) (za2 (dVar 1) dNil)))) (dSeq (dThw 4 (dThw 3 (dAsg 5 (d2 qR (dVar 2) (dC (.int 8)))))) (dSeq (dAsg 6 (d2 qV (dVar 2) (dC (.int 8)))) (dSeq bk1 (dSeq bk2 (dSeq bk3 (dSeq bk4 (dSeq bk5 (dSeq bk6 (dSeq bk7 (dFrz 4 (dFrz 3 (dRet (dT1 kLst (za2 (dVar 3) (za2 (dVar 4) dNil))))))))))))))))
noncomputable def zi4:List D→Option Ev:=mkG 3 ["_law_many", "_law_sets_here", "_law_cell_here", "_law_choice", "_law_shares", "_law_way", "_law_rest", "_law_at", "_law_more"] zo6
theorem zah8 (Fn:L2.Fun K "_law_paper" "_law_paper" zn9 ad fd) (bu:Blt mg) (c_choose_by_new:Cal P w K mg base "choose_by_new" 2 zf7) (c_law_low:Cal P w K mg base "_law_low" 1 zf6) (c_law_far:Cal P w K mg base "_law_far" 1 zn5) (c_law_add:Cal P w K mg base "_law_add" 2 zh2):FnOk P w K mg base CX0 3 ad fd ["_law_many", "_law_sets_here", "_law_cell_here"] (spD K zi4):=by
 have SC:=zah0
 refine zg9 (k:=2) Fn SC (fun _ _ e=>ze8 e) zo6 (fun _ _ e=>zg8 e) (fun cdv A outer s H E F hr=>?_)
 refine za5 ?_ ?_
 ·exact (psd_asgN (zb0 c_choose_by_new (hr.mono (by decide)) (za0 (za1 0) (za0 (za1 1) za4))) (zar6 rfl (zk1 (zc2 (i:=3) SC.nd rfl (zb1 rfl)) (zk1 (zc2 (i:=4) SC.nd rfl (zb1 rfl)) zz4))) (tn_tup (zaq2 (zax6 3) (zaq2 (zax6 4) tns_nil))))
 refine za5 ?_ ?_
 ·exact (zaz0 4 (zaz0 3 (zb5 (i:=5) SC.nd rfl (zb1 rfl) (za7 zd9 (za1 2) za3))))
 refine za5 ?_ ?_
 ·exact (zb5 (i:=6) SC.nd rfl (zb1 rfl) (za7 zj3 (za1 2) za3))
 refine za5 ?_ ?_
 ·exact (ze5 (zd2 (zp7 hr.units) (za1 5) za3) (zb2 (zb5 (i:=3) SC.nd rfl (zb1 rfl) (zam9 rfl rfl bu.n_list rfl bu.n_reversed (za1 3)))) zd3)
 refine za5 ?_ ?_
 ·exact (ze5 (L2.PW.pt (zt2 (zd2 (zp7 hr.units) (za1 5) za3) (zp4 (zd2 (zp7 hr.units) (za1 5) za3)))) (zb2 (zy0 (i:=3) 1 [6] ["_law_number", "_law_rest"] SC.nd rfl (Or.inl rfl) rfl (zo2 rfl bu.n_range (zc0 zi6 rfl bu.n_len PySem.boot_len (za0 (za1 1) za4))) (fun _ _ _ _ _=>(zc2 (i:=0) (show List.Nodup (["_law_number", "_law_rest"]:List Str) by decide +kernel) rfl (zb1 rfl))) (fun _=>(zc5 0)) (fun _ _ _ _ _ _=>(zt3 (zd2 (zp7 hr.units) (za7 od_and (za7 od_shr (za1 1) (za1 0)) za3) za3))) (fun _ _ _ _ _ _=>(za1 0)))) zd3)
 refine za5 ?_ ?_
 ·exact (ze5 (zd2 (zp7 hr.units) (za1 5) za3) (zb2 (zb5 (i:=4) SC.nd rfl (zb1 rfl) (za7 (od_mul.or ze7) (zc6 (za0 (zb0 c_law_low (hr.mono (by decide)) (za0 (zc0 zi6 rfl bu.n_len PySem.boot_len (za0 (za1 3) za4)) (za0 (za1 0) za4))) za4)) (za1 0)))) zd3)
 refine za5 ?_ ?_
 ·exact (ze5 (zd2 (zp7 hr.units) (za1 5) za3) (zb2 (zb5 (i:=3) SC.nd rfl (zb1 rfl) (za7 (od_add.or ze2) (za1 3) (za7 (od_mul.or ze7) (zc6 (za0 (zb0 c_law_far (hr.mono (by decide)) (za0 (za1 6) (za0 (zc0 zi6 rfl bu.n_len PySem.boot_len (za0 (za1 1) za4)) za4))) za4)) (za7 (od_add.or ze2) za3 (za7 zd9 (za7 zj3 (za1 6) za3) za3)))))) zd3)
 refine za5 ?_ ?_
 ·exact (ze5 (zd2 (zp7 hr.units) (za1 5) za3) (za5 (zb5 (i:=7) SC.nd rfl (zb1 rfl) (za7 zd9 (za1 6) (za1 0)))
  (zb2 (zad9 4 (za1 7) (zb0 c_law_low (hr.mono (by decide)) (za0 (za7 zai1 (za7 zd9 (za7 zj3 (za1 6) (za1 0)) za3) za3) (za0 (za7 (od_add.or ze2) za3 (za7 zd9 (za7 zj3 (za1 6) za3) za3)) za4)))))) zd3)
 refine za5 ?_ ?_
 ·exact (ze5 (zd2 (zp7 hr.units) (za1 5) za3) (za5 (zb5 (i:=7) SC.nd rfl (zb1 rfl) (za7 zd9 (za1 6) (za1 0)))
  (za5 (zb5 (i:=8) SC.nd rfl (zb1 rfl) (zb0 c_law_low (hr.mono (by decide)) (za0 (za7 (od_add.or ze2) za3 (za7 zd9 (za7 zj3 (za1 6) (za1 0)) za3)) (za0 (za7 (od_add.or ze2) za3 (za7 zd9 (za7 zj3 (za1 6) za3) za3)) za4))))
  (za5 (zad9 4 (za1 7) (zb0 c_law_add (hr.mono (by decide)) (za0 (zd8 (za1 4) (za1 7)) (za0 (za1 8) za4))))
  (zb2 (zad9 4 (za7 zd9 (za7 (od_add.or ze2) (za1 7) za3) (za1 0)) (zb0 c_law_add (hr.mono (by decide)) (za0 (zd8 (za1 4) (za7 zd9 (za7 (od_add.or ze2) (za1 7) za3) (za1 0))) (za0 (ze1 (za0 (za7 zai1 za3 (zd8 (za1 8) za3)) (za0 (zd8 (za1 8) za3) za4))) za4)))))))) zd3)
 refine za5 ?_ ?_
 ·exact (ze5 (zd2 (zp7 hr.units) (za1 5) za3) (zb2 (zb5 (i:=4) SC.nd rfl (zb1 rfl) (za7 (od_add.or ze2) (zm9 (za1 4) (za7 zd9 (za1 6) (za7 (od_add.or ze2) (za1 0) za3))) (za7 (od_mul.or ze7) (by refine zc6 ?_;exact (by refine za0 ?_ ?_ ?_;exact (ze1 (za0 za3 (za0 za3 za4)));exact za4;exact (za9 rfl))) (za7 zd9 (za7 zj3 (za1 6) za3) za3))))) zd3)
 exact zb2 (zz1 4 (zz1 3 (zc8 (zc6 (za0 (za1 3) (za0 (za1 4) za4))))))
theorem zab5:FnScope ["_law_many", "_law_sets_here", "_law_choice", "_law_had", "_law_k", "_law_thing"] ["_law_many", "_law_sets_here", "_law_choice"] (zb8 zl1):=zl7 rfl rfl rfl rfl (by decide +kernel)
def bdHi:DS:=(zaf5 3 (dVar 5) (dC (.bl true)))
noncomputable def bdHa:DS:=(dSeq (dIfS (dOr (dNot (dCh qE qL (dC (.int 0)) (d2 kIx (dVar 2) (dVar 4)) (dT1 kLen (za2 (dVar 1) dNil)))) (dBo (d2 kIn (d2 kIx (dVar 2) (dVar 4)) (dSlU (dVar 4) (dVar 2))))) (dRet (dC (.bl false))) zf0)
  (dFor (za6 5) (d2 kIx (dVar 1) (d2 kIx (dVar 2) (dVar 4))) bdHi))
noncomputable def zo8:DS :=
 (dSeq (dAsg 3 zap3) (dSeq (zac0 (za6 4) (dT1 kLen (za2 (dVar 2) dNil)) bdHa) (dRet (d2 kEq (dT1 zaw1 (za2 (dVar 3) dNil)) (dVar 0)))))
def zh5:List D→Option Ev:=mkG 3 ["_law_many", "_law_sets_here", "_law_choice", "_law_had", "_law_k", "_law_thing"] zo8
theorem zab8 (Fn:L2.Fun K "_law_has_all" "_law_has_all" zl1 ad fd) (bu:Blt mg) :FnOk P w K mg base CX0 1 ad fd ["_law_many", "_law_sets_here", "_law_choice"] (spD K zh5):=by
 have SC:=zab5
 refine zg9 (k:=0) Fn SC (fun _ _ e=>ze8 e) zo8 (fun _ _ e=>zg8 e) (fun cdv A outer s H E F hr=>?_)
 refine za5 ?_ ?_
 ·exact (zb5 (i:=3) SC.nd rfl (zb1 rfl) zae3)
 refine za5 ?_ ?_
 ·exact (zae0 PassesOwn.never rfl rfl bu.n_range (zc0 zi6 rfl bu.n_len PySem.boot_len (za0 (za1 2) za4)) (zc2 (i:=4) SC.nd rfl (zb1 rfl)) (zc5 4) (za5 (ze5 (L2.PW.pt (zt2 (zk4 (zay7 od_le zan9 za3 (zd8 (za1 2) (za1 4)) (zc0 zi6 rfl bu.n_len PySem.boot_len (za0 (za1 1) za4)))) (zp4 (zd2 od_in (zd8 (za1 2) (za1 4)) (zm9 (za1 2) (za1 4)))))) (zb2 (zc8 zg6)) zd3)
  (zb2 (zv2 PassesOwn.never rfl (zd8 (za1 1) (zd8 (za1 2) (za1 4))) (zc2 (i:=5) SC.nd rfl (zb1 rfl)) (zc5 5) (zb2 (psd_dput 3 hr.units (za1 5) zg6))))))
 exact zb2 (zc8 (zr6 (zp7 hr.units) (zc0 zbg7 rfl bu.n_len PySem.boot_len (za0 (za1 3) za4)) (za1 0)))
theorem zam0:FnScope ["_law_many", "_law_sets_here", "_law_choice", "_law_shares", "_law_some", "_law_told", "_law_most"] ["_law_many", "_law_sets_here", "_law_choice", "_law_shares"] (zb8 zq4):=zl7 rfl rfl rfl rfl (by decide +kernel)
noncomputable def bdLl:DS:=(dSeq (dAsg 5 (dT1 (zc3 zh0) (za2 (ze3 1 [3] (fsL (dVar 4)) (za6 0) zc7 (d2 kIx (dVar 1) (dVar 0))) dNil)))
  (dSeq (dAsg 6 (dT1 (zc3 zi1) (za2 (dT1 kLen (za2 (dVar 4) dNil)) dNil)))
  (dIfS (dBo (d2 qG (d2 qM (d2 kIx (dVar 5) (dC (.int 0))) (d2 kIx (dVar 6) (dC (.int 1)))) (d2 qM (d2 kIx (dVar 6) (dC (.int 0))) (d2 kIx (dVar 5) (dC (.int 1)))))) (dRet (dC (.bl false))) zf0)))
noncomputable def zw0:DS :=
 (dSeq (dIfS (dOr (dNot (dTr (dT1 (zc3 zh5) (za2 (dVar 0) (za2 (dVar 1) (za2 (dVar 2) dNil)))))) (dOr (dBo (d2 kNe (dT1 kLen (za2 (dVar 3) dNil)) (dVar 0))) (dBo (d2 qL (dT1 (zx7 zk9) (za2 (ze3 1 [] (fsL (dVar 3)) (za6 0) zc7 (d2 kIx (dVar 0) (dC (.int 0)))) dNil)) (dC (.int 0)))))) (dRet (dC (.bl false))) zf0) (dSeq (dIfS (dBo (d2 kNe (dT1 (zc3 zh0) (za2 (dVar 3) dNil)) (dT1 kTup (za2 (dT1 kLen (za2 (dVar 2) dNil)) (za2 (dC (.int 1)) dNil))))) (dRet (dC (.bl false))) zf0) (dSeq (dFor (za6 4) (dVar 1) bdLl) (dRet (dC (.bl true))))))
noncomputable def zl6:List D→Option Ev:=mkG 4 ["_law_many", "_law_sets_here", "_law_choice", "_law_shares", "_law_some", "_law_told", "_law_most"] zw0
theorem zan3 (Fn:L2.Fun K "_law_lets" "_law_lets" zq4 ad fd) (bu:Blt mg) (c_law_has_all:Cal P w K mg base "_law_has_all" 1 zh5) (c_law_sum:Cal P w K mg base "_law_sum" 3 zh0) (c_law_harmonic:Cal P w K mg base "_law_harmonic" 4 zi1):FnOk P w K mg base CX0 5 ad fd ["_law_many", "_law_sets_here", "_law_choice", "_law_shares"] (spD K zl6):=by
 have SC:=zam0
 refine zg9 (k:=4) Fn SC (fun _ _ e=>ze8 e) zw0 (fun _ _ e=>zg8 e) (fun cdv A outer s H E F hr=>?_)
 refine za5 ?_ ?_
 ·exact (ze5 (L2.PW.pt (zt2 (zk4 (zg3 (zb0 c_law_has_all (hr.mono (by decide)) (za0 (za1 0) (za0 (za1 1) (za0 (za1 2) za4)))))) (zt2 (zd2 (zan8 hr.units) (zc0 zi6 rfl bu.n_len PySem.boot_len (za0 (za1 3) za4)) (za1 0)) (zp4 (zd2 zan9 (zc0 (cd_minL rfl) rfl bu.n_min (by decide +kernel) (za0 (zf5 1 [] ["_law_share"] rfl (zh4 (za1 3)) (fun _ _ _ _ _=>(zc2 (i:=0) (show List.Nodup (["_law_share"]:List Str) by decide +kernel) rfl (zb1 rfl))) (fun _=>(zc5 0)) (fun _ _ _ _ _ _=>zf4) (fun _ _ _ _ _ _=>(zd8 (za1 0) za3))) za4)) za3))))) (zb2 (zc8 zg6)) zd3)
 refine za5 ?_ ?_
 ·exact (ze5 (zd2 (zan8 hr.units) (zb0 c_law_sum (hr.mono (by decide)) (za0 (za1 3) za4)) (ze1 (za0 (zc0 zi6 rfl bu.n_len PySem.boot_len (za0 (za1 2) za4)) (za0 za3 za4)))) (zb2 (zc8 zg6)) zd3)
 refine za5 ?_ ?_
 ·exact (zv2 PassesOwn.never rfl (za1 1) (zc2 (i:=4) SC.nd rfl (zb1 rfl)) (zc5 4) (za5 (zb5 (i:=5) SC.nd rfl (zb1 rfl) (zb0 c_law_sum (hr.mono (by decide)) (za0 (zf5 1 [3] ["_law_thing", "_law_shares"] rfl (zh4 (za1 4)) (fun _ _ _ _ _=>(zc2 (i:=0) (show List.Nodup (["_law_thing", "_law_shares"]:List Str) by decide +kernel) rfl (zb1 rfl))) (fun _=>(zc5 0)) (fun _ _ _ _ _ _=>zf4) (fun _ _ _ _ _ _=>(zd8 (za1 1) (za1 0)))) za4)))
  (za5 (zb5 (i:=6) SC.nd rfl (zb1 rfl) (zb0 c_law_harmonic (hr.mono (by decide)) (za0 (zc0 zi6 rfl bu.n_len PySem.boot_len (za0 (za1 4) za4)) za4)))
  (zb2 (ze5 (zd2 zba6 (za7 (od_mul.or ze7) (zd8 (za1 5) za3) (zd8 (za1 6) za3)) (za7 (od_mul.or ze7) (zd8 (za1 6) za3) (zd8 (za1 5) za3))) (zb2 (zc8 zg6)) zd3)))))
 exact zb2 (zc8 zg6)
theorem zx0:FnScope ["_law_cell_here", "_law_great", "_law_singles", "_law_four", "_law_shares", "_law_near", "_law_more", "_law_parts"] ["_law_cell_here"] (zb8 zi8):=zl7 rfl rfl rfl rfl (by decide +kernel)
noncomputable def zl9:DS :=
 (dSeq (dAsg 1 (d2 qA (dC (.int 2)) (d2 qR (dT1 (zc3 zd1) (za2 (dVar 0) (za2 (dC (.int 2)) dNil))) (dC (.int 9))))) (dSeq (dAsg 2 (d2 qA (zn4 1 [] (fsR1 (dVar 1)) (za6 0) zc7 (dT1 kLst (za2 (dVar 0) dNil))) (dT1 kLst (za2 (zg4 (za2 (dVar 1) dNil)) dNil)))) (dSeq (dIfS (dTr (dT1 (zc3 zb9) (za2 (dVar 1) (za2 (dVar 2) (za2 (zg4 (za2 (dVar 1) dNil)) (za2 (d2 qM (dT1 kLst (za2 (dT1 kTup (za2 (dC (.int 1)) (za2 (dC (.int 1)) dNil))) dNil)) (dVar 1)) dNil)))))) (dRet (dC (.bl false))) zf0) (dSeq (dIfS (dNot (dTr (dT1 (zc3 zb9) (za2 (dVar 1) (za2 (dVar 2) (za2 (dT1 kLst (za2 (dVar 1) dNil)) (za2 (d2 qM (dT1 kLst (za2 (dT1 kTup (za2 (dC (.int 1)) (za2 (dVar 1) dNil))) dNil)) (dVar 1)) dNil))))))) (dRet (dC (.bl false))) zf0) (dSeq (dAsg 3 (dT1 kLst (za2 (dT1 kLst (za2 (dC (.int 0)) (za2 (dC (.int 1)) dNil))) (za2 (dT1 kLst (za2 (dC (.int 2)) (za2 (dC (.int 3)) dNil))) (za2 (dT1 kLst (za2 (dC (.int 0)) (za2 (dC (.int 1)) (za2 (dC (.int 2)) (za2 (dC (.int 3)) dNil))))) (za2 (dT1 kLst (za2 (dC (.int 0)) (za2 (dC (.int 2)) dNil))) dNil)))))) (dSeq (dAsg 4 (dT1 kLst (za2 (dT1 kTup (za2 (dC (.int 4)) (za2 (dC (.int 5)) dNil))) (za2 (dT1 kTup (za2 (dC (.int 1)) (za2 (dC (.int 5)) dNil))) (za2 (dT1 kTup (za2 (dC (.int 4)) (za2 (dC (.int 5)) dNil))) (za2 (dT1 kTup (za2 (dC (.int 1)) (za2 (dC (.int 5)) dNil))) dNil)))))) (dSeq (dFrz 3 (dIfS (dOr (dTr (dT1 (zc3 zb9) (za2 (dC (.int 4)) (za2 (dVar 3) (za2 (dT1 kLst (za2 (dC (.int 0)) (za2 (dC (.int 1)) dNil))) (za2 (dVar 4) dNil)))))) (dNot (dTr (dT1 (zc3 zb9) (za2 (dC (.int 4)) (za2 (dSlU (dC (.int 3)) (dVar 3)) (za2 (dT1 kLst (za2 (dC (.int 0)) (za2 (dC (.int 1)) dNil))) (za2 (dVar 4) dNil)))))))) (dRet (dC (.bl false))) zf0)) (dSeq (dAsg 5 (dT1 kLst (za2 (dT1 kTup (za2 (d2 qA (d2 qP (dC (.int 10)) (dC (.int 15))) (dC (.int 1))) (za2 (d2 qP (dC (.int 10)) (dC (.int 15))) dNil))) (za2 (dT1 kTup (za2 (d2 qS (d2 qP (dC (.int 10)) (dC (.int 15))) (dC (.int 1))) (za2 (d2 qP (dC (.int 10)) (dC (.int 15))) dNil))) dNil)))) (dSeq (dIfS (dOr (dTr (dT1 (zc3 zb9) (za2 (dC (.int 2)) (za2 (dT1 kLst (za2 (dT1 kLst (za2 (dC (.int 0)) dNil)) (za2 (dT1 kLst (za2 (dC (.int 1)) dNil)) dNil))) (za2 (dT1 kLst (za2 (dC (.int 0)) (za2 (dC (.int 1)) dNil))) (za2 (dVar 5) dNil)))))) (dNot (dTr (dT1 (zc3 zb9) (za2 (dC (.int 2)) (za2 (dT1 kLst (za2 (dT1 kLst (za2 (dC (.int 0)) dNil)) (za2 (dT1 kLst (za2 (dC (.int 1)) dNil)) dNil))) (za2 (dT1 kLst (za2 (dC (.int 0)) (za2 (dC (.int 1)) dNil))) (za2 (dT1 kLst (za2 (dT1 kTup (za2 (dC (.int 1)) (za2 (dC (.int 1)) dNil))) (za2 (dT1 kTup (za2 (dC (.int 1)) (za2 (dC (.int 1)) dNil))) dNil))) dNil)))))))) (dRet (dC (.bl false))) zf0) (dSeq (dAsg 6 (d2 qA (dC (.int 100)) (d2 qR (dT1 (zc3 zd1) (za2 (dVar 0) (za2 (dC (.int 3)) dNil))) (dC (.int 808))))) (dSeq (dIfS (dBo (d2 qG (dVar 6) (dC (.int 200)))) (dRet (dC (.bl true))) zf0) (dSeq (dAsg 7 (ze3 1 [] (fsR1 (dC (.int 6))) (za6 0) zc7 (zg4 (za2 (d2 qM (dC (.int 20)) (dVar 0)) (za2 (d2 qA (d2 qM (dC (.int 20)) (dVar 0)) (dC (.int 20))) dNil))))) (dSeq (dIfS (dNot (dTr (dT1 (zc3 zb9) (za2 (dVar 6) (za2 (dT1 kLst (za2 (zg4 (za2 (dVar 6) dNil)) dNil)) (za2 (dT1 kLst (za2 (dC (.int 0)) dNil)) (za2 (d2 qM (dT1 kLst (za2 (dT1 kTup (za2 (dC (.int 1)) (za2 (dVar 6) dNil))) dNil)) (dVar 6)) dNil))))))) (dRet (dC (.bl false))) zf0) (dSeq (dFrz 7 (dIfS (dNot (dTr (dT1 (zc3 zb9) (za2 (dC (.int 120)) (za2 (d2 qA (dVar 7) (dT1 kLst (za2 (zg4 (za2 (dC (.int 104)) dNil)) dNil))) (za2 (zg4 (za2 (dC (.int 6)) dNil)) (za2 (d2 qM (dT1 kLst (za2 (dT1 kTup (za2 (dC (.int 1)) (za2 (dC (.int 20)) dNil))) dNil)) (dC (.int 120))) dNil))))))) (dRet (dC (.bl false))) zf0)) (dRet (d1 zai6 (dT1 (zc3 zb9) (za2 (dC (.int 120)) (za2 (d2 qA (dVar 7) (dT1 kLst (za2 (zg4 (za2 (dC (.int 105)) dNil)) dNil))) (za2 (zg4 (za2 (dC (.int 6)) dNil)) (za2 (d2 qM (dT1 kLst (za2 (dT1 kTup (za2 (dC (.int 1)) (za2 (dC (.int 20)) dNil))) dNil)) (dC (.int 120))) dNil)))))))))))))))))))))
noncomputable def zh1:List D→Option Ev:=mkG 1 ["_law_cell_here", "_law_great", "_law_singles", "_law_four", "_law_shares", "_law_near", "_law_more", "_law_parts"] zl9
theorem zx3 (Fn:L2.Fun K "_law_made_ones" "_law_made_ones" zi8 ad fd) (bu:Blt mg) (c_law_mixed:Cal P w K mg base "_law_mixed" 1 zd1) (c_lets_choice:Cal P w K mg base "lets_choice" 5 zb9):FnOk P w K mg base CX0 6 ad fd ["_law_cell_here"] (spD K zh1):=by
 have SC:=zx0
 refine zg9 (k:=5) Fn SC (fun _ _ e=>ze8 e) zl9 (fun _ _ e=>zg8 e) (fun cdv A outer s H E F hr=>?_)
 refine za5 ?_ ?_
 ·exact (zb5 (i:=1) SC.nd rfl (zb1 rfl) (za7 (od_add.or ze2) za3 (za7 zd9 (zb0 c_law_mixed (hr.mono (by decide)) (za0 (za1 0) (za0 za3 za4))) za3)))
 refine za5 ?_ ?_
 ·exact (zb5 (i:=2) SC.nd rfl (zb1 rfl) (za7 (od_add.or ze2) (zau9 1 [] ["_law_thing"] rfl (zo2 rfl bu.n_range (za1 1)) (fun _ _ _ _ _=>(zc2 (i:=0) (show List.Nodup (["_law_thing"]:List Str) by decide +kernel) rfl (zb1 rfl))) (fun _=>(zc5 0)) (fun _ _ _ _ _ _=>zf4) (fun _ _ _ _ _ _=>(zc6 (za0 (za1 0) za4)))) (zc6 (za0 (zj1 rfl rfl bu.n_list rfl bu.n_range (za0 (za1 1) za4)) za4))))
 refine za5 ?_ ?_
 ·exact (ze5 (zg3 (zb0 c_lets_choice (hr.mono (by decide)) (by refine za0 ?_ ?_ ?_;exact (za1 1);exact (by refine za0 ?_ ?_ ?_;exact (za1 2);exact (by refine za0 ?_ ?_ ?_;exact (zj1 rfl rfl bu.n_list rfl bu.n_range (za0 (za1 1) za4));exact (by refine za0 ?_ ?_ ?_;exact (za7 (od_mul.or ze7) (by refine zc6 ?_;exact (by refine za0 ?_ ?_ ?_;exact (ze1 (za0 za3 (za0 za3 za4)));exact za4;exact (za9 rfl))) (za1 1));exact za4;exact (za9 rfl));exact (za9 rfl));exact (za9 rfl));exact (za9 rfl)))) (zb2 (zc8 zg6)) zd3)
 refine za5 ?_ ?_
 ·exact (ze5 (zk4 (zg3 (zb0 c_lets_choice (hr.mono (by decide)) (by refine za0 ?_ ?_ ?_;exact (za1 1);exact (by refine za0 ?_ ?_ ?_;exact (za1 2);exact (by refine za0 ?_ ?_ ?_;exact (zc6 (za0 (za1 1) za4));exact (by refine za0 ?_ ?_ ?_;exact (za7 (od_mul.or ze7) (by refine zc6 ?_;exact (za0 (ze1 (za0 za3 (za0 (za1 1) za4))) za4)) (za1 1));exact za4;exact (za9 rfl));exact (za9 rfl));exact (za9 rfl));exact (za9 rfl))))) (zb2 (zc8 zg6)) zd3)
 refine za5 ?_ ?_
 ·exact (by refine @zb5 _ F _ _ _ 3 _ _ ?_ ?_ ?_ ?_ ?_ ?_;exact SC.nd;exact rfl;(first | exact Or.inl rfl | exact Or.inr rfl);exact (by refine zc6 ?_;exact (by refine za0 ?_ ?_ ?_;exact (zc6 (za0 za3 (za0 za3 za4)));exact (by refine za0 ?_ ?_ ?_;exact (zc6 (za0 za3 (za0 za3 za4)));exact (by refine za0 ?_ ?_ ?_;exact (by refine zc6 ?_;exact (by refine za0 ?_ ?_ ?_;exact za3;exact (by refine za0 ?_ ?_ ?_;exact za3;exact (by refine za0 ?_ ?_ ?_;exact za3;exact (by refine za0 ?_ ?_ ?_;exact za3;exact za4;exact (za9 rfl));exact (za9 rfl));exact (za9 rfl));exact (za9 rfl)));exact (by refine za0 ?_ ?_ ?_;exact (zc6 (za0 za3 (za0 za3 za4)));exact za4;exact (za9 rfl));exact (za9 rfl));exact (za9 rfl));exact (za9 rfl)));exact rfl;(first | exact .inl rfl | exact .inr rfl | assumption))
 refine za5 ?_ ?_
 ·exact (by refine @zb5 _ F _ _ _ 4 _ _ ?_ ?_ ?_ ?_ ?_ ?_;exact SC.nd;exact rfl;(first | exact Or.inl rfl | exact Or.inr rfl);exact (by refine zc6 ?_;exact (by refine za0 ?_ ?_ ?_;exact (ze1 (za0 za3 (za0 za3 za4)));exact (by refine za0 ?_ ?_ ?_;exact (ze1 (za0 za3 (za0 za3 za4)));exact (by refine za0 ?_ ?_ ?_;exact (ze1 (za0 za3 (za0 za3 za4)));exact (by refine za0 ?_ ?_ ?_;exact (ze1 (za0 za3 (za0 za3 za4)));exact za4;exact (za9 rfl));exact (za9 rfl));exact (za9 rfl));exact (za9 rfl)));exact rfl;(first | exact .inl rfl | exact .inr rfl | assumption))
 refine za5 ?_ ?_
 ·exact (zz1 3 (ze5 (L2.PW.pt (zt2 (zg3 (zb0 c_lets_choice (hr.mono (by decide)) (by refine za0 ?_ ?_ ?_;exact za3;exact (by refine za0 ?_ ?_ ?_;exact (za1 3);exact (by refine za0 ?_ ?_ ?_;exact (zc6 (za0 za3 (za0 za3 za4)));exact (by refine za0 ?_ ?_ ?_;exact (za1 4);exact za4;exact (za9 rfl));exact (za9 rfl));exact (za9 rfl));exact (za9 rfl)))) (zp4 (zk4 (zg3 (zb0 c_lets_choice (hr.mono (by decide)) (by refine za0 ?_ ?_ ?_;exact za3;exact (by refine za0 ?_ ?_ ?_;exact (zm9 (za1 3) za3);exact (by refine za0 ?_ ?_ ?_;exact (zc6 (za0 za3 (za0 za3 za4)));exact (by refine za0 ?_ ?_ ?_;exact (za1 4);exact za4;exact (za9 rfl));exact (za9 rfl));exact (za9 rfl));exact (za9 rfl)))))))) (zb2 (zc8 zg6)) zd3))
 refine za5 ?_ ?_
 ·exact (by refine @zb5 _ F _ _ _ 5 _ _ ?_ ?_ ?_ ?_ ?_ ?_;exact SC.nd;exact rfl;(first | exact Or.inl rfl | exact Or.inr rfl);exact (by refine zc6 ?_;exact (za0 (ze1 (za0 (za7 (od_add.or ze2) (za7 zai2 za3 za3) za3) (za0 (za7 zai2 za3 za3) za4))) (za0 (ze1 (za0 (za7 zai1 (za7 zai2 za3 za3) za3) (za0 (za7 zai2 za3 za3) za4))) za4)));exact rfl;(first | exact .inl rfl | exact .inr rfl | assumption))
 refine za5 ?_ ?_
 ·exact (ze5 (L2.PW.pt (zt2 (zg3 (zb0 c_lets_choice (hr.mono (by decide)) (by refine za0 ?_ ?_ ?_;exact za3;exact (by refine za0 ?_ ?_ ?_;exact (by refine zc6 ?_;exact (by refine za0 ?_ ?_ ?_;exact (zc6 (za0 za3 za4));exact (by refine za0 ?_ ?_ ?_;exact (zc6 (za0 za3 za4));exact za4;exact (za9 rfl));exact (za9 rfl)));exact (by refine za0 ?_ ?_ ?_;exact (zc6 (za0 za3 (za0 za3 za4)));exact (by refine za0 ?_ ?_ ?_;exact (za1 5);exact za4;exact (za9 rfl));exact (za9 rfl));exact (za9 rfl));exact (za9 rfl)))) (zp4 (zk4 (zg3 (zb0 c_lets_choice (hr.mono (by decide)) (by refine za0 ?_ ?_ ?_;exact za3;exact (by refine za0 ?_ ?_ ?_;exact (by refine zc6 ?_;exact (by refine za0 ?_ ?_ ?_;exact (zc6 (za0 za3 za4));exact (by refine za0 ?_ ?_ ?_;exact (zc6 (za0 za3 za4));exact za4;exact (za9 rfl));exact (za9 rfl)));exact (by refine za0 ?_ ?_ ?_;exact (zc6 (za0 za3 (za0 za3 za4)));exact (by refine za0 ?_ ?_ ?_;exact (by refine zc6 ?_;exact (by refine za0 ?_ ?_ ?_;exact (ze1 (za0 za3 (za0 za3 za4)));exact (by refine za0 ?_ ?_ ?_;exact (ze1 (za0 za3 (za0 za3 za4)));exact za4;exact (za9 rfl));exact (za9 rfl)));exact za4;exact (za9 rfl));exact (za9 rfl));exact (za9 rfl));exact (za9 rfl)))))))) (zb2 (zc8 zg6)) zd3)
 refine za5 ?_ ?_
 ·exact (zb5 (i:=6) SC.nd rfl (zb1 rfl) (za7 (od_add.or ze2) za3 (za7 zd9 (zb0 c_law_mixed (hr.mono (by decide)) (za0 (za1 0) (za0 za3 za4))) za3)))
 refine za5 ?_ ?_
 ·exact (ze5 (zd2 zba6 (za1 6) za3) (zb2 (zc8 zg6)) zd3)
 refine za5 ?_ ?_
 ·exact (zy0 (i:=7) 1 [] ["_law_k"] SC.nd rfl (Or.inl rfl) rfl (zo2 rfl bu.n_range za3) (fun _ _ _ _ _=>(zc2 (i:=0) (show List.Nodup (["_law_k"]:List Str) by decide +kernel) rfl (zb1 rfl))) (fun _=>(zc5 0)) (fun _ _ _ _ _ _=>zf4) (fun _ _ _ _ _ _=>(zj1 rfl rfl bu.n_list rfl bu.n_range (za0 (za7 (od_mul.or ze7) za3 (za1 0)) (za0 (za7 (od_add.or ze2) (za7 (od_mul.or ze7) za3 (za1 0)) za3) za4)))))
 refine za5 ?_ ?_
 ·exact (ze5 (zk4 (zg3 (zb0 c_lets_choice (hr.mono (by decide)) (by refine za0 ?_ ?_ ?_;exact (za1 6);exact (by refine za0 ?_ ?_ ?_;exact (zc6 (za0 (zj1 rfl rfl bu.n_list rfl bu.n_range (za0 (za1 6) za4)) za4));exact (by refine za0 ?_ ?_ ?_;exact (zc6 (za0 za3 za4));exact (by refine za0 ?_ ?_ ?_;exact (za7 (od_mul.or ze7) (by refine zc6 ?_;exact (za0 (ze1 (za0 za3 (za0 (za1 6) za4))) za4)) (za1 6));exact za4;exact (za9 rfl));exact (za9 rfl));exact (za9 rfl));exact (za9 rfl))))) (zb2 (zc8 zg6)) zd3)
 refine za5 ?_ ?_
 ·exact (zz1 7 (ze5 (zk4 (zg3 (zb0 c_lets_choice (hr.mono (by decide)) (by refine za0 ?_ ?_ ?_;exact za3;exact (by refine za0 ?_ ?_ ?_;exact (za7 (od_add.or ze2) (za1 7) (zc6 (za0 (zj1 rfl rfl bu.n_list rfl bu.n_range (za0 za3 za4)) za4)));exact (by refine za0 ?_ ?_ ?_;exact (zj1 rfl rfl bu.n_list rfl bu.n_range (za0 za3 za4));exact (by refine za0 ?_ ?_ ?_;exact (za7 (od_mul.or ze7) (by refine zc6 ?_;exact (by refine za0 ?_ ?_ ?_;exact (ze1 (za0 za3 (za0 za3 za4)));exact za4;exact (za9 rfl))) za3);exact za4;exact (za9 rfl));exact (za9 rfl));exact (za9 rfl));exact (za9 rfl))))) (zb2 (zc8 zg6)) zd3))
 exact zb2 (zc8 (ped_not (zb0 c_lets_choice (hr.mono (by decide)) (by refine za0 ?_ ?_ ?_;exact za3;exact (by refine za0 ?_ ?_ ?_;exact (za7 (od_add.or ze2) (za1 7) (zc6 (za0 (zj1 rfl rfl bu.n_list rfl bu.n_range (za0 za3 za4)) za4)));exact (by refine za0 ?_ ?_ ?_;exact (zj1 rfl rfl bu.n_list rfl bu.n_range (za0 za3 za4));exact (by refine za0 ?_ ?_ ?_;exact (za7 (od_mul.or ze7) (by refine zc6 ?_;exact (by refine za0 ?_ ?_ ?_;exact (ze1 (za0 za3 (za0 za3 za4)));exact za4;exact (za9 rfl))) za3);exact za4;exact (za9 rfl));exact (za9 rfl));exact (za9 rfl));exact (za9 rfl)))))
theorem sc_law:FnScope ["_law_script", "_law_number", "_law_many", "_law_count", "_law_great", "_law_last", "_law_sets_here", "_law_had", "_law_some", "_law_thing", "_law_kept", "_law_k", "_law_choice", "_law_shares", "_law_handed", "_law_told", "_law_found"] ["_law_script"] (zb8 s_law):=zl7 rfl rfl rfl rfl (by decide +kernel)
noncomputable def toI:DE:=(dSlU (d2 qS (dC (.int 2)) (dT1 zbd2 (za2 (dVar 4) dNil))) (dT1 kLst (za2 (dVar 6) (za2 (dSlU (d1 kNeg (dC (.int 1))) (dVar 6)) dNil))))
noncomputable def bdTo:DS:=(dSeq (dAsg 16 (dT1 (zc3 zb9) (za2 (dVar 2) (za2 (dVar 15) (za2 (d2 kIx (dVar 14) (dC (.int 0))) (za2 (d2 kIx (dVar 14) (dC (.int 1))) dNil))))))
  (dIfS (dOr (dNot (dTr (dIsi "bool" (dVar 16)))) (dBo (d2 kNe (dVar 16) (dT1 (zc3 zl6) (za2 (dVar 2) (za2 (dVar 15) (za2 (dVar 12) (za2 (dVar 13) dNil)))))))) (dRet (dC (.bl false))) zf0))
noncomputable def bdPp:DS:=(dSeq (zac1 (gkLst 2 (ze6 (za6 12) (ze6 (za6 13) zr1))) (dT1 (zc3 zi4) (za2 (dVar 2) (za2 (dVar 6) (za2 (dT1 (zc3 zf3) (za2 (dVar 0) (za2 (dVar 11) dNil))) dNil)))))
  (dSeq (dAsg 14 (dT1 kTup (za2 (dT1 zx6 (za2 (dVar 12) dNil)) (za2 (dT1 zx6 (za2 (dVar 13) dNil)) dNil))))
  (dSeq (dFor (za6 15) toI bdTo)
  (dIfS (dBo (d2 kNe (dVar 14) (dT1 kTup (za2 (dVar 12) (za2 (dVar 13) dNil))))) (dRet (dC (.bl false))) zf0))))
noncomputable def g_law:DS :=
 (dSeq (dAsg 1 (dT1 (zc3 zd1) (za2 (dT1 (zc3 zf3) (za2 (dVar 0) (za2 (dC (.int 0)) dNil))) (za2 (dC (.int 1)) dNil)))) (dSeq (dAsg 2 (d2 qA (dC (.int 1)) (d2 qR (dVar 1) (dC (.int 9))))) (dSeq (dAsg 3 (d2 qA (dC (.int 1)) (d2 qR (d2 qV (dVar 1) (dC (.int 9))) (dC (.int 7))))) (dSeq (dAsg 4 (d2 kEq (d2 qR (d2 qV (dVar 1) (dC (.int 63))) (dC (.int 8))) (dC (.int 5)))) (dSeq (dAsg 5 (dT1 (k2I fun i j=>if j > i then j else i) (za2 (dC (.int 11)) (za2 (dT1 (k2I fun i j=>if j<i then j else i) (za2 (dT1 kLen (za2 (dVar 0) dNil)) (za2 (dC (.int 34)) dNil))) dNil)))) (dSeq (dIfS (dTr (dVar 4)) (dSeq (dAsg 2 (d2 qA (dC (.int 10)) (d2 qR (d2 qV (dVar 1) (dC (.int 504))) (dC (.int 11))))) (dSeq (dAsg 3 (d2 qA (dC (.int 8)) (d2 qR (d2 qV (dVar 1) (dC (.int 5544))) (dC (.int 52))))) (dAsg 5 (dC (.int 11))))) zf0) (dSeq (dAsg 6 (dT1 (zc3 zl5) (za2 (dVar 0) (za2 (dC (.int 1)) (za2 (dVar 2) (za2 (dVar 3) dNil)))))) (dSeq (dAsg 7 zap3) (dSeq (dForO 6 8 (zbf7 9 (dVar 8) (zaf5 7 (dVar 9) (dC (.bl true))))) (dSeq (dApp 6 (ze3 1 [7] (fsR1 (dVar 2)) (za6 0) (dBo (d2 (kInD true) (dVar 0) (dVar 1))) (dVar 0))) (dSeq (dFrz 6 (dAsg 10 (ze3 1 [] (fsL (dVar 6)) (za6 0) zc7 (dT1 zx6 (za2 (dVar 0) dNil))))) (dSeq (dIfS (dNot (dTr (dT1 (zc3 zh1) (za2 (dT1 (zc3 zf3) (za2 (dVar 0) (za2 (dC (.int 9)) dNil))) dNil)))) (dRet (dC (.bl false))) zf0) (dSeq (zak0 (za6 11) (dC (.int 10)) (dVar 5) bdPp) (dRet (d2 kEq (dVar 6) (dVar 10))))))))))))))))
noncomputable def G_law:List D→Option Ev:=mkG 1 ["_law_script", "_law_number", "_law_many", "_law_count", "_law_great", "_law_last", "_law_sets_here", "_law_had", "_law_some", "_law_thing", "_law_kept", "_law_k", "_law_choice", "_law_shares", "_law_handed", "_law_told", "_law_found"] g_law
theorem ok_law (Fn:L2.Fun K "law" "law" s_law ad fd) (bu:Blt mg) (c_law_cell:Cal P w K mg base "_law_cell" 1 zf3) (c_law_mixed:Cal P w K mg base "_law_mixed" 1 zd1) (c_law_sets:Cal P w K mg base "_law_sets" 3 zl5) (c_law_made_ones:Cal P w K mg base "_law_made_ones" 6 zh1) (c_law_paper:Cal P w K mg base "_law_paper" 3 zi4) (c_lets_choice:Cal P w K mg base "lets_choice" 5 zb9) (c_law_lets:Cal P w K mg base "_law_lets" 5 zl6):FnOk P w K mg base CX0 7 ad fd ["_law_script"] (spD K G_law):=by
 have SC:=sc_law
 refine zg9 (k:=6) Fn SC (fun _ _ e=>ze8 e) g_law (fun _ _ e=>zg8 e) (fun cdv A outer s H E F hr=>?_)
 refine za5 ?_ ?_
 ·exact (zb5 (i:=1) SC.nd rfl (zb1 rfl) (zb0 c_law_mixed (hr.mono (by decide)) (za0 (zb0 c_law_cell (hr.mono (by decide)) (za0 (za1 0) (za0 za3 za4))) (za0 za3 za4))))
 refine za5 ?_ ?_
 ·exact (zb5 (i:=2) SC.nd rfl (zb1 rfl) (za7 (od_add.or ze2) za3 (za7 zd9 (za1 1) za3)))
 refine za5 ?_ ?_
 ·exact (zb5 (i:=3) SC.nd rfl (zb1 rfl) (za7 (od_add.or ze2) za3 (za7 zd9 (za7 zj3 (za1 1) za3) za3)))
 refine za5 ?_ ?_
 ·exact (zb5 (i:=4) SC.nd rfl (zb1 rfl) (zr6 (zp7 hr.units) (za7 zd9 (za7 zj3 (za1 1) za3) za3) za3))
 refine za5 ?_ ?_
 ·exact (zb5 (i:=5) SC.nd rfl (zb1 rfl) (zc0 (cd_max rfl) rfl bu.n_max (by decide +kernel) (za0 za3 (za0 (zc0 (cd_min rfl) rfl bu.n_min (by decide +kernel) (za0 (zc0 zi6 rfl bu.n_len PySem.boot_len (za0 (za1 0) za4)) (za0 za3 za4))) za4))))
 refine za5 ?_ ?_
 ·exact (ze5 (zg3 (za1 4)) (za5 (zb5 (i:=2) SC.nd rfl (zb1 rfl) (za7 (od_add.or ze2) za3 (za7 zd9 (za7 zj3 (za1 1) za3) za3)))
  (za5 (zb5 (i:=3) SC.nd rfl (zb1 rfl) (za7 (od_add.or ze2) za3 (za7 zd9 (za7 zj3 (za1 1) za3) za3)))
  (zb2 (zb5 (i:=5) SC.nd rfl (zb1 rfl) za3)))) zd3)
 refine za5 ?_ ?_
 ·exact (zb5 (i:=6) SC.nd rfl (zb1 rfl) (zb0 c_law_sets (hr.mono (by decide)) (by refine za0 ?_ ?_ ?_;exact (za1 0);exact (by refine za0 ?_ ?_ ?_;exact za3;exact (by refine za0 ?_ ?_ ?_;exact (za1 2);exact (by refine za0 ?_ ?_ ?_;exact (za1 3);exact za4;exact (za9 rfl));exact (za9 rfl));exact (za9 rfl));exact (za9 rfl))))
 refine za5 ?_ ?_
 ·exact (zb5 (i:=7) SC.nd rfl (zb1 rfl) zae3)
 refine za5 ?_ ?_
 ·exact (psd_forO [8,9] (by decide) (by decide) PassesOwn.never rfl rfl (zc2 (i:=8) SC.nd rfl (zb1 rfl)) (fun _=>(zay9 (psj_for (by decide) PassesOwn.never rfl (za1 8) (zc2 (i:=9) SC.nd rfl (zb1 rfl)) (zay9 (psj_dput 7 hr.units (za1 9) zg6))))))
 refine za5 ?_ ?_
 ·exact (zz2 6 (zf5 1 [7] ["_law_thing", "_law_had"] rfl (zo2 rfl bu.n_range (za1 2)) (fun _ _ _ _ _=>(zc2 (i:=0) (show List.Nodup (["_law_thing", "_law_had"]:List Str) by decide +kernel) rfl (zb1 rfl))) (fun _=>(zc5 0)) (fun _ _ _ _ _ _=>(zt3 (zd2 (zan7 hr.units) (za1 0) (za1 1)))) (fun _ _ _ _ _ _=>(za1 0))))
 refine za5 ?_ ?_
 ·exact (zz1 6 (zy0 (i:=10) 1 [] ["_law_some"] SC.nd rfl (Or.inl rfl) rfl (zh4 (za1 6)) (fun _ _ _ _ _=>(zc2 (i:=0) (show List.Nodup (["_law_some"]:List Str) by decide +kernel) rfl (zb1 rfl))) (fun _=>(zc5 0)) (fun _ _ _ _ _ _=>zf4) (fun _ _ _ _ _ _=>(zp6 zap8 rfl bu.n_list bt_list (za0 (za1 0) za4)))))
 refine za5 ?_ ?_
 ·exact (ze5 (zk4 (zg3 (zb0 c_law_made_ones (hr.mono (by decide)) (za0 (zb0 c_law_cell (hr.mono (by decide)) (za0 (za1 0) (za0 za3 za4))) za4)))) (zb2 (zc8 zg6)) zd3)
 refine za5 ?_ ?_
 ·exact (zar4 PassesOwn.never rfl rfl bu.n_range za3 (za1 5) (zc2 (i:=11) SC.nd rfl (zb1 rfl)) (zc5 11) (za5 (zam8 (zb0 c_law_paper (hr.mono (by decide)) (za0 (za1 2) (za0 (za1 6) (za0 (zb0 c_law_cell (hr.mono (by decide)) (za0 (za1 0) (za0 (za1 11) za4))) za4)))) (pg_lst rfl (zk1 (zc2 (i:=12) SC.nd rfl (zb1 rfl)) (zk1 (zc2 (i:=13) SC.nd rfl (zb1 rfl)) zz4))) (tg_lst (zm1 (zc5 12) (zm1 (zc5 13) zad4))))
  (za5 (zb5 (i:=14) SC.nd rfl (zb1 rfl) (ze1 (za0 (zp6 zap8 rfl bu.n_list bt_list (za0 (za1 12) za4)) (za0 (zp6 zap8 rfl bu.n_list bt_list (za0 (za1 13) za4)) za4))))
  (za5 (zv2 PassesOwn.never rfl (zm9 (zc6 (za0 (za1 6) (za0 (zm9 (za1 6) (zae4 za3)) za4))) (za7 zai1 za3 (zp6 zbg8 rfl bu.n_int bt_int (za0 (za1 4) za4)))) (zc2 (i:=15) SC.nd rfl (zb1 rfl)) (zc5 15) (za5 (zb5 (i:=16) SC.nd rfl (zb1 rfl) (zb0 c_lets_choice (hr.mono (by decide)) (by refine za0 ?_ ?_ ?_;exact (za1 2);exact (by refine za0 ?_ ?_ ?_;exact (za1 15);exact (by refine za0 ?_ ?_ ?_;exact (zd8 (za1 14) za3);exact (by refine za0 ?_ ?_ ?_;exact (zd8 (za1 14) za3);exact za4;exact (za9 rfl));exact (za9 rfl));exact (za9 rfl));exact (za9 rfl))))
  (zb2 (ze5 (L2.PW.pt (zt2 (zk4 (zg3 (ped_isi isi_bool (za1 16) rfl bu.n_isinstance rfl bu.n_bool bt_bool))) (zp4 (zd2 (zan8 hr.units) (za1 16) (zb0 c_law_lets (hr.mono (by decide)) (by refine za0 ?_ ?_ ?_;exact (za1 2);exact (by refine za0 ?_ ?_ ?_;exact (za1 15);exact (by refine za0 ?_ ?_ ?_;exact (za1 12);exact (by refine za0 ?_ ?_ ?_;exact (za1 13);exact za4;exact (za9 rfl));exact (za9 rfl));exact (za9 rfl));exact (za9 rfl))))))) (zb2 (zc8 zg6)) zd3))))
  (zb2 (ze5 (zd2 (zan8 hr.units) (za1 14) (ze1 (za0 (za1 12) (za0 (za1 13) za4)))) (zb2 (zc8 zg6)) zd3))))))
 exact zb2 (zc8 (zr6 (zp7 hr.units) (za1 6) (za1 10)))
end KX
namespace KX
open PySem.Spec L2 DL
theorem sm_of {i:Int} (h0 : -1000000000000000000000000000000≤i) (h1:i≤1000000000000000000000000000000):sm i=true:=by
 unfold sm
 refine decide_eq_true ?_
 have e:(2:Nat) ^ 100=1267650600228229401496703205376:=by decide
 have l:i.natAbs<2 ^ 100:=by rw [e];lia
 refine zbk9 l ?_
 unfold DL.bnd
 exact zbm9 (by decide) (by decide)
theorem fm {a b:Int} (h:0<b):0≤a.fmod b∧a.fmod b<b:=fmod_pos h
theorem zar9 (c:Int) (k:Nat) (hk:k<100000):∃m:Int,zd1 [.int c,.int (k:Int)]=some (.cl (.int m))∧0≤m:=by
 have f1:=@fm c 2147483629 (by decide)
 have hkk:(k:Int)*(k:Int)<10000000000:=by
  have:k*k≤99999*99999:=zbo0 (by lia) (by lia)
  have e:((k*k:Nat):Int)=(k:Int)*(k:Int):=by simp
  rw [← e];lia
 have hkk0:0≤(k:Int)*(k:Int):=by
  have e:((k*k:Nat):Int)=(k:Int)*(k:Int):=by simp
  rw [← e];lia
 generalize hq:(k:Int)*(k:Int)=q at hkk hkk0
 have f2:=@fm ((c.fmod 2147483629+q*7919+(k:Int)+1)*48271) 2147483587 (by decide)
 generalize h2:((c.fmod 2147483629+q*7919+(k:Int)+1)*48271).fmod 2147483587=n2 at f2
 have f2b:n2*n2≤2147483587*2147483587:=Int.mul_le_mul (by lia) (by lia) (by lia) (by decide)
 have f3:=@fm (n2*n2) 2147483629 (by decide)
 generalize h3:(n2*n2).fmod 2147483629=n3 at f3
 have f4:=@fm ((n3+(k:Int))*69621) 2147483563 (by decide)
 refine⟨((n3+(k:Int))*69621).fmod 2147483563,?_,f4.1⟩
 refine bnd (g:=zo7 [.val (.int c),.val (.int (k:Int)),.no]) ?_
 unfold zo7
 rw [za8 (ze4 (d:=.int n2) (by
  rw [← h2, ← hq]
  exact zg7 (zi0 (zf8 (zf8 (zf8 (zg7 rfl rfl (by decide)) (zi0 (zi0 rfl rfl (sm_of (by lia) (by lia)) (sm_of (by lia) (by lia))) rfl (by rw [hq];exact sm_of (by lia) (by lia)) (by decide +kernel))) rfl) rfl) rfl (by rw [hq];exact sm_of (by lia) (by lia)) (by decide +kernel)) rfl (by decide)) (by simp))]
 rw [za8 (ze4 (d:=.int n3) (by
  rw [← h3]
  exact zg7 (zi0 rfl rfl (sm_of (by lia) (by lia)) (sm_of (by lia) (by lia))) rfl (by decide)) (by simp))]
 unfold dRet
 rw [zg7 (zi0 (zf8 (a:=n3) (b:=(k:Int)) rfl rfl) rfl (sm_of (by lia) (by lia)) (by decide +kernel)) rfl (by decide)]
 rfl
theorem cell_ok (ns:List Int) (hl:ns.length≤63) (k:Nat) (hk:k<100000):∃c:Int,zf3 [.lst (ns.map D.int),.int (k:Int)]=some (.cl (.int c)):=by
 have len:∀s2,(dT1 kLen (za2 (dVar 0) dNil)) [.val (.lst (ns.map D.int)),.val (.int (k:Int)),s2]=some (.cl (.int (ns.length:Int))):=fun s2=>zr3 (xs:=ns) rfl rfl
 by_cases h:k<ns.length
 ·refine⟨ns.getD k 0,bnd (g:=zi5 [.val (.lst (ns.map D.int)),.val (.int (k:Int)),.no]) ?_⟩
  unfold zi5
  refine seq_rt ?_
  rw [zv8 (zav8 rfl (len .no)) (decide_eq_true (by lia))]
  unfold dRet
  rw [zad0 ns k rfl rfl h rfl rfl]
  rfl
 ·have hkk:(k:Int)*(k:Int)<10000000000:=by
   have:k*k≤99999*99999:=zbo0 (by lia) (by lia)
   have e:((k*k:Nat):Int)=(k:Int)*(k:Int):=by simp
   rw [← e];lia
  have hkk0:0≤(k:Int)*(k:Int):=by
   have e:((k*k:Nat):Int)=(k:Int)*(k:Int):=by simp
   rw [← e];lia
  generalize hq:(k:Int)*(k:Int)=q at hkk hkk0
  have fin:∀n:Int,0≤n→n≤100000000000→∀s0 s1,dRet (d2 qR (d2 qM (dVar 2) (dVar 2)) (dC (.int 2147483629))) [s0,s1,.val (.int n)]=some (.rt (.cl (.int ((n*n).fmod 2147483629)))):=fun n h0 h1 s0 s1=>by
   unfold dRet
   rw [zg7 (zi0 (a:=n) (b:=n) rfl rfl (sm_of (by lia) (by lia)) (sm_of (by lia) (by lia))) rfl (by decide)]
   rfl
  have a1:dAsg 2 (d2 qA (d2 qM (dVar 1) (dVar 1)) (dC (.int 7919))) [.val (.lst (ns.map D.int)),.val (.int (k:Int)),.no]=some (.nx [.val (.lst (ns.map D.int)),.val (.int (k:Int)),.val (.int (q+7919))]):=by
   rw [← hq]
   exact ze4 (zf8 (zi0 rfl rfl (sm_of (by lia) (by lia)) (sm_of (by lia) (by lia))) rfl) (by simp)
  cases ns with
  |nil =>
   refine⟨((q+7919)*(q+7919)).fmod 2147483629,bnd (g:=zi5 [.val (.lst (([]:List Int).map D.int)),.val (.int (k:Int)),.no]) ?_⟩
   unfold zi5
   rw [za8 (grd (zav8 rfl (len .no)) (decide_eq_false (by simp))),za8 a1,za8 (grd (zaw5 (len _) rfl) (by simp))]
   exact fin _ (by lia) (by lia) _ _
  |cons n0 r0 =>
   have f0:=@fm ((k:Int)*7) ((n0::r0).length:Int) (by simp)
   obtain⟨m,hm⟩:=Int.eq_ofNat_of_zero_le f0.1
   have hml:m<(n0::r0).length:=by lia
   have f1:=@fm ((n0::r0).getD m 0) 2147483629 (by decide)
   refine⟨((q+7919+((n0::r0).getD m 0).fmod 2147483629)*(q+7919+((n0::r0).getD m 0).fmod 2147483629)).fmod 2147483629,bnd (g:=zi5 [.val (.lst ((n0::r0).map D.int)),.val (.int (k:Int)),.no]) ?_⟩
   unfold zi5
   rw [za8 (grd (zav8 rfl (len .no)) (decide_eq_false (by lia))),za8 a1]
   have a2:dAsg 2 (d2 qA (dVar 2) (d2 qR (d2 kIx (dVar 0) (d2 qR (d2 qM (dVar 1) (dC (.int 7))) (dT1 kLen (za2 (dVar 0) dNil)))) (dC (.int 2147483629)))) [.val (.lst ((n0::r0).map D.int)),.val (.int (k:Int)),.val (.int (q+7919))]=some (.nx [.val (.lst ((n0::r0).map D.int)),.val (.int (k:Int)),.val (.int (q+7919+((n0::r0).getD m 0).fmod 2147483629))]):=by
    refine ze4 (zf8 rfl (zg7 (zad0 (r2:=.cl (.int (m:Int))) (n0::r0) m rfl ?_ hml rfl rfl) rfl (by decide))) (by simp)
    rw [← hm]
    exact zg7 (zi0 (a:=(k:Int)) (b:=7) rfl rfl (sm_of (by lia) (by lia)) (by decide +kernel)) (len _) (by simp;lia)
   have a3:(dIfS (dBo (d2 qG (dT1 kLen (za2 (dVar 0) dNil)) (dC (.int 0)))) (dAsg 2 (d2 qA (dVar 2) (d2 qR (d2 kIx (dVar 0) (d2 qR (d2 qM (dVar 1) (dC (.int 7))) (dT1 kLen (za2 (dVar 0) dNil)))) (dC (.int 2147483629))))) zf0) [.val (.lst ((n0::r0).map D.int)),.val (.int (k:Int)),.val (.int (q+7919))]=some (.nx [.val (.lst ((n0::r0).map D.int)),.val (.int (k:Int)),.val (.int (q+7919+((n0::r0).getD m 0).fmod 2147483629))]):=by
    rw [zv8 (zaw5 (len _) rfl) (decide_eq_true (by simp))]
    exact a2
   rw [za8 a3]
   exact fin _ (by lia) (by lia) _ _
end KX
set_option maxHeartbeats 1000000
namespace KX
open PySem.Spec L2 DL
theorem zao0 {ks:List Int}{ds:List D}{fa fb:DE}{t:Th}{r1 r2:Ev}{x:Int} (h1:fa t=some r1) (h2:fb t=some r2) (e1:r1.d=.int x) (e2:r2.d=.dct (ks.map kN) ds):dBo (d2 (kInD true) fa fb) t=some (decide (x∉ks)):=by
 unfold dBo
 rw [zh7 h1 h2]
 unfold kInD
 rw [e1,e2]
 show some (!hasK (ks.map kN) (kN x))=_
 rw [zaj2]
 simp
theorem zac8 {M:Nat} (hM:M≤1000) {ss:List (List Int)} (hs:∀s∈ss,∀x∈s,0≤x∧x<(M:Int)) {ns:List Int} (hn:∀n∈ns,0≤n∧n<(ss.length:Int)) :
  zc4 [.int (M:Int),mD ss,.lst (ns.map D.int)]=some (.nw (((zb4 M).filter fun x=>decide (x∉hads ss ns)).map D.int)):=by
 let t0:Th:=[.val (.int (M:Int)),.val (mD ss),.val (.lst (ns.map D.int)),.no]
 show (zi3 t0).bind zk5=_
 have c2:(zab0 2 [1] (fsL (dVar 2)) (za6 0) zc7 (fsL (d2 kIx (dVar 2) (dVar 0))) (za6 1) zc7 (dVar 1) (dC (.bl true))) t0=some (.dn (.dct ((hads ss ns).map kN) ((hads ss ns).map ttD))):=by
  have e:=lk_out hM hs (ns:=ns) (ks:=[]) (u:=.no) (v:=.no) ⟨zbm2,fun x hx=>nomatch hx⟩ hn
  show (zm6 (za6 0) zc7 (fsL (d2 kIx (dVar 2) (dVar 0))) (za6 1) zc7 (dVar 1) (dC (.bl true)) (ns.map D.int) [.no,.no,.val (mD ss)] (kdT [])).map _=_
  rw [e]
  rfl
 have E1:=asg_dn (i:=3) c2 (by simp [t0])
 let t1:Th:=[.val (.int (M:Int)),.val (mD ss),.val (.lst (ns.map D.int)),.dp (.dct ((hads ss ns).map kN) ((hads ss ns).map ttD))]
 have E2:(ze3 1 [3] (fsR1 (dVar 0)) (za6 0) (dBo (d2 (kInD true) (dVar 0) (dVar 1))) (dVar 0)) t1=_:=zaj9 (p:=fun x=>decide (x∉hads ss ns)) (g:=D.int) (n:=M) (b:=false) (c:=[.dct ((hads ss ns).map kN) ((hads ss ns).map ttD)]) (rfl:dVar 0 t1=some (.cl (.int (M:Int)))) rfl rfl (by lia)
  (fun x _=>zao0 (ks:=hads ss ns) (rfl:dVar 0 _=some (.cl (.int x))) (rfl:dVar 1 _=some (.cl _)) rfl rfl) (fun x _ _=>⟨.cl (.int x),rfl,rfl⟩) (.inl (zd5 _))
 unfold zi3
 rw [za8 E1]
 exact bnd (zm8 E2)
noncomputable def tC (M:Nat) (ss:List (List Int)) (s2:Sl) (hd:Hd) (ch:List Int) (s5 s6 s7 s8:Sl):Th:=[.val (.int (M:Int)),.val (mD ss),s2,.dp (dctH hd),.own (ch.map D.int),s5,s6,s7,s8]
theorem turn_N {M:Nat} (hM:M≤400) {ss:List (List Int)} (c:Cv M ss) (hl:ss.length≤400) {hd:Hd} (h:HI M ss hd) (h0:0<mxL (lnS hd ss)) {ch:List Int} (hc:ch.length<1000) (s2 s5 s6 s7 s8:Sl) :
  ∃u5 u6 u7 u8,bdN (tC M ss s2 hd ch s5 s6 s7 s8)=some (.nx (tC M ss s2 (adS hd ss) (ch++[(bst hd ss:Int)]) u5 u6 u7 u8)):=by
 have ne:ss≠[]:=fun z=>by rw [z]at h0;simp [lnS,mxL]at h0
 let xs:List (List Int):=ss.map (nwS hd)
 have lx:xs.length=ss.length:=by simp [xs]
 have xm:∀r∈xs,r.length≤400:=fun r hr=>by
  obtain⟨s,hs,rfl⟩:=zbm5.mp hr
  exact zbk3 (zbq9 _ _) (zbk3 (c.len hs) hM)
 have a1:(zn4 1 [3] (fsL (dVar 1)) (za6 0) zc7 (ze3 1 [1] (fsL (dVar 0)) (za6 0) (dBo (d2 (kInD true) (dVar 0) (dVar 1))) (dVar 0))) (tC M ss s2 hd ch s5 s6 s7 s8)=some (.dn (mD xs)):=by
  have:=dcompNL (e:=rwD) (g:=fun s=>rwD (nwS hd s)) (fe:=(ze3 1 [1] (fsL (dVar 0)) (za6 0) (dBo (d2 (kInD true) (dVar 0) (dVar 1))) (dVar 0))) (t:=tC M ss s2 hd ch s5 s6 s7 s8) (f:=dVar 1) (r:=.cl (mD ss)) (xs:=ss) (cap:=[3]) (b:=false) (c:=[dctH hd]) rfl rfl rfl (by lia)
   (fun s hs=>⟨.nw ((nwS hd s).map D.int),zu6 (e:=D.int) (p:=fun x=>decide (x∉hd.map Prod.fst)) (g:=D.int) (xs:=s) (b:=true) (c:=[dctH hd]) (rfl:dVar 0 _=some (.cl (rwD s))) rfl rfl (by have:=c.len hs;lia)
    (fun x _=>zao0 (ks:=hd.map Prod.fst) (rfl:dVar 0 _=some (.cl (.int x))) (rfl:dVar 1 _=some (.cl (dctH hd))) rfl rfl) (fun x _ _=>⟨.cl (.int x),rfl,rfl⟩) (.inl (zd5 _)),
    by show (if flats ((nwS hd s).map D.int) then _ else _)=_;rw [zd5];rfl⟩)
  rw [this]
  show some (Ev.dn (.lst (ss.map fun s=>rwD (nwS hd s))))=some (Ev.dn (.lst ((ss.map (nwS hd)).map rwD)))
  rw [zbp4]
  rfl
 have E1:=asg_dn (i:=5) a1 (by simp [tC])
 let t1:Th:=tC M ss s2 hd ch (.dp (mD xs)) s6 s7 s8
 have a2:(ze3 1 [] (fsL (dVar 5)) (za6 0) zc7 (dT1 kLen (za2 (dVar 0) dNil))) t1=some (.nw (((lnS hd ss).map fun (n:Nat)=>(n:Int)).map D.int)):=by
  have:=zu6 (e:=rwD) (p:=fun _=>true) (g:=fun s=>D.int (s.length:Int)) (ft:=zc7) (fe:=dT1 kLen (za2 (dVar 0) dNil)) (t:=t1) (f:=dVar 5) (r:=.tm (mD xs)) (xs:=xs) (cap:=[]) (b:=true) (c:=[]) rfl rfl rfl (by lia)
   (fun _ _=>rfl) (fun s _ _=>⟨_,zr3 (xs:=s) (rfl:dVar 0 _=some (.cl (rwD s))) rfl,rfl⟩) (.inl (by rw [zbn2.mpr fun _ _=>rfl];exact (by rw [show (xs.map fun s=>D.int (s.length:Int))=(xs.map fun s=>(s.length:Int)).map D.int by simp];exact zd5 _)))
  rw [this,zbn2.mpr fun _ _=>rfl]
  simp [xs,lnS,Function.comp_def]
 have E2:=zm2 (i:=6) a2 (by simp [t1,tC])
 let L:List Int:=(lnS hd ss).map fun (n:Nat)=>(n:Int)
 let m:=mxL (lnS hd ss)
 let t2:Th:=tC M ss s2 hd ch (.dp (mD xs)) (.own (L.map D.int)) s7 s8
 have ll:L.length=ss.length:=by simp [L,lnS]
 have nl:lnS hd ss≠[]:=fun z=>ne (by rw [lnS,zca0]at z;exact z)
 have lp:0<L.length:=by rw [ll];exact zca2.mpr ne
 have a3:=extt_of (f:=dVar 6) (t:=t2) (r:=.tm (.lst (L.map D.int))) (L:=L) rfl rfl lp
 rw [show topI' L=(m:Int) from top_mx nl]at a3
 have E3:=ze4 (i:=7) a3 (by simp [t2,tC])
 let t3:Th:=tC M ss s2 hd ch (.dp (mD xs)) (.own (L.map D.int)) (.val (.int (m:Int))) s8
 have a4:(d2 kIdx (dVar 6) (dVar 7)) t3=some (.cl (.int (bst hd ss:Int))):=by
  rw [zh7 (rfl:dVar 6 t3=some (.tm (.lst (L.map D.int)))) (rfl:dVar 7 t3=some (.cl (.int (m:Int))))]
  unfold kIdx
  show ((zp3 (L.map D.int)).bind fun ns=>if ns.contains (m:Int)&&decide (ns.length≤100000) then some (Ev.cl (.int (ns.idxOf (m:Int):Nat))) else none)=_
  rw [zn2]
  simp only [zbj3]
  have hm:(m:Int)∈L:=zbm5.mpr ⟨m,zao1 nl,rfl⟩
  rw [if_pos (by rw [zbj5];exact⟨by simpa using hm,by simp;lia⟩)]
  rw [show L.idxOf (m:Int)=bst hd ss from zas1 m _]
 have E4:=ze4 (i:=8) a4 (by simp [t3,tC])
 let t4:Th:=tC M ss s2 hd ch (.dp (mD xs)) (.own (L.map D.int)) (.val (.int (m:Int))) (.val (.int (bst hd ss:Int)))
 have E5:=zaq0 t4 (f:=dVar 8) (i:=4) (xs:=ch) (p:=(bst hd ss:Int)) rfl rfl (by lia)
 let t5:Th:=tC M ss s2 hd (ch++[(bst hd ss:Int)]) (.dp (mD xs)) (.own (L.map D.int)) (.val (.int (m:Int))) (.val (.int (bst hd ss:Int)))
 have bl:=zat4 (hd:=hd) ne
 obtain⟨r,er,hr⟩:=row_at (fa:=dVar 5) (fb:=dVar 8) (t:=t5) (i:=(bst hd ss:Int)) (M:=xs) (rfl:dVar 5 _=some (.tm (mD xs))) rfl rfl (by lia) (by rw [lx];lia)
 have gx:xs.getD (bst hd ss) []=nwS hd (ss.getD (bst hd ss) []):=by
  simp [xs,zbk5,zbj6 bl]
 rw [show ((bst hd ss:Int)).toNat=bst hd ss from rfl,gx]at hr
 let nw:=nwS hd (ss.getD (bst hd ss) [])
 have bm:=zbh9 (hd:=hd) ne
 have nn:nw.Nodup:=(c.nd _ bm).filter _
 have nl2:nw.length≤400:=zbk3 (zbq9 _ _) (zbk3 (c.len bm) hM)
 have a6:(zw3 1 [7] (fsL (d2 kIx (dVar 5) (dVar 8))) (za6 0) zc7 (dVar 0) (dT1 kTup (za2 (dC (.int 1)) (za2 (dVar 1) dNil)))) t5=some (.dn (.dct (nw.map kN) (nw.map fun _=>tP m))):=by
  have ef:fsL (d2 kIx (dVar 5) (dVar 8)) t5=some (r.ok,nw.map D.int):=by
   unfold fsL;rw [er];simp only [zbj3,hr,rwD];rfl
  have ek:=zak4 (m:=m) (fv:=(dT1 kTup (za2 (dC (.int 1)) (za2 (dVar 1) dNil)))) (ext:=[.val (.int (m:Int))]) (fun x=>⟨_,rfl,rfl⟩) nw [] .no (by simpa using nn) (by simp;lia)
  show ((fsL (d2 kIx (dVar 5) (dVar 8)) t5).bind fun q=>(zk8 (za6 0) zc7 (dVar 0) (dT1 kTup (za2 (dC (.int 1)) (za2 (dVar 1) dNil))) q.2 [.no,.val (.int (m:Int))] ([],[])).map fun a=>Ev.dn (.dct a.1 a.2))=_
  rw [ef]
  simp only [zbj3]
  have ek:zk8 (za6 0) zc7 (dVar 0) (dT1 kTup (za2 (dC (.int 1)) (za2 (dVar 1) dNil))) (nw.map D.int) [.no,.val (.int (m:Int))] ([],[])=some (nw.map kN,nw.map fun _=>tP m):=by simpa using ek
  rw [ek]
  rfl
 have hlen:hd.length≤M:=by simpa using h.ak.len
 have fl1:∀l:Hd,flats (l.map fun p=>tP p.2)=true:=fun l=>by
  induction l with
  |nil=>rfl
  |cons p l ih=>show (flat (tP p.2)&&flats (l.map fun p=>tP p.2))=true;rw [ih];rfl
 have E6:dUpd 3 (zw3 1 [7] (fsL (d2 kIx (dVar 5) (dVar 8))) (za6 0) zc7 (dVar 0) (dT1 kTup (za2 (dC (.int 1)) (za2 (dVar 1) dNil)))) t5=some (.nx (tC M ss s2 (adS hd ss) (ch++[(bst hd ss:Int)]) (.dp (mD xs)) (.own (L.map D.int)) (.val (.int (m:Int))) (.val (.int (bst hd ss:Int))))):=by
  unfold dUpd
  rw [a6]
  show (if (flats (hd.map fun p=>tP p.2)&&flats (nw.map fun _=>tP m))&&decide (((hd.map Prod.fst).map kN).length+(nw.map kN).length≤50000) then some (Out.nx (t5.set 3 (.dp (.dct (mgKD (nw.map kN) (nw.map fun _=>tP m) ((hd.map Prod.fst).map kN,hd.map fun p=>tP p.2)).1 (mgKD (nw.map kN) (nw.map fun _=>tP m) ((hd.map Prod.fst).map kN,hd.map fun p=>tP p.2)).2)))) else none)=_
  rw [fl1,zy4 (fun _=>m),decide_eq_true (by simp;lia),if_pos (by rfl),mg_new m nw hd nn fun x hx=>(mem_nwS.mp hx).2]
  rfl
 exact⟨.dp (mD xs),.own (L.map D.int),.val (.int (m:Int)),.val (.int (bst hd ss:Int)),(za8 E1).trans ((za8 E2).trans ((za8 E3).trans ((za8 E4).trans ((za8 E5).trans E6))))⟩
theorem cond_N {M:Nat}{ss:List (List Int)}{hd:Hd}{ch:List Int}{s2 s5 s6 s7 s8:Sl}:cdN (tC M ss s2 hd ch s5 s6 s7 s8)=some (decide (hd.length<M)):=by
 have a:(dT1 zaw1 (za2 (dVar 3) dNil)) (tC M ss s2 hd ch s5 s6 s7 s8)=some (.cl (.int (hd.length:Int))):=by
  show some (Ev.cl (.int (((hd.map Prod.fst).map kN).length:Int)))=_
  simp
 have:=zav8 (fb:=dVar 0) (b:=(M:Int)) a rfl
 unfold cdN
 rw [this]
 congr 1
 simp
theorem loop_N {M:Nat} (hM:M≤400) {ss:List (List Int)} (c:Cv M ss) (hl:ss.length≤400) (s2:Sl):∀(n:Nat) (hd:Hd) (ch:List Int) (s5 s6 s7 s8:Sl),HI M ss hd→M<hd.length+n→ch.length≤hd.length →
  ∃u5 u6 u7 u8,whD cdN bdN n (tC M ss s2 hd ch s5 s6 s7 s8)=some (.nx (tC M ss s2 (chs M ss n hd ch).1 (chs M ss n hd ch).2 u5 u6 u7 u8))
 |0,hd,ch,s5,s6,s7,s8,h,hn,hc=>by
  have:hd.length≤M:=by simpa using h.ak.len
  lia
 |n+1,hd,ch,s5,s6,s7,s8,h,hn,hc=>by
  unfold whD chs
  rw [cond_N]
  by_cases hl':hd.length<M
  ·have h0:=h.some_new c hl'
   obtain⟨h1,h2⟩:=h.step c h0
   obtain⟨u5,u6,u7,u8,e⟩:=turn_N hM c hl h h0 (ch:=ch) (by lia) s2 s5 s6 s7 s8
   obtain⟨v5,v6,v7,v8,e'⟩:=loop_N hM c hl s2 n (adS hd ss) (ch++[(bst hd ss:Int)]) u5 u6 u7 u8 h1 (by lia) (by rw [zbl8,zbn8];lia)
   refine⟨v5,v6,v7,v8,?_⟩
   rw [decide_eq_true hl',if_pos hl']
   show ((bdN (tC M ss s2 hd ch s5 s6 s7 s8)).bind _)=_
   rw [e]
   exact e'
  ·refine⟨s5,s6,s7,s8,?_⟩
   rw [decide_eq_false hl',if_neg hl']
   rfl
theorem chs_hi {M:Nat}{ss:List (List Int)} (c:Cv M ss):∀(n:Nat) (hd:Hd) (ch:List Int),HI M ss hd→M<hd.length+n→HI M ss (chs M ss n hd ch).1∧(chs M ss n hd ch).1.length=M
 |0,hd,ch,h,hn=>by
  have:hd.length≤M:=by simpa using h.ak.len
  lia
 |n+1,hd,ch,h,hn=>by
  unfold chs
  by_cases hl':hd.length<M
  ·rw [if_pos hl']
   obtain⟨h1,h2⟩:=h.step c (h.some_new c hl')
   exact chs_hi c n _ _ h1 (by lia)
  ·rw [if_neg hl']
   have:hd.length≤M:=by simpa using h.ak.len
   exact⟨h,show hd.length=M by lia⟩
def zg2 (M:Nat) (ss:List (List Int)):Hd×List Int:=chs M ss 500 [] []
theorem zaw9 {M:Nat} (hM:M≤400) {ss:List (List Int)} (c:Cv M ss) (x:Int) (x0:0≤x) (x1:x<(M:Int)):x∈(zg2 M ss).1.map Prod.fst:=by
 obtain⟨h,l⟩:=chs_hi c 500 [] [] (HI.nil M ss) (by simp;lia)
 refine Classical.byContradiction fun z=>?_
 have ak:AllK M ((zg2 M ss).1.map Prod.fst++[x]):=⟨zbl0.mpr ⟨h.ak.nd,by simp,fun a ha b hb e=>by rw [zbk6]at hb;subst hb;subst e;exact z ha⟩,fun y hy=>by
  rcases zbj4.mp hy with q | q
  ·exact h.ak.lt y q
  ·rw [zbk6]at q;subst q;exact⟨x0,x1⟩⟩
 have:=ak.len
 rw [zbl8,zbl5]at this
 have l:(zg2 M ss).1.length=M:=l
 simp at this
 lia
theorem retm2 {t:Th}{i:Nat}{xs:List Int}{f:DE}{ys:List D} (hi:t[i]?=some (.own (xs.map D.int))) (hf:f (t.set i .no)=some (.nw ys)) (fl:flats ys=true):zaw8 (mTup (zae7 (mOwn i) (zae7 (mOf f) mNil))) t=some (.rt (.dn (.tup [.lst (xs.map D.int),.lst ys]))):=by
 unfold zaw8 mTup zae7 mOwn mOf mNil
 simp [hi,zd5,hf,toDn,fl]
theorem zbg2 {M:Nat} (hM:M≤400) {ss:List (List Int)} (c:Cv M ss) (hl:ss.length≤400):zf7 [.int (M:Int),mD ss]=some (.dn (.tup [.lst ((zg2 M ss).2.map D.int),.lst ((zb4 M).map fun x=>tP (shr (zg2 M ss).1 x))])):=by
 let t0:Th:=[.val (.int (M:Int)),.val (mD ss),.no,.no,.no,.no,.no,.no,.no]
 show (zj4 t0).bind zk5=_
 unfold zj4
 have r0:=zav9 (f:=dT1 kLen (za2 (dVar 1) dNil)) (t:=t0) (n:=ss.length) (zaa0 (f:=dVar 1) (r:=.cl (mD ss)) rfl rfl) (by lia)
 have la:zc4 [.int (M:Int),mD ss,.lst ((zb4 ss.length).map D.int)]=some (.nw (([]:List Int).map D.int)):=by
  rw [zac8 (by lia) c.lt fun n hn=>ze9 hn]
  have:(zb4 M).filter (fun x=>decide (x∉hads ss (zb4 ss.length)))=[]:=by
   refine zby9.mpr fun x hx=>?_
   obtain⟨x0,x1⟩:=ze9 hx
   obtain⟨s,hs,xs⟩:=c.all x x0 x1
   obtain⟨i,hi,e⟩:=zbr4.mp hs
   have:x∈hads ss (zb4 ss.length):=mem_hads.mpr (.inr ⟨(i:Int),zo3 (by lia) (by lia),by
    show x∈ss.getD i []
    rw [zbk5,zbj6 hi,e]
    exact xs⟩)
   simpa using this
  rw [this]
 have a1:(dT1 (zc3 zc4) (za2 (dVar 0) (za2 (dVar 1) (za2 (zg4 (za2 (dT1 kLen (za2 (dVar 1) dNil)) dNil)) dNil)))) t0=some (.nw (([]:List Int).map D.int)):=(zau0 (rfl:dVar 0 t0=some (.cl (.int (M:Int)))) (rfl:dVar 1 t0=some (.cl (mD ss))) r0).trans (calln la)
 have E1:=zm2 (i:=2) a1 (by simp [t0])
 let t1:Th:=[.val (.int (M:Int)),.val (mD ss),.own [],.no,.no,.no,.no,.no,.no]
 have E2:dIfS (dTr (dVar 2)) zbf6 zf0 t1=some (.nx t1):=grd (b:=false) rfl rfl
 have E3:dAsg 3 zap3 t1=some (.nx [.val (.int (M:Int)),.val (mD ss),.own [],.dp (dctH []),.no,.no,.no,.no,.no]):=rfl
 have E4:dAsg 4 (dT1 kLst dNil) [.val (.int (M:Int)),.val (mD ss),.own [],.dp (dctH []),.no,.no,.no,.no,.no]=some (.nx (tC M ss (.own []) [] [] .no .no .no .no)):=rfl
 obtain⟨u5,u6,u7,u8,e5⟩:=loop_N hM c hl (.own []) 500 [] [] .no .no .no .no (HI.nil M ss) (by simp;lia) (by simp)
 have E5:zw5 (fun _=>500) cdN bdN (tC M ss (.own []) [] [] .no .no .no .no)=some (.nx (tC M ss (.own []) (zg2 M ss).1 (zg2 M ss).2 u5 u6 u7 u8)):=e5
 let t5:=tC M ss (.own []) (zg2 M ss).1 (zg2 M ss).2 u5 u6 u7 u8
 let t6:Th:=[.val (.int (M:Int)),.val (mD ss),.own [],.dp (dctH (zg2 M ss).1),.no,u5,u6,u7,u8]
 have a6:(ze3 1 [3] (fsR1 (dVar 0)) (za6 0) zc7 (d2 zac9 (dVar 1) (dVar 0))) t6=some (.nw ((zb4 M).map fun x=>tP (shr (zg2 M ss).1 x))):=by
  have:=zaj9 (p:=fun _=>true) (g:=fun x=>tP (shr (zg2 M ss).1 x)) (ft:=zc7) (fe:=d2 zac9 (dVar 1) (dVar 0)) (t:=t6) (f:=dVar 0) (r:=.cl (.int (M:Int))) (n:=M) (b:=false) (cap:=[3]) (c:=[dctH (zg2 M ss).1]) rfl rfl rfl (by lia) (fun _ _=>rfl)
   (fun x hx _=>⟨.cl (tP (shr (zg2 M ss).1 x)),by
    obtain⟨x0,x1⟩:=ze9 hx
    rw [zh7 (rfl:dVar 1 _=some (.cl (dctH (zg2 M ss).1))) (rfl:dVar 0 _=some (.cl (.int x)))]
    show (match zaj3 (((zg2 M ss).1.map Prod.fst).map kN) ((zg2 M ss).1.map fun p=>tP p.2) (kN x) with
     |some d=>if flat d then some (Ev.cl d) else none
     |none=>none)=_
    rw [get_hd (zaw9 hM c x x0 x1)]
    rfl,rfl⟩) (.inl (zy4 _ _))
  rw [this,zbn2.mpr fun _ _=>rfl]
 have a7:(zaw8 (mTup (zae7 (mOwn 4) (zae7 (mOf (ze3 1 [3] (fsR1 (dVar 0)) (za6 0) zc7 (d2 zac9 (dVar 1) (dVar 0)))) mNil)))) t5=some (.rt (.dn (.tup [.lst ((zg2 M ss).2.map D.int),.lst ((zb4 M).map fun x=>tP (shr (zg2 M ss).1 x))]))):=retm2 (t:=t5) (xs:=(zg2 M ss).2) rfl a6 (zy4 _ _)
 exact bnd ((za8 E1).trans ((za8 E2).trans ((za8 E3).trans ((za8 E4).trans ((za8 E5).trans a7)))))
end KX
set_option maxHeartbeats 4000000
namespace KX
open PySem.Spec L2 DL
noncomputable abbrev tRw (c:Int) (s1:Sl) (q:Int) (b:Bool) (xs:List Int) (s5 s6:Sl):Th:=[.val (.int c),s1,.val (.lst [.int q]),.val (.bl b),.own (xs.map D.int),s5,s6]
theorem turn_rw (c:Int) (s1:Sl) {q:Int} (q0:0<q) (q1:q≤1000000000000000) (b:Bool) (xs:List Int) (hl:xs.length<100000) (k:Nat) (hk:k<100000) (s6:Sl):∃x c',0≤x∧x<q∧bdRw (tRw c s1 q b xs (.val (.int (k:Int))) s6)=some (.nx (tRw c' s1 q b (xs++[x]) (.val (.int (k:Int))) (.val (.int q)))):=by
 have e1:(d2 kIx (dVar 2) (d2 qR (dVar 5) (dT1 kLen (za2 (dVar 2) dNil)))) (tRw c s1 q b xs (.val (.int (k:Int))) s6)=some (.cl (.int q)):=by
  have m:=zg7 (fa:=dVar 5) (fb:=dT1 kLen (za2 (dVar 2) dNil)) (t:=tRw c s1 q b xs (.val (.int (k:Int))) s6) (a:=(k:Int)) (b:=1) rfl rfl (by decide)
  have z:(k:Int).fmod 1=0:=by have:=fm (a:=(k:Int)) (b:=1) (by decide);lia
  rw [z]at m
  exact (zh7 (rfl:dVar 2 _=some (.cl (.lst [.int q]))) m).trans rfl
 have E1:=ze4 (i:=6) e1 (by simp)
 let t:Th:=tRw c s1 q b xs (.val (.int (k:Int))) (.val (.int q))
 have cc:dTr (dVar 3) t=some b:=rfl
 unfold bdRw
 cases b with
 |true =>
  refine⟨c.fmod q,c.fdiv q,(fm q0).1,(fm q0).2,(za8 E1).trans ?_⟩
  refine (zv8 cc rfl).trans ?_
  have a1:=zaq0 (i:=4) t (xs:=xs) (zg7 (fa:=dVar 0) (fb:=dVar 6) (t:=t) (a:=c) (b:=q) rfl rfl (by lia)) rfl hl
  refine (za8 a1).trans ?_
  exact ze4 (i:=0) (zp2 (fa:=dVar 0) (fb:=dVar 6) (a:=c) (b:=q) rfl rfl (by lia) (sm_of (by lia) (by lia))) (by simp [t])
 |false =>
  obtain⟨m,em,_⟩:=zar9 c k hk
  refine⟨m.fmod q,c,(fm q0).1,(fm q0).2,(za8 E1).trans ?_⟩
  refine (ifs_f cc rfl).trans ?_
  have e2:(dT1 (zc3 zd1) (za2 (dVar 0) (za2 (dVar 5) dNil))) t=some (.cl (.int m)):=(zg5 (rfl:dVar 0 t=some (.cl (.int c))) (rfl:dVar 5 t=some (.cl (.int (k:Int))))).trans (zl3 em rfl)
  exact zaq0 (i:=4) t (xs:=xs) (zg7 e2 (fb:=dVar 6) (b:=q) rfl (by lia)) rfl hl
theorem row_is (c:Int) {q:Int} (q0:0<q) (q1:q≤1000000000000000) (b:Bool) (m:Nat) (hm:m≤1000):∃xs:List Int,xs.length=m∧(∀x∈xs,0≤x∧x<q)∧zq2 [.int c,.int (m:Int),.lst [.int q],.bl b]=some (.nw (xs.map D.int)):=by
 have L:∀(l:List Nat) (xs:List Int) (c:Int) (s5 s6:Sl),(∀k∈l,k<100000)→xs.length+l.length<100000→(∀x∈xs,0≤x∧x<q)→∃(ys:List Int) (c':Int) (u5 u6:Sl),ys.length=xs.length+l.length∧(∀x∈ys,0≤x∧x<q)∧forD (za6 5) bdRw (l.map fun (k:Nat)=>D.int (k:Int)) (tRw c (.val (.int (m:Int))) q b xs s5 s6)=some (.nx (tRw c' (.val (.int (m:Int))) q b ys u5 u6)):=by
  intro l
  induction l with
  |nil=>exact fun xs c s5 s6 _ _ hx=>⟨xs,c,s5,s6,rfl,hx,rfl⟩
  |cons k l ih =>
   intro xs c s5 s6 hk hl hx
   simp only [zbm4]at hl
   obtain⟨x,c',x0,x1,e⟩:=turn_rw c (.val (.int (m:Int))) q0 q1 b xs (by lia) k (hk k (zbj7 ..)) s6
   obtain⟨ys,c2,u5,u6,yl,yr,e'⟩:=ih (xs++[x]) c' (.val (.int (k:Int))) (.val (.int q)) (fun j hj=>hk j (zbj2 _ hj)) (by simp only [zbl8,zbn8];lia) (fun y hy=>by
    rcases zbj4.mp hy with w | w
    ·exact hx y w
    ·rw [zbk6]at w;subst w;exact⟨x0,x1⟩)
   refine⟨ys,c2,u5,u6,by simp only [zbl8,zbn8]at yl;simp only [zbm4];lia,yr,?_⟩
   have e0:za6 5 (.int (k:Int)) (tRw c (.val (.int (m:Int))) q b xs s5 s6)=some (tRw c (.val (.int (m:Int))) q b xs (.val (.int (k:Int))) s6):=rfl
   simp only [zbk4,forD,e0,zbj3,e]
   exact e'
 obtain⟨ys,c',u5,u6,yl,yr,e⟩:=L (zbl9 m) [] c .no .no (fun k hk=>by have:=zbt7.mp hk;lia) (by simp;lia) (fun x hx=>by cases hx)
 refine⟨ys,by simpa using yl,yr,?_⟩
 show (zaa3 [.val (.int c),.val (.int (m:Int)),.val (.lst [.int q]),.val (.bl b),.no,.no,.no]).bind zk5=_
 have E1:dAsg 4 (dT1 kLst dNil) [.val (.int c),.val (.int (m:Int)),.val (.lst [.int q]),.val (.bl b),.no,.no,.no]=some (.nx (tRw c (.val (.int (m:Int))) q b [] .no .no)):=rfl
 have en:(zb4 m).map D.int=(zbl9 m).map fun (k:Nat)=>D.int (k:Int):=by unfold zb4;rw [zbp4];rfl
 have E2:zac0 (za6 5) (dVar 1) bdRw (tRw c (.val (.int (m:Int))) q b [] .no .no)=some (.nx (tRw c' (.val (.int (m:Int))) q b ys u5 u6)):=(zam5 (r:=.cl (.int (m:Int))) (n:=m) rfl rfl (by lia)).trans ((congrArg (fun l=>forD (za6 5) bdRw l (tRw c (.val (.int (m:Int))) q b [] .no .no)) en).trans e)
 refine bnd ?_
 refine (za8 E1).trans ?_
 refine (za8 E2).trans ?_
 rfl
end KX
set_option maxHeartbeats 1000000
namespace KX
open PySem.Spec L2 DL
theorem zas6 (a b:Nat) (h:0<b):(a:Int).fmod (b:Int)=((a % b:Nat):Int):=by
 rw [zbw0 _ (by lia)];rfl
def cfC:DT:=(dBo (d2 kNe (dVar 1) (dC (.int 0))))
theorem zbg5:∀(n a b:Nat),b<n→whD cfC cfB n [.val (.int (a:Int)),.val (.int (b:Int))]=some (.nx [.val (.int (zbn1 a b:Int)),.val (.int 0)])
 |0,a,b,h=>by lia
 |n+1,a,b,h=>by
  have ec:cfC [.val (.int (a:Int)),.val (.int (b:Int))]=some (!decide ((b:Int)=0)):=by
   simp [cfC,dBo,d2,dVar,dC,kNe,eqOk,eqD,Ev.d]
  unfold whD
  rw [ec]
  by_cases hb:b=0
  ·subst hb
   simp
  ·have hb' : ¬ ((b:Int)=0):=by lia
   rw [decide_eq_false hb']
   have eb:cfB [.val (.int (a:Int)),.val (.int (b:Int))]=some (.nx [.val (.int (b:Int)),.val (.int ((a % b:Nat):Int))]):=by
    unfold cfB dPar
    have:(za2 (dVar 1) (za2 (d2 qR (dVar 0) (dVar 1)) dNil)) [.val (.int (a:Int)),.val (.int (b:Int))]=some [.cl (.int (b:Int)),.cl (.int ((a:Int).fmod (b:Int)))]:=by
     simp [za2,dNil,d2,dVar,kI,cMod,Ev.d,hb]
    rw [this,zas6 a b (by lia)]
    rfl
   simp only [zbj3,Bool.not_false,if_true,eb]
   rw [zbg5 n b (a % b) (by have:=Nat.mod_lt a (show 0<b by lia);lia),zbz7 b, ← Nat.gcd_rec,zbz7 b]
theorem zak5 (a b:Nat):ze0 [.int (a:Int),.int (b:Int)]=some (.cl (.int (zbn1 a b:Int))):=by
 have e:=zbg5 (((b:Int).natAbs)+1) a b (by lia)
 show ((dSeq (zw5 (zao7 1) cfC cfB) (dRet (dT1 kAbs (za2 (dVar 0) dNil)))) [.val (.int (a:Int)),.val (.int (b:Int))]).bind zk5=_
 have e':(zw5 (zao7 1) cfC cfB) [.val (.int (a:Int)),.val (.int (b:Int))]=some (.nx [.val (.int (zbn1 a b:Int)),.val (.int 0)]):=e
 rw [za8 e']
 have h : ¬ ((zbn1 a b:Int)<0):=by lia
 simp [dRet,dT1,za2,dNil,dVar,kAbs,Ev.d,zk5,h]
theorem zy5 (a b:Nat):(a:Int).fdiv (b:Int)=((a / b:Nat):Int):=by
 rw [zbs9 _ (by lia)];rfl
theorem smN {a:Nat} (h:a<DL.bnd):sm (a:Int)=true:=by
 unfold sm
 rw [decide_eq_true_eq]
 exact h
theorem zao8 (s m:Nat) (h0:0<m) (h:m<DL.bnd):zn7 [.int (s:Int),.int (m:Int)]=some (.cl (.tup [.int ((s / zbn1 s m:Nat):Int),.int ((m / zbn1 s m:Nat):Int)])):=by
 have g0:0<zbn1 s m:=zbn7 _ h0
 have g1:zbn1 s m≤m:=zby8 _ h0
 have gs:sm (zbn1 s m:Int)=true:=smN (zbk1 g1 h)
 let t0:Th:=[.val (.int (s:Int)),.val (.int (m:Int)),.no]
 let t1:Th:=[.val (.int (s:Int)),.val (.int (m:Int)),.val (.int (zbn1 s m:Int))]
 have a1:(dT1 (zc3 ze0) (za2 (dVar 0) (za2 (dVar 1) dNil))) t0=some (.cl (.int (zbn1 s m:Int))):=(zg5 (rfl:dVar 0 t0=some (.cl (.int (s:Int)))) (rfl:dVar 1 t0=some (.cl (.int (m:Int))))).trans (zl3 (zak5 s m) rfl)
 have E1:=ze4 (i:=2) a1 (by simp [t0])
 have E2:(dIfS (dBo (d2 qL (dVar 1) (dC (.int 0)))) (dAsg 2 (d1 kNeg (dVar 2))) zf0) t1=some (.nx t1):=grd (zav8 (fa:=dVar 1) (fb:=dC (.int 0)) (t:=t1) (a:=(m:Int)) (b:=0) rfl rfl) (decide_eq_false (by lia))
 have d1:=zp2 (fa:=dVar 0) (fb:=dVar 2) (t:=t1) (a:=(s:Int)) (b:=(zbn1 s m:Int)) rfl rfl (by lia) gs
 have d2':=zp2 (fa:=dVar 1) (fb:=dVar 2) (t:=t1) (a:=(m:Int)) (b:=(zbn1 s m:Int)) rfl rfl (by lia) gs
 rw [zy5]at d1 d2'
 have a3:=(zg5 (k:=kTup) d1 d2').trans rfl
 show (zw2 t0).bind zk5=_
 exact bnd ((za8 E1).trans ((za8 E2).trans (zm8 a3)))
theorem zaf1 {n:Nat} (h:n≤400):n*fct n<DL.bnd∧fct n<DL.bnd:=by
 have h1:=fct_mono h
 have h2:n*fct n≤400*fct 400:=zbo0 h h1
 have h3:400*fct 400<DL.bnd:=by decide +kernel
 have h4:=zp9 400
 lia
theorem zbb2 (s0:Sl) {n:Nat} (hn:n≤400):∀(m k:Nat) (s3:Sl),k+m=n→∃u3,forD (za6 3) bdHm ((zbl9 m).map fun (i:Nat)=>D.int (1+(k:Int)+(i:Int))) [s0,.val (.int (hmT k:Int)),.val (.int (fct k:Int)),s3]=some (.nx [s0,.val (.int (hmT n:Int)),.val (.int (fct n:Int)),u3])
 |0,k,s3,h=>by
  have:k=n:=by lia
  subst this
  exact⟨s3,rfl⟩
 |m+1,k,s3,h=>by
  obtain⟨u3,i⟩:=zbb2 s0 hn m (k+1) (.val (.int (1+(k:Int)))) (by lia)
  have hk:=zaf1 (n:=k) (by lia)
  have hk1:=zaf1 (n:=k+1) (by lia)
  have hmk:sm (hmT k:Int)=true:=smN (zbk1 (hm_le k) hk.1)
  have hfk:sm (fct k:Int)=true:=smN hk.2
  have hk2:sm (1+(k:Int))=true:=sm_of (by lia) (by lia)
  let t1:Th:=[s0,.val (.int (hmT k:Int)),.val (.int (fct k:Int)),.val (.int (1+(k:Int)))]
  have m1:=zi0 (fa:=dVar 1) (fb:=dVar 3) (t:=t1) (a:=(hmT k:Int)) (b:=1+(k:Int)) rfl rfl hmk hk2
  have m2:=zi0 (fa:=dVar 2) (fb:=dVar 3) (t:=t1) (a:=(fct k:Int)) (b:=1+(k:Int)) rfl rfl hfk hk2
  have m3:=zf8 (fb:=dVar 2) (b:=(fct k:Int)) m1 rfl
  have e1:(hmT k:Int)*(1+(k:Int))+(fct k:Int)=(hmT (k+1):Int):=by
   show _=((hmT k*(k+1)+fct k:Nat):Int)
   rw [Int.natCast_add,zbn5,show ((k+1:Nat):Int)=1+(k:Int) by lia]
  have e2:(fct k:Int)*(1+(k:Int))=(fct (k+1):Int):=by
   show _=(((k+1)*fct k:Nat):Int)
   rw [zbn5,show ((k+1:Nat):Int)=1+(k:Int) by lia,zbo6]
  rw [e1]at m3
  rw [e2]at m2
  have eb:bdHm t1=some (.nx [s0,.val (.int (hmT (k+1):Int)),.val (.int (fct (k+1):Int)),.val (.int (1+(k:Int)))]):=by
   unfold bdHm dPar
   rw [cns m3 (cns m2 (rfl:dNil t1=some []))]
   rfl
  refine⟨u3,?_⟩
  rw [zbu8,zbk4,zbp4]
  have er:((fun (i:Nat)=>D.int (1+(k:Int)+(i:Int))) ∘ Nat.succ)=fun (i:Nat)=>D.int (1+((k+1:Nat):Int)+(i:Int)):=by
   funext i
   show D.int (1+(k:Int)+((i+1:Nat):Int))=D.int (1+((k+1:Nat):Int)+(i:Int))
   congr 1
   lia
  rw [er]
  have e0:D.int (1+(k:Int)+((0:Nat):Int))=D.int (1+(k:Int)):=by congr 1
  rw [e0]
  exact (zk6 (t1:=t1) rfl eb).trans i
theorem zao6 {n:Nat} (hn:n≤400):zn6 [.int (n:Int)]=some (.cl (.tup [.int (hA n:Int),.int (hB n:Int)])):=by
 let t0:Th:=[.val (.int (n:Int)),.no,.no,.no]
 obtain⟨u3,e⟩:=zbb2 (.val (.int (n:Int))) hn n 0 .no (by lia)
 have E1:zac1 (zr0 2 (ze6 (za6 1) (ze6 (za6 2) zr1))) (dT1 kTup (za2 (dC (.int 0)) (za2 (dC (.int 1)) dNil))) t0=some (.nx [.val (.int (n:Int)),.val (.int 0),.val (.int 1),.no]):=rfl
 have ad:=zf8 (fa:=dVar 0) (fb:=dC (.int 1)) (t:=[.val (.int (n:Int)),.val (.int 0),.val (.int 1),.no]) (a:=(n:Int)) (b:=1) rfl rfl
 have E2:zak0 (za6 3) (dC (.int 1)) (d2 qA (dVar 0) (dC (.int 1))) bdHm [.val (.int (n:Int)),.val (.int 0),.val (.int 1),.no]=some (.nx [.val (.int (n:Int)),.val (.int (hmT n:Int)),.val (.int (fct n:Int)),u3]):=by
  have er:rngD 1 n=(zbl9 n).map fun (i:Nat)=>D.int (1+((0:Nat):Int)+(i:Int)):=by
   unfold rngD
   refine zbs0 fun i _=>?_
   rw [Int.ofNat_zero,Int.add_zero]
  refine (zaq8 (k:=n) (rfl:dC (.int 1) _=some (.cl (.int 1))) ad (by lia) (by rw [zbj5];unfold bigI;constructor <;>(simp;try lia))).trans ?_
  rw [er]
  exact e
 have fb:=zaf1 hn
 have a3:=zao8 (hmT n) (fct n) (zp9 n) fb.2
 have E3:dRet (dT1 (zc3 zn7) (za2 (dVar 1) (za2 (dVar 2) dNil))) [.val (.int (n:Int)),.val (.int (hmT n:Int)),.val (.int (fct n:Int)),u3]=some (.rt (.cl (.tup [.int (hA n:Int),.int (hB n:Int)]))):=zm8 ((zg5 (rfl:dVar 1 _=some (.cl (.int (hmT n:Int)))) (rfl:dVar 2 _=some (.cl (.int (fct n:Int))))).trans (zl3 a3 rfl))
 show (zw1 t0).bind zk5=_
 exact bnd ((za8 E1).trans ((za8 E2).trans E3))
def zal3 (M:Nat) (ss:List (List Int)):Prop := ∀s∈ss,∃p:Int→Bool,s=(zb4 M).filter p
theorem zq1 (ns:List Int) (hl:ns.length≤63) (k:Nat) (hk:k<100000):∃c:Int,zc3 zf3 [.cl (.lst (ns.map D.int)),.cl (.int (k:Int))]=some (.cl (.int c)):=by
 obtain⟨c,e⟩:=cell_ok ns hl k hk
 exact⟨c,zl3 (G:=zf3) (rs:=[.cl (.lst (ns.map D.int)),.cl (.int (k:Int))]) e rfl⟩
theorem zn1 (c:Int) (k:Nat) (hk:k<100000):∃m:Int,0≤m∧zc3 zd1 [.cl (.int c),.cl (.int (k:Int))]=some (.cl (.int m)):=by
 obtain⟨m,e,h⟩:=zar9 c k hk
 exact⟨m,h,zl3 (G:=zd1) (rs:=[.cl (.int c),.cl (.int (k:Int))]) e rfl⟩
theorem zbg1 (c:Int):∀(xs:List Int) (i:Nat) (s0 s1:Sl),(∀x∈xs,0≤x∧x<2)→i+xs.length≤1000→∃ys:List Int,ys.length=xs.length∧zh8 (zr0 2 (ze6 (za6 0) (ze6 (za6 1) zr1))) zc7 feBt (zu5 i (xs.map D.int)) [s0,s1,.val (.int c)]=some (ys.map D.int)
 |[],i,s0,s1,_,_=>⟨[],rfl,rfl⟩
 |x::xs,i,s0,s1,hx,hi=>by
  have h0:=hx x (by simp)
  obtain⟨ys,yl,e⟩:=zbg1 c xs (i+1) (.val (.int (i:Int))) (.val (.int x)) (fun y hy=>hx y (zbj2 _ hy)) (by rw [zbm4]at hi;lia)
  let t1:Th:=[.val (.int (i:Int)),.val (.int x),.val (.int c)]
  obtain⟨m,_,em⟩:=zn1 c (91+i) (by rw [zbm4]at hi;lia)
  have a1:=zf8 (fa:=dC (.int 91)) (fb:=dVar 0) (t:=t1) (a:=91) (b:=(i:Int)) rfl rfl
  rw [show (91:Int)+(i:Int)=((91+i:Nat):Int) by lia]at a1
  have a2:=zg7 (fb:=dC (.int 3)) (b:=3) ((zg5 (rfl:dVar 2 t1=some (.cl (.int c))) a1).trans em) rfl (by decide)
  have a3:=zbd6 (zaj6 (fb:=dC (.int 0)) (b:=0) a2 rfl)
  have a4:feBt t1=some (.cl (.int (x*(if decide (m.fmod 3=0) then 1 else 0)))):=zi0 (fa:=dVar 1) (t:=t1) (a:=x) rfl a3 (sm_of (by lia) (by lia)) (by split<;>exact sm_of (by lia) (by lia))
  refine⟨(x*(if decide (m.fmod 3=0) then 1 else 0))::ys,by simp [yl],?_⟩
  have e0:(zr0 2 (ze6 (za6 0) (ze6 (za6 1) zr1))) (.tup [.int (i:Int),.int x]) [s0,s1,.val (.int c)]=some t1:=rfl
  have e:zh8 (zr0 2 (ze6 (za6 0) (ze6 (za6 1) zr1))) zc7 feBt (zu5 (i+1) (xs.map D.int)) t1=some (ys.map D.int):=e
  simp only [zbk4,zu5,zh8,e0,zbj3,zc7,if_true,a4,e]
  rfl
theorem turn_St (ns:List Int) (hl:ns.length≤63) {M:Nat} (hM:M≤400) (b:Bool) (s3:Sl) {ss:List (List Int)} (hs:zal3 M ss) (hn:ss.length<1000) (k:Nat) (hk:k<1000) (s7 s8:Sl) :
  ∃ss' u7 u8,ss'.length=ss.length+1∧zal3 M ss'∧bdSt [.val (.lst (ns.map D.int)),.val (.int 1),.val (.int (M:Int)),s3,.val (.bl b),.own (ss.map rwD),.val (.int (k:Int)),s7,s8]=some (.nx [.val (.lst (ns.map D.int)),.val (.int 1),.val (.int (M:Int)),s3,.val (.bl b),.own (ss'.map rwD),.val (.int (k:Int)),u7,u8]):=by
 let N:Sl:=.val (.lst (ns.map D.int))
 let t0:Th:=[N,.val (.int 1),.val (.int (M:Int)),s3,.val (.bl b),.own (ss.map rwD),.val (.int (k:Int)),s7,s8]
 obtain⟨c,ec⟩:=zq1 ns hl (1+1+k) (by lia)
 have a1:=zf8 (fb:=dVar 6) (b:=(k:Int)) (zf8 (fa:=dVar 1) (fb:=dC (.int 1)) (t:=t0) (a:=1) (b:=1) rfl rfl) rfl
 rw [show (1:Int)+1+(k:Int)=((1+1+k:Nat):Int) by lia]at a1
 have E1:=ze4 (i:=7) ((zg5 (rfl:dVar 0 t0=some (.cl (.lst (ns.map D.int)))) a1).trans ec) (by simp [t0])
 let t1:Th:=[N,.val (.int 1),.val (.int (M:Int)),s3,.val (.bl b),.own (ss.map rwD),.val (.int (k:Int)),.val (.int c),s8]
 obtain⟨xs,xl,xb,ex⟩:=row_is c (q:=2) (by decide) (by decide) b M (by lia)
 have a2:=(zu8 (rfl:dVar 7 t1=some (.cl (.int c))) (rfl:dVar 2 t1=some (.cl (.int (M:Int)))) (rfl:(dT1 kLst (za2 (dC (.int 2)) dNil)) t1=some (.nw [.int 2])) (rfl:dVar 4 t1=some (.cl (.bl b)))).trans (calln (G:=zq2) (rs:=[.cl (.int c),.cl (.int (M:Int)),.nw [.int 2],.cl (.bl b)]) ex)
 have E2:=zm2 (i:=8) a2 (by simp [t1])
 let t2:Th:=[N,.val (.int 1),.val (.int (M:Int)),s3,.val (.bl b),.own (ss.map rwD),.val (.int (k:Int)),.val (.int c),.own (xs.map D.int)]
 obtain⟨m,_,em⟩:=zn1 c 90 (by decide)
 have c3:=zas9 (fb:=dC (.int 0)) (b:=0) (zg7 (fb:=dC (.int 3)) (b:=3) ((zg5 (rfl:dVar 7 t2=some (.cl (.int c))) (rfl:dC (.int 90) t2=some (.cl (.int ((90:Nat):Int))))).trans em) rfl (by decide)) rfl
 have c4:=and_of2 (not_of (zr4 (rfl:dVar 4 t2=some (.cl (.bl b))))) c3
 obtain⟨ys,yl,E3⟩:∃ys:List Int,ys.length=M∧dIfS (dAnd (dNot (dTr (dVar 4))) (dBo (d2 kEq (d2 qR (dT1 (zc3 zd1) (za2 (dVar 7) (za2 (dC (.int 90)) dNil))) (dC (.int 3))) (dC (.int 0))))) (dAsg 8 (ze3 2 [7] (fsE (dVar 8)) (zr0 2 (ze6 (za6 0) (ze6 (za6 1) zr1))) zc7 feBt)) zf0 t2=some (.nx [N,.val (.int 1),.val (.int (M:Int)),s3,.val (.bl b),.own (ss.map rwD),.val (.int (k:Int)),.val (.int c),.own (ys.map D.int)]):=by
  cases hz:(!b&&decide (m.fmod 3=0)) with
  |false =>
   rw [hz]at c4
   exact⟨xs,xl,grd c4 rfl⟩
  |true =>
   rw [hz]at c4
   obtain⟨ys,yl,e⟩:=zbg1 c xs 0 .no .no xb (by lia)
   refine⟨ys,by lia,(zv8 c4 rfl).trans (zm2 (i:=8) (t:=t2) ?_ (by simp [t2]))⟩
   unfold ze3
   have e1:fsE (dVar 8) t2=some (false,zu5 0 (xs.map D.int)):=rfl
   have e2:capD t2 [7]=some (true,[.int c]):=rfl
   rw [e1,e2]
   simp only [zbj3]
   rw [if_pos (by rw [zu4,zbl5];lia)]
   show (zh8 (zr0 2 (ze6 (za6 0) (ze6 (za6 1) zr1))) zc7 feBt (zu5 0 (xs.map D.int)) [.no,.no,.val (.int c)]).bind _=_
   rw [e]
   simp only [zbj3,zd5,zbs4,if_true]
 let t3:Th:=[N,.val (.int 1),.val (.int (M:Int)),s3,.val (.bl b),.own (ss.map rwD),.val (.int (k:Int)),.val (.int c),.own (ys.map D.int)]
 have a5:(ze3 1 [8] (fsR1 (dVar 2)) (za6 0) (dBo (d2 kEq (d2 kIx (dVar 1) (dVar 0)) (dC (.int 1)))) (dVar 0)) t3=some (.nw (((zb4 M).filter fun x=>decide (ys.getD x.toNat 0=1)).map D.int)) :=
  zaj9 (p:=fun x=>decide (ys.getD x.toNat 0=1)) (g:=D.int) (n:=M) (r:=.cl (.int (M:Int))) (b:=false) (c:=[.lst (ys.map D.int)]) rfl rfl rfl (by lia)
   (fun x hx=>by
    obtain⟨x0,x1⟩:=ze9 hx
    exact zas9 (fb:=dC (.int 1)) (b:=1) (zad0 (fa:=dVar 1) (fb:=dVar 0) (t:=[.val (.int x),.val (.lst (ys.map D.int))]) (r1:=.cl (.lst (ys.map D.int))) (r2:=.cl (.int x)) ys x.toNat rfl rfl (by lia) rfl (by show D.int x=D.int _;rw [zbr9 x0])) rfl)
   (fun x _ _=>⟨.cl (.int x),rfl,rfl⟩) (.inl (zd5 _))
 have E4:=app_nw (i:=5) (t:=t3) (xs:=ss.map rwD) a5 rfl (by rw [zbl5];lia)
 refine⟨ss++[(zb4 M).filter fun x=>decide (ys.getD x.toNat 0=1)],.val (.int c),.own (ys.map D.int),by simp,fun s h=>?_,(za8 E1).trans ((za8 E2).trans ((za8 E3).trans (E4.trans ?_)))⟩
 ·rcases zbj4.mp h with z | z
  ·exact hs s z
  ·rw [zbk6.mp z]
   exact⟨_,rfl⟩
 ·rw [zbp8]
  rfl
theorem zbb3 (ns:List Int) (hl:ns.length≤63) {M:Nat} (hM:M≤400) (b:Bool) (s3:Sl):∀(n k:Nat) (ss:List (List Int)) (s6 s7 s8:Sl),zal3 M ss→ss.length+n<1000→k+n≤1000 →
  ∃ss' u6 u7 u8,ss'.length=ss.length+n∧zal3 M ss'∧forD (za6 6) bdSt ((zbl9 n).map fun (i:Nat)=>D.int ((k+i:Nat):Int)) [.val (.lst (ns.map D.int)),.val (.int 1),.val (.int (M:Int)),s3,.val (.bl b),.own (ss.map rwD),s6,s7,s8]=some (.nx [.val (.lst (ns.map D.int)),.val (.int 1),.val (.int (M:Int)),s3,.val (.bl b),.own (ss'.map rwD),u6,u7,u8])
 |0,k,ss,s6,s7,s8,h,_,_=>⟨ss,s6,s7,s8,rfl,h,rfl⟩
 |n+1,k,ss,s6,s7,s8,h,h1,h2=>by
  obtain⟨s1,u7,u8,l1,o1,e⟩:=turn_St ns hl hM b s3 h (by lia) k (by lia) s7 s8
  obtain⟨s2,v6,v7,v8,l2,o2,i⟩:=zbb3 ns hl hM b s3 n (k+1) s1 (.val (.int (k:Int))) u7 u8 o1 (by lia) (by lia)
  refine⟨s2,v6,v7,v8,by lia,o2,?_⟩
  rw [zbu8,zbk4,zbp4]
  have er:((fun (i:Nat)=>D.int ((k+i:Nat):Int)) ∘ Nat.succ)=fun (i:Nat)=>D.int ((k+1+i:Nat):Int):=by
   funext i
   show D.int ((k+(i+1):Nat):Int)=D.int ((k+1+i:Nat):Int)
   rw [show k+(i+1)=k+1+i by lia]
  rw [er]
  exact (zk6 (t1:=[.val (.lst (ns.map D.int)),.val (.int 1),.val (.int (M:Int)),s3,.val (.bl b),.own (ss.map rwD),.val (.int (k:Int)),s7,s8]) rfl e).trans i
theorem sets_is (ns:List Int) (hl:ns.length≤63) {M:Nat} (hM:M≤400) {n:Nat} (hn:n≤100):∃ss:List (List Int),ss.length=n∧zal3 M ss∧zl5 [.lst (ns.map D.int),.int 1,.int (M:Int),.int (n:Int)]=some (.nw (ss.map rwD)):=by
 let t0:Th:=[.val (.lst (ns.map D.int)),.val (.int 1),.val (.int (M:Int)),.val (.int (n:Int)),.no,.no,.no,.no,.no]
 obtain⟨c,ec⟩:=zq1 ns hl 1 (by decide)
 have a1:=zaj6 (fb:=dC (.int 1)) (b:=1) (zg7 (fb:=dC (.int 2)) (b:=2) ((zg5 (rfl:dVar 0 t0=some (.cl (.lst (ns.map D.int)))) (rfl:dVar 1 t0=some (.cl (.int ((1:Nat):Int))))).trans ec) rfl (by decide)) rfl
 have E1:=ze4 (i:=4) a1 (by simp [t0])
 let b:=decide (c.fmod 2=1)
 let t2:Th:=[.val (.lst (ns.map D.int)),.val (.int 1),.val (.int (M:Int)),.val (.int (n:Int)),.val (.bl b),.own (([]:List (List Int)).map rwD),.no,.no,.no]
 have E2:dAsg 5 (dT1 kLst dNil) [.val (.lst (ns.map D.int)),.val (.int 1),.val (.int (M:Int)),.val (.int (n:Int)),.val (.bl b),.no,.no,.no,.no]=some (.nx t2):=rfl
 obtain⟨ss,u6,u7,u8,l,o,e⟩:=zbb3 ns hl hM b (.val (.int (n:Int))) n 0 [] .no .no .no (fun s hs=>nomatch hs) (by simp;lia) (by lia)
 have E3:zac0 (za6 6) (dVar 3) bdSt t2=some (.nx [.val (.lst (ns.map D.int)),.val (.int 1),.val (.int (M:Int)),.val (.int (n:Int)),.val (.bl b),.own (ss.map rwD),u6,u7,u8]):=(zam5 (n:=n) (f:=dVar 3) (t:=t2) (r:=.cl (.int (n:Int))) rfl rfl (by lia)).trans ((congrArg (fun l=>forD (za6 6) bdSt l t2) (show (zb4 n).map D.int=(zbl9 n).map fun (i:Nat)=>D.int ((0+i:Nat):Int) by simp [zb4,Function.comp_def])).trans e)
 refine⟨ss,by simpa using l,o,?_⟩
 show (zv9 t0).bind zk5=_
 exact bnd ((za8 E1).trans ((za8 E2).trans ((za8 E3).trans rfl)))
theorem zaj0 {M:Nat} (hM:M≤1000) {ss:List (List Int)} (hs:∀s∈ss,∀x∈s,0≤x∧x<(M:Int)) {ch:List Int} (hc:ch.length≤1000):zm0 [.int (M:Int),mD ss,.lst (ch.map D.int)]=some (.cl (.bl (isCh M ss ch))):=by
 let t0:Th:=[.val (.int (M:Int)),.val (mD ss),.val (.lst (ch.map D.int))]
 have a1:(ze3 1 [1] (fsL (dVar 2)) (za6 0) zc7 (dChV qE qL (dC (.int 0)) (dVar 0) (dT1 kLen (za2 (dVar 1) dNil)))) t0=some (.nw ((ch.map fun c=>decide (0≤c)&&decide (c<(ss.length:Int))).map D.bl)):=by
  have:=zu6 (e:=D.int) (p:=fun _=>true) (g:=fun c=>D.bl (decide (0≤c)&&decide (c<(ss.length:Int)))) (ft:=zc7) (fe:=(dChV qE qL (dC (.int 0)) (dVar 0) (dT1 kLen (za2 (dVar 1) dNil)))) (t:=t0) (f:=dVar 2) (r:=.cl (.lst (ch.map D.int))) (xs:=ch) (cap:=[1]) (b:=true) (c:=[mD ss]) rfl rfl rfl (by lia) (fun _ _=>rfl)
   (fun x _ _=>⟨_,chv_of (fa:=dC (.int 0)) (fb:=dVar 0) (a:=0) (b:=x) rfl rfl (zaa0 (f:=dVar 1) (r:=.cl (mD ss)) rfl rfl),rfl⟩) (.inr rfl)
  rw [this,zbn2.mpr fun _ _=>rfl]
  simp [Function.comp_def]
 have a2:=allB_of a1
 show (zs1 t0).bind zk5=_
 unfold isCh
 by_cases h:(ch.map fun c=>decide (0≤c)&&decide (c<(ss.length:Int))).all id=true
 ·rw [h]at a2 ⊢
  have E1:dIfS (dNot (dTr (dT1 qU (za2 (ze3 1 [1] (fsL (dVar 2)) (za6 0) zc7 (dChV qE qL (dC (.int 0)) (dVar 0) (dT1 kLen (za2 (dVar 1) dNil)))) dNil)))) (dRet (dC (.bl false))) zf0 t0=some (.nx t0):=grd (not_of (zr4 a2)) rfl
  have hr:∀n∈ch,0≤n∧n<(ss.length:Int):=fun n hn=>by
   have:=all_id.mp h n hn
   simpa using this
  have b1:=zaj6 (lens_of (f:=dVar 2) (t:=t0) (r:=.cl (.lst (ch.map D.int))) (xs:=ch) rfl rfl (by lia)) (zr3 (f:=dVar 2) (t:=t0) (r:=.cl (.lst (ch.map D.int))) (xs:=ch) rfl rfl)
  have b2:=(zau0 (rfl:dVar 0 t0=some (.cl (.int (M:Int)))) (rfl:dVar 1 t0=some (.cl (mD ss))) (rfl:dVar 2 t0=some (.cl (.lst (ch.map D.int))))).trans (calln (G:=zc4) (rs:=[.cl (.int (M:Int)),.cl (mD ss),.cl (.lst (ch.map D.int))]) (zac8 hM hs hr))
  have b3:(d1 zao4 (dT1 (zc3 zc4) (za2 (dVar 0) (za2 (dVar 1) (za2 (dVar 2) dNil))))) t0=some (.cl (.bl ((zb4 M).filter fun x=>decide (x∉hads ss ch)).isEmpty)):=by
   unfold d1
   rw [b2]
   show some (Ev.cl (.bl (!!(((zb4 M).filter fun x=>decide (x∉hads ss ch)).map D.int).isEmpty)))=_
   rw [zcd4,List.isEmpty_map]
  have e0:decide (((ddp ch).length:Int)=(ch.length:Int))=decide ((ddp ch).length=ch.length):=decide_eq_decide.mpr (by lia)
  rw [e0]at b1
  have b4:(zbf9 (d2 kEq (dT1 zv7 (za2 (dVar 2) dNil)) (dT1 kLen (za2 (dVar 2) dNil))) (d1 zao4 (dT1 (zc3 zc4) (za2 (dVar 0) (za2 (dVar 1) (za2 (dVar 2) dNil)))))) t0=some (.cl (.bl (decide ((ddp ch).length=ch.length)&&((zb4 M).filter fun x=>decide (x∉hads ss ch)).isEmpty))):=by
   unfold zbf9
   rw [b1]
   cases decide ((ddp ch).length=ch.length) with
   |false=>rfl
   |true =>
    show (d1 zao4 (dT1 (zc3 zc4) (za2 (dVar 0) (za2 (dVar 1) (za2 (dVar 2) dNil))))) t0=_
    rw [b3]
    rfl
  exact bnd ((za8 E1).trans (zm8 b4))
 ·have h:(ch.map fun c=>decide (0≤c)&&decide (c<(ss.length:Int))).all id=false:=by simpa using h
  rw [h]at a2 ⊢
  exact bnd (seq_rt (zaf0 (not_of (zr4 a2)) rfl))
theorem ix_q {fa:DE}{t:Th}{q:Int×Nat} (h:fa t=some (.cl (qD q))):(d2 kIx fa (dC (.int 0))) t=some (.cl (.int q.1))∧(d2 kIx fa (dC (.int 1))) t=some (.cl (.int (q.2:Int))):=⟨(zh7 h (rfl:dC (.int 0) t=some (.cl (.int 0)))).trans rfl,(zh7 h (rfl:dC (.int 1) t=some (.cl (.int 1)))).trans rfl⟩
theorem loop_B (s0:Sl):∀(qs:List (Int×Nat)) (L:Nat) (s2:Sl),0<L→(∀q∈qs,1≤q.2∧q.2≤1000)→L*1000 ^ qs.length≤1000 ^ 200→∃u2,forD (za6 2) bdB (qs.map qD) [s0,.val (.int (L:Int)),s2]=some (.nx [s0,.val (.int (lcQ qs L:Int)),u2])
 |[],L,s2,_,_,_=>⟨s2,rfl⟩
 |q::qs,L,s2,h,hb,hl=>by
  have b:=hb q (by simp)
  have p1:1≤1000 ^ qs.length:=zcf1 (by decide)
  have hl':L*1000*1000 ^ qs.length≤1000 ^ 200:=by
   rw [zbm4,zbu4,zbt6 (1000 ^ qs.length), ← zbp9]at hl
   exact hl
  have lf:=lcF_le L q.2
  have lf2:lcF L q.2≤L*1000:=zbk3 lf (zbs1 _ b.2)
  obtain⟨u2,i⟩:=loop_B s0 qs (lcF L q.2) (.val (qD q)) (zbc6 h b.1) (fun x hx=>hb x (zbj2 _ hx)) (zbk3 (zbn3 _ lf2) hl')
  have LB:L≤1000 ^ 200:=zbk3 (zbk3 (zbo5 _ (by decide:0<1000)) (zbo5 _ p1)) hl'
  have bd:∀n:Nat,n≤1000 ^ 200→sm (n:Int)=true:=fun n hn=>smN (zbk1 (zbk3 hn zv3) (zbk1 (zbm3 _ (by decide)) zag0))
  let t1:Th:=[s0,.val (.int (L:Int)),.val (qD q)]
  obtain⟨x0,x1⟩:=ix_q (fa:=dVar 2) (t:=t1) (q:=q) rfl
  have g0:0<zbn1 L q.2:=zbx9 _ h
  have cf:=(zg5 (rfl:dVar 1 t1=some (.cl (.int (L:Int)))) x1).trans (zl3 (G:=ze0) (rs:=[.cl (.int (L:Int)),.cl (.int (q.2:Int))]) (zak5 L q.2) rfl)
  have gl:zbn1 L q.2≤L:=Nat.gcd_le_left _ h
  have d1:=zp2 (fa:=dVar 1) (t:=t1) (a:=(L:Int)) rfl cf (by lia) (bd _ (zbk3 gl LB))
  rw [zy5]at d1
  have m1:=zi0 d1 x1 (bd _ (zbk3 (zbr7 _ _) LB)) (sm_of (by lia) (by lia))
  rw [← zbn5]at m1
  have eb:bdB t1=some (.nx [s0,.val (.int (lcF L q.2:Int)),.val (qD q)]):=ze4 (i:=1) m1 (by simp [t1])
  refine⟨u2,?_⟩
  rw [zbk4]
  exact (zk6 (t1:=t1) rfl eb).trans i
theorem over_is {qs:List (Int×Nat)} (h:Shs qs):zd7 [.lst (qs.map qD)]=some (.cl (.tup [.lst ((tps qs).map D.int),.int (lcL qs:Int)])):=by
 let t0:Th:=[.val (.lst (qs.map qD)),.no,.no]
 have E1:dAsg 1 (dC (.int 1)) t0=some (.nx [.val (.lst (qs.map qD)),.val (.int ((1:Nat):Int)),.no]):=rfl
 obtain⟨u2,e⟩:=loop_B (.val (.lst (qs.map qD))) qs 1 .no zbv3 h.bt (by rw [zbv5];exact zbm9 (by decide) h.len)
 have E2:dFor (za6 2) (dVar 0) bdB [.val (.lst (qs.map qD)),.val (.int ((1:Nat):Int)),.no]=some (.nx [.val (.lst (qs.map qD)),.val (.int (lcL qs:Int)),u2]):=(zaa7 (r:=.cl (.lst (qs.map qD))) rfl rfl rfl).trans e
 let t2:Th:=[.val (.lst (qs.map qD)),.val (.int (lcL qs:Int)),u2]
 have a3:(ze3 1 [1] (fsL (dVar 0)) (za6 0) zc7 (d2 qM (d2 kIx (dVar 0) (dC (.int 0))) (d2 qV (dVar 1) (d2 kIx (dVar 0) (dC (.int 1)))))) t2=some (.nw ((tps qs).map D.int)):=by
  have:=zu6 (e:=qD) (p:=fun _=>true) (g:=fun q=>D.int (q.1*((lcL qs / q.2:Nat):Int))) (ft:=zc7) (fe:=(d2 qM (d2 kIx (dVar 0) (dC (.int 0))) (d2 qV (dVar 1) (d2 kIx (dVar 0) (dC (.int 1)))))) (t:=t2) (f:=dVar 0) (r:=.cl (.lst (qs.map qD))) (xs:=qs) (cap:=[1]) (b:=true) (c:=[.int (lcL qs:Int)]) rfl rfl rfl (by have:=h.len;lia) (fun _ _=>rfl)
   (fun q hq _=>by
    have b:=h.bt q hq
    have tp:=h.tp q hq
    obtain⟨x0,x1⟩:=ix_q (fa:=dVar 0) (t:=[.val (qD q),.val (.int (lcL qs:Int))]) (q:=q) rfl
    have d1:=zp2 (fa:=dVar 1) (t:=[.val (qD q),.val (.int (lcL qs:Int))]) (a:=(lcL qs:Int)) rfl x1 (by lia) (sm_of (by lia) (by lia))
    rw [zy5]at d1
    exact⟨_,zi0 x0 d1 (sm_of (by lia) (by lia)) (smN (zbk1 (zbk3 (zbk3 (zbr7 _ _) (zbc5 h)) zv3) (zbk1 (zbm3 _ (by decide)) zag0))),rfl⟩) (.inr rfl)
  rw [this,zbn2.mpr fun _ _=>rfl]
  simp [tps,Function.comp_def]
 have a4:=(zg5 (k:=kTup) a3 (rfl:dVar 1 t2=some (.cl (.int (lcL qs:Int))))).trans rfl
 show (zj8 t0).bind zk5=_
 exact bnd ((za8 E1).trans ((za8 E2).trans (zm8 a4)))
theorem turn_Py (s0 s4:Sl) {T:List Int} (hT:∀x∈T,x.natAbs≤bigT) {L:Nat} (hL:L≤bigT) {s:List Int} (hs:∀x∈s,0≤x∧x<(T.length:Int)) (hl:s.length≤400):∃u4,bdPy [s0,.val (.lst (T.map D.int)),.val (.int (L:Int)),.val (rwD s),s4]=some (if payS T L s then .nx [s0,.val (.lst (T.map D.int)),.val (.int (L:Int)),.val (rwD s),u4] else .rt (.cl (.bl false))):=by
 let t0:Th:=[s0,.val (.lst (T.map D.int)),.val (.int (L:Int)),.val (rwD s),s4]
 have a1:=(zj7 (zr3 (f:=dVar 3) (t:=t0) (r:=.cl (rwD s)) (xs:=s) rfl rfl)).trans (zl3 (G:=zn6) (rs:=[.cl (.int (s.length:Int))]) (zao6 hl) rfl)
 have E1:=ze4 (i:=4) a1 (by simp [t0])
 let u4:Sl:=.val (.tup [.int (hA s.length:Int),.int (hB s.length:Int)])
 let t1:Th:=[s0,.val (.lst (T.map D.int)),.val (.int (L:Int)),.val (rwD s),u4]
 have a2:(ze3 1 [1] (fsL (dVar 3)) (za6 0) zc7 (d2 kIx (dVar 1) (dVar 0))) t1=some (.nw ((s.map fun x=>T.getD x.toNat 0).map D.int)):=by
  have:=zu6 (e:=D.int) (p:=fun _=>true) (g:=fun x=>D.int (T.getD x.toNat 0)) (ft:=zc7) (fe:=d2 kIx (dVar 1) (dVar 0)) (t:=t1) (f:=dVar 3) (r:=.cl (rwD s)) (xs:=s) (cap:=[1]) (b:=true) (c:=[.lst (T.map D.int)]) rfl rfl rfl (by lia) (fun _ _=>rfl)
   (fun x hx _=>⟨_,zad0 (fa:=dVar 1) (fb:=dVar 0) (r1:=.cl (.lst (T.map D.int))) (r2:=.cl (.int x)) T x.toNat rfl rfl (by have:=hs x hx;lia) rfl (by show D.int x=D.int _;rw [zbr9 (hs x hx).1]),rfl⟩) (.inr rfl)
  rw [this,zbn2.mpr fun _ _=>rfl]
  simp [Function.comp_def]
 have a3:=sum_of a2 rfl
 have bb:=zag0
 have fb:=zaf1 hl
 have sA:sm (hA s.length:Int)=true:=smN (zbk1 (zbk3 (zbr7 _ _) (hm_le _)) fb.1)
 have sB:sm (hB s.length:Int)=true:=smN (zbk1 (zbr7 _ _) fb.2)
 have gT:∀x∈s.map fun x=>T.getD x.toNat 0,x.natAbs≤bigT:=fun y hy=>by
  obtain⟨x,hx,rfl⟩:=zbm5.mp hy
  have:=hs x hx
  refine hT _ ?_
  rw [zbk5,zbj6 (by lia)]
  exact zbq4 _
 have sS:sm (sumS T s)=true:=by
  refine smA ?_
  have:=zay0 gT
  rw [zbl5]at this
  exact zbk1 (zbk3 this (zbn3 _ (by lia:s.length≤1000))) bb
 have sL:sm (L:Int)=true:=smN (zbk1 (zbk3 hL (zbm3 _ (by decide))) bb)
 have m1:=zi0 a3 ((zh7 (k:=kIx) (rfl:dVar 4 t1=some (.cl (.tup [.int (hA s.length:Int),.int (hB s.length:Int)]))) (rfl:dC (.int 1) t1=some (.cl (.int 1)))).trans (rfl:_=some (Ev.cl (.int (hB s.length:Int))))) sS sB
 have m2:=zi0 ((zh7 (k:=kIx) (rfl:dVar 4 t1=some (.cl (.tup [.int (hA s.length:Int),.int (hB s.length:Int)]))) (rfl:dC (.int 0) t1=some (.cl (.int 0)))).trans (rfl:_=some (Ev.cl (.int (hA s.length:Int))))) (rfl:dVar 2 t1=some (.cl (.int (L:Int)))) sA sL
 have g:=zaw5 m1 m2
 refine⟨u4,(za8 E1).trans ?_⟩
 have g:dBo _ t1=some (!payS T L s):=g.trans (by unfold payS;rw [zcd4];rfl)
 cases hp:payS T L s with
 |true =>
  rw [hp]at g
  exact grd g rfl
 |false =>
  rw [hp]at g
  exact zaf0 g rfl
theorem zbb5 (s0:Sl) {T:List Int} (hT:∀x∈T,x.natAbs≤bigT) {L:Nat} (hL:L≤bigT):∀(ss:List (List Int)) (s3 s4:Sl),(∀s∈ss,(∀x∈s,0≤x∧x<(T.length:Int))∧s.length≤400)→∃u3 u4,forD (za6 3) bdPy (ss.map rwD) [s0,.val (.lst (T.map D.int)),.val (.int (L:Int)),s3,s4]=some (if ss.all (payS T L) then .nx [s0,.val (.lst (T.map D.int)),.val (.int (L:Int)),u3,u4] else .rt (.cl (.bl false)))
 |[],s3,s4,_=>⟨s3,s4,rfl⟩
 |s::ss,s3,s4,h=>by
  have hs:=h s (by simp)
  obtain⟨u4,e⟩:=turn_Py s0 s4 hT hL hs.1 hs.2
  obtain⟨v3,v4,i⟩:=zbb5 s0 hT hL ss (.val (rwD s)) u4 fun x hx=>h x (zbj2 _ hx)
  refine⟨v3,v4,?_⟩
  rw [zbk4,zbn4]
  cases hp:payS T L s with
  |true =>
   rw [hp]at e
   exact (zk6 (t1:=[s0,.val (.lst (T.map D.int)),.val (.int (L:Int)),.val (rwD s),s4]) rfl e).trans i
  |false =>
   rw [hp]at e
   exact zao9 (t1:=[s0,.val (.lst (T.map D.int)),.val (.int (L:Int)),.val (rwD s),s4]) rfl e
theorem zav1 {T:List Int} (hT:∀x∈T,x.natAbs≤bigT) {L:Nat} (hL:L≤bigT) {ss:List (List Int)} (h:∀s∈ss,(∀x∈s,0≤x∧x<(T.length:Int))∧s.length≤400):zj5 [mD ss,.lst (T.map D.int),.int (L:Int)]=some (.cl (.bl (ss.all (payS T L)))):=by
 let t0:Th:=[.val (mD ss),.val (.lst (T.map D.int)),.val (.int (L:Int)),.no,.no]
 obtain⟨u3,u4,e⟩:=zbb5 (.val (mD ss)) hT hL ss .no .no h
 have E1:dFor (za6 3) (dVar 0) bdPy t0=_:=(zaa7 (r:=.cl (mD ss)) rfl rfl rfl).trans e
 show (zo9 t0).bind zk5=_
 cases hp:ss.all (payS T L) with
 |true =>
  rw [hp]at E1
  exact bnd ((za8 E1).trans rfl)
 |false =>
  rw [hp]at E1
  exact bnd (seq_rt E1)
theorem lets_is {M:Nat} (hM:M≤400) {ss:List (List Int)} (nd:∀s∈ss,s.Nodup) (hs:∀s∈ss,∀x∈s,0≤x∧x<(M:Int)) {ch:List Int} (hc:ch.length≤1000) {qs:List (Int×Nat)} (hq:Shs qs):zb9 [.int (M:Int),mD ss,.lst (ch.map D.int),.lst (qs.map qD)]=some (.cl (.bl (zr9 M ss ch qs))):=by
 let t0:Th:=[.val (.int (M:Int)),.val (mD ss),.val (.lst (ch.map D.int)),.val (.lst (qs.map qD)),.no,.no]
 have c1:=not_of (zr4 ((zau0 (rfl:dVar 0 t0=some (.cl (.int (M:Int)))) (rfl:dVar 1 t0=some (.cl (mD ss))) (rfl:dVar 2 t0=some (.cl (.lst (ch.map D.int))))).trans (zl3 (G:=zm0) (rs:=[.cl (.int (M:Int)),.cl (mD ss),.cl (.lst (ch.map D.int))]) (zaj0 (by lia) hs hc) rfl)))
 have l3:(dT1 kLen (za2 (dVar 3) dNil)) t0=some (.cl (.int (qs.length:Int))):=by
  rw [zj7 (rfl:dVar 3 t0=some (.cl (.lst (qs.map qD))))]
  show some (Ev.cl (.int ((qs.map qD).length:Int)))=_
  rw [zbl5]
 have c2:=zba8 l3 (rfl:dVar 0 t0=some (.cl (.int (M:Int))))
 have c3:=zz6 c1 c2
 have e0:decide ((qs.length:Int)=(M:Int))=decide (qs.length=M):=decide_eq_decide.mpr (by lia)
 rw [e0]at c3
 show (zo5 t0).bind zk5=_
 unfold zr9
 by_cases h1:(isCh M ss ch&&decide (qs.length=M))=true
 ·rw [h1]
  have h1':=h1
  simp only [zbj5,decide_eq_true_eq]at h1'
  have E1:=grd (g:=dRet (dC (.bl false))) c3 (by rw [h1'.1,decide_eq_true h1'.2];rfl)
  have a2:=(zj7 (rfl:dVar 3 t0=some (.cl (.lst (qs.map qD))))).trans (show zc3 zd7 [.cl (.lst (qs.map qD))]=some (.cl (.tup [.lst ((tps qs).map D.int),.int (lcL qs:Int)])) by
   unfold zc3
   rw [show zd7 ([Ev.cl (.lst (qs.map qD))].map Ev.d)=_ from over_is hq]
   rfl)
  let t2:Th:=[.val (.int (M:Int)),.val (mD ss),.val (.lst (ch.map D.int)),.val (.lst (qs.map qD)),.val (.lst ((tps qs).map D.int)),.val (.int (lcL qs:Int))]
  have E2:zac1 (zr0 2 (ze6 (za6 4) (ze6 (za6 5) zr1))) (dT1 (zc3 zd7) (za2 (dVar 3) dNil)) t0=some (.nx t2):=by
   unfold zac1
   rw [a2]
   rfl
  have tl:(tps qs).length=M:=by simp [tps,h1'.2]
  have a3:(ze3 1 [] (fsL (dVar 4)) (za6 0) zc7 (d2 qL (dVar 0) (dC (.int 0)))) t2=some (.nw (((tps qs).map fun x=>decide (x<0)).map D.bl)):=by
   have:=zu6 (e:=D.int) (p:=fun _=>true) (g:=fun x=>D.bl (decide (x<0))) (ft:=zc7) (fe:=(d2 qL (dVar 0) (dC (.int 0)))) (t:=t2) (f:=dVar 4) (r:=.cl (.lst ((tps qs).map D.int))) (xs:=tps qs) (cap:=[]) (b:=true) (c:=[]) rfl rfl rfl (by lia) (fun _ _=>rfl)
    (fun x _ _=>⟨_,(zh7 (rfl:dVar 0 _=some (.cl (.int x))) (rfl:dC (.int 0) _=some (.cl (.int 0)))).trans rfl,rfl⟩) (.inr rfl)
   rw [this,zbn2.mpr fun _ _=>rfl]
   simp [Function.comp_def]
  have c4:=zr4 (anyB_of a3)
  have LB:lcL qs≤bigT:=zbk3 (zbc5 hq) zv3
  have m1:=zi0 (zr3 (f:=dVar 2) (t:=t2) (r:=.cl (.lst (ch.map D.int))) (xs:=ch) rfl rfl) (rfl:dVar 5 t2=some (.cl (.int (lcL qs:Int)))) (sm_of (by lia) (by lia)) (smN (zbk1 (zbk3 LB (zbm3 _ (by decide))) zag0))
  have c5:=zba8 (sum_of (f:=dVar 4) (t:=t2) (r:=.cl (.lst ((tps qs).map D.int))) (xs:=tps qs) rfl rfl) m1
  have c6:=zz6 c4 c5
  by_cases h2:(!((tps qs).map fun x=>decide (x<0)).any id&&decide ((tps qs).sum=(ch.length:Int)*(lcL qs:Int)))=true
  ·have h2':=h2
   simp only [zbj5,decide_eq_true_eq,zbv1]at h2'
   rw [zbz0,h2'.1,decide_eq_true h2'.2]
   have E3:=grd (g:=dRet (dC (.bl false))) c6 (by rw [h2'.1,decide_eq_true h2'.2];rfl)
   have a5:=(zau0 (rfl:dVar 1 t2=some (.cl (mD ss))) (rfl:dVar 4 t2=some (.cl (.lst ((tps qs).map D.int)))) (rfl:dVar 5 t2=some (.cl (.int (lcL qs:Int))))).trans (zl3 (G:=zj5) (rs:=[.cl (mD ss),.cl (.lst ((tps qs).map D.int)),.cl (.int (lcL qs:Int))]) (zav1 (tps_le hq) LB fun s hs'=>⟨fun x hx=>by rw [tl];exact hs s hs' x hx,zbk3 (AllK.len ⟨nd s hs',hs s hs'⟩) hM⟩) rfl)
   exact bnd ((za8 E1).trans ((za8 E2).trans ((za8 E3).trans (zm8 a5))))
  ·have h2:(!((tps qs).map fun x=>decide (x<0)).any id&&decide ((tps qs).sum=(ch.length:Int)*(lcL qs:Int)))=false:=by simpa using h2
   rw [zbz0,h2,zbs6]
   have E3:=zaf0 (g:=zf0) (d:=.bl false) c6 (by
    rw [zbz2]at h2
    rcases h2 with z | z
    ·rw [Bool.not_eq_false']at z;rw [z];rfl
    ·rw [z];simp)
   exact bnd ((za8 E1).trans ((za8 E2).trans (seq_rt E3)))
 ·have h1:(isCh M ss ch&&decide (qs.length=M))=false:=by simpa using h1
  rw [h1,zbs6,zbs6,zbs6]
  have E1:=zaf0 (g:=zf0) (d:=.bl false) c3 (by
   rw [zbz2]at h1
   rcases h1 with z | z
   ·rw [z];rfl
   ·rw [z];simp)
  exact bnd (seq_rt E1)
def lowQ (a:Int) (b:Nat):Int×Nat:=(a / (zbn1 a.natAbs b:Int),b / zbn1 a.natAbs b)
theorem zv5 (a:Int) {b:Nat} (h:0<b):1≤(lowQ a b).2∧(lowQ a b).2≤b∧(lowQ a b).1.natAbs≤a.natAbs∧(lowQ a b).1*(b:Int)=a*((lowQ a b).2:Int):=by
 have g0:0<zbn1 a.natAbs b:=zbn7 _ h
 obtain⟨k,hk⟩:=zbt3 a.natAbs b
 have d1:(zbn1 a.natAbs b:Int) ∣ a:=zca8.mpr (zbt9 _ _)
 obtain⟨c,hc⟩:=d1
 have e1:(lowQ a b).1=c:=by
  show a / (zbn1 a.natAbs b:Int)=c
  conv=>lhs;lhs;rw [hc]
  exact Int.mul_ediv_cancel_left _ (by lia)
 have e2:(lowQ a b).2=k:=by
  show b / zbn1 a.natAbs b=k
  conv=>lhs;lhs;rw [hk]
  exact Nat.mul_div_cancel_left _ g0
 have k0:0<k:=zca9 fun z=>by rw [z,Nat.mul_zero]at hk;lia
 refine⟨by lia,?_,?_,?_⟩
 ·show b / zbn1 a.natAbs b≤b
  exact zbr7 _ _
 ·rw [e1]
  have:a.natAbs=zbn1 a.natAbs b*c.natAbs:=by
   conv=>lhs;rw [hc]
   rw [zbu0,zbq1]
  rw [this]
  exact zbm3 _ g0
 ·rw [e1,e2]
  conv=>lhs;rw [hk]
  conv=>rhs;rw [hc]
  rw [zbn5, ← zbn9,zbo6 c]
theorem zbb6 (s0 s1:Sl):∀(n a b:Nat),b<n→whD cdLw bdLw n [s0,s1,.val (.int (a:Int)),.val (.int (b:Int))]=some (.nx [s0,s1,.val (.int (zbn1 a b:Int)),.val (.int 0)])
 |0,a,b,h=>by lia
 |n+1,a,b,h=>by
  have ec:cdLw [s0,s1,.val (.int (a:Int)),.val (.int (b:Int))]=some (decide ((0:Int)<(b:Int))):=zaw5 (fa:=dVar 3) (fb:=dC (.int 0)) rfl rfl
  unfold whD
  rw [ec]
  by_cases hb:b=0
  ·subst hb
   simp
  ·rw [decide_eq_true (by lia)]
   have m:=zg7 (fa:=dVar 2) (fb:=dVar 3) (t:=[s0,s1,.val (.int (a:Int)),.val (.int (b:Int))]) (a:=(a:Int)) (b:=(b:Int)) rfl rfl (by lia)
   rw [zas6 a b (by lia)]at m
   have eb:bdLw [s0,s1,.val (.int (a:Int)),.val (.int (b:Int))]=some (.nx [s0,s1,.val (.int (b:Int)),.val (.int ((a % b:Nat):Int))]):=by
    unfold bdLw dPar
    rw [cns (rfl:dVar 3 [s0,s1,.val (.int (a:Int)),.val (.int (b:Int))]=some (.cl (.int (b:Int)))) (cns m (rfl:dNil _=some []))]
    rfl
   simp only [zbj3,if_true,eb]
   rw [zbb6 s0 s1 n b (a % b) (by have:=Nat.mod_lt a (show 0<b by lia);lia),zbz7 b, ← Nat.gcd_rec,zbz7 b]
theorem zas0 (a:Int) {b:Nat} (h:0<b) (hb:b<DL.bnd):zf6 [.int a,.int (b:Int)]=some (.cl (qD (lowQ a b))):=by
 let t0:Th:=[.val (.int a),.val (.int (b:Int)),.no,.no]
 have a1:=abs_of (f:=dVar 0) (t:=t0) (v:=a) rfl
 rw [show (if a<0 then -a else a)=(a.natAbs:Int) by split<;>lia]at a1
 have E1:=ze4 (i:=2) a1 (by simp [t0])
 let t1:Th:=[.val (.int a),.val (.int (b:Int)),.val (.int (a.natAbs:Int)),.no]
 have E2:dAsg 3 (dVar 1) t1=some (.nx [.val (.int a),.val (.int (b:Int)),.val (.int (a.natAbs:Int)),.val (.int (b:Int))]):=rfl
 have e3:=zbb6 (.val (.int a)) (.val (.int (b:Int))) (((b:Int).natAbs)+1) a.natAbs b (by lia)
 have E3:zw5 (zao7 3) cdLw bdLw [.val (.int a),.val (.int (b:Int)),.val (.int (a.natAbs:Int)),.val (.int (b:Int))]=some (.nx [.val (.int a),.val (.int (b:Int)),.val (.int (zbn1 a.natAbs b:Int)),.val (.int 0)]):=e3
 have g0:0<zbn1 a.natAbs b:=zbn7 _ h
 have gs:sm (zbn1 a.natAbs b:Int)=true:=smN (zbk1 (zby8 _ h) hb)
 let t3:Th:=[.val (.int a),.val (.int (b:Int)),.val (.int (zbn1 a.natAbs b:Int)),.val (.int 0)]
 have d1:=zp2 (fa:=dVar 0) (fb:=dVar 2) (t:=t3) (a:=a) (b:=(zbn1 a.natAbs b:Int)) rfl rfl (by lia) gs
 have d2':=zp2 (fa:=dVar 1) (fb:=dVar 2) (t:=t3) (a:=(b:Int)) (b:=(zbn1 a.natAbs b:Int)) rfl rfl (by lia) gs
 rw [zy5]at d2'
 rw [zbs9 _ (by lia)]at d1
 have a4:=(zg5 (k:=kTup) d1 d2').trans (rfl:_=some (Ev.cl (qD (lowQ a b))))
 show (zaa4 t0).bind zk5=_
 exact bnd ((za8 E1).trans ((za8 E2).trans ((za8 E3).trans (zm8 a4))))
def addQ (p q:Int×Nat):Int×Nat:=lowQ (p.1*(q.2:Int)+q.1*(p.2:Int)) (p.2*q.2)
structure QB (A B:Nat) (q:Int×Nat):Prop where
 b1:1≤q.2
 b2:q.2≤B
 a1:q.1.natAbs≤A
theorem QB.le {A B A' B':Nat}{q:Int×Nat} (h:QB A B q) (ha:A≤A') (hb:B≤B'):QB A' B' q:=⟨h.b1,zbk3 h.b2 hb,zbk3 h.a1 ha⟩
theorem zag3 {A B A' B':Nat}{p q:Int×Nat} (hp:QB A B p) (hq:QB A' B' q):QB (A*B' + A'*B) (B*B') (addQ p q):=by
 have hpos:0<p.2*q.2:=zbu3 hp.b1 hq.b1
 obtain⟨l1,l2,l3,_⟩:=zv5 (p.1*(q.2:Int)+q.1*(p.2:Int)) hpos
 refine⟨l1,zbk3 l2 (zbo0 hp.b2 hq.b2),zbk3 l3 (zbk3 (zcc0 _ _) ?_)⟩
 rw [zbu0,zbu0,zbq1,zbq1]
 exact zca3 (zbo0 hp.a1 hq.b2) (zbo0 hq.a1 hp.b2)
theorem add_is {A B A' B':Nat}{p q:Int×Nat} (hp:QB A B p) (hq:QB A' B' q) (h1:A<DL.bnd) (h2:A' < DL.bnd) (h3:B<DL.bnd) (h4:B' < DL.bnd) (h5:B*B' < DL.bnd):zh2 [qD p,qD q]=some (.cl (qD (addQ p q))):=by
 let t0:Th:=[.val (qD p),.val (qD q)]
 obtain⟨p0,p1⟩:=ix_q (fa:=dVar 0) (t:=t0) (q:=p) rfl
 obtain⟨q0,q1⟩:=ix_q (fa:=dVar 1) (t:=t0) (q:=q) rfl
 have sp:=smA (zbk1 hp.a1 h1)
 have sq:=smA (zbk1 hq.a1 h2)
 have bp:=smN (zbk1 hp.b2 h3)
 have bq:=smN (zbk1 hq.b2 h4)
 have m1:=zi0 p0 q1 sp bq
 have m2:=zi0 q0 p1 sq bp
 have m3:=zi0 p1 q1 bp bq
 have m4:=zf8 m1 m2
 rw [← zbn5]at m3
 have lo:=zas0 (p.1*(q.2:Int)+q.1*(p.2:Int)) (zbu3 hp.b1 hq.b1) (zbk1 (zbo0 hp.b2 hq.b2) h5)
 have e:=(zg5 m4 m3).trans (zl3 (G:=zf6) (rs:=[.cl (.int (p.1*(q.2:Int)+q.1*(p.2:Int))),.cl (.int ((p.2*q.2:Nat):Int))]) lo rfl)
 show (zaa6 t0).bind zk5=_
 exact bnd (zm8 e)
theorem add_s {p q:Int×Nat} (hp:QB 1000000000000 1000000000000 p) (hq:QB 1000000000000 1000000000000 q):zh2 [qD p,qD q]=some (.cl (qD (addQ p q))):=add_is hp hq (by decide +kernel) (by decide +kernel) (by decide +kernel) (by decide +kernel) (by decide +kernel)
theorem far_is (r:Int) {n:Nat} (h:0<n) (hn:n≤1000):∃v:Int,zn5 [.int r,.int (n:Int)]=some (.cl (.int v)):=by
 let t0:Th:=[.val (.int r),.val (.int (n:Int))]
 have w1:=zg7 (fb:=dVar 1) (b:=(n:Int)) (zp2 (fa:=dVar 0) (fb:=dC (.int 6)) (t:=t0) (a:=r) (b:=6) rfl rfl (by decide) (sm_of (by lia) (by lia))) rfl (by lia)
 have s1:=zag6 (fa:=dC (.int 0)) (fb:=dVar 1) (t:=t0) (a:=0) (b:=(n:Int)) rfl rfl
 let L:List Int:=[-1,(n:Int), -2,0 - (n:Int),1000000000000,(r.fdiv 6).fmod (n:Int)]
 have l1:(dT1 kLst (za2 (d1 kNeg (dC (.int 1))) (za2 (dVar 1) (za2 (d1 kNeg (dC (.int 2))) (za2 (d2 qS (dC (.int 0)) (dVar 1)) (za2 (d2 qP (dC (.int 10)) (dC (.int 12))) (za2 (d2 qR (d2 qV (dVar 0) (dC (.int 6))) (dVar 1)) dNil))))))) t0=some (.nw (L.map D.int)):=(tk1 (cns (rfl:(d1 kNeg (dC (.int 1))) t0=some (.cl (.int (-1)))) (cns (rfl:dVar 1 t0=some (.cl (.int (n:Int)))) (cns (rfl:(d1 kNeg (dC (.int 2))) t0=some (.cl (.int (-2)))) (cns s1 (cns (pow12 t0) (cns w1 (rfl:dNil t0=some [])))))))).trans rfl
 have i1:=zg7 (fa:=dVar 0) (fb:=dC (.int 6)) (t:=t0) (a:=r) (b:=6) rfl rfl (by decide)
 have fp:=fm (a:=r) (b:=6) (by decide)
 obtain⟨k,hk⟩:∃k:Nat,r.fmod 6=(k:Int):=⟨(r.fmod 6).toNat,by lia⟩
 rw [hk]at i1
 have i2:=zad0 (r1:=.nw (L.map D.int)) (r2:=.cl (.int (k:Int))) L k l1 i1 (by show k<6;lia) rfl rfl
 exact⟨_,bnd (g:=zaa5 t0) (zm8 i2)⟩
theorem zu2:∀qs:List (Int×Nat),flats (qs.map qD)=true
 |[]=>rfl
 |q::qs=>by
  show (flat (qD q)&&flats (qs.map qD))=true
  rw [zu2 qs]
  rfl
noncomputable def tPp (M:Nat) (ss:List (List Int)) (c:Int) (ch:List Int) (qs:List (Int×Nat)) (w r:Int) (s7 s8:Sl):Th:=[.val (.int (M:Int)),.val (mD ss),.val (.int c),.own (ch.map D.int),.own (qs.map qD),.val (.int w),.val (.int r),s7,s8]
theorem zal8 {t:Th}{fk fv:DE}{i:Nat}{qs:List (Int×Nat)}{b:Nat}{q:Int×Nat} (hv:fv t=some (.cl (qD q))) (hk:fk t=some (.cl (.int (b:Int)))) (hi:t[i]?=some (.own (qs.map qD))) (hb:b<qs.length):zap1 i fk fv t=some (.nx (t.set i (.own ((qs.set b q).map qD)))):=by
 unfold zap1
 rw [hv,hk]
 show zbd1 t i (.cl (qD q)) (.cl (.int (b:Int)))=_
 unfold zbd1
 rw [hi]
 show (ixN (qs.map qD).length (b:Int)).map _=_
 rw [zai8 _ b (by simpa using hb),List.map_set]
 rfl
theorem zbd3 {t:Th}{fa fb:DE}{r1:Ev}{qs:List (Int×Nat)}{b:Nat}{q:Int×Nat} (ha:fa t=some r1) (h1:r1.d=.lst (qs.map qD)) (hk:fb t=some (.cl (.int (b:Int)))) (hb:qs[b]?=some q):(d2 kIx fa fb) t=some (.cl (qD q)):=by
 rw [zh7 ha hk]
 unfold kIx
 rw [h1]
 have hl:b<qs.length:=by
  refine Classical.byContradiction fun z=>?_
  rw [zbv2 (by lia)]at hb
  cases hb
 have e:atI (qs.map qD) (b:Int)=some (qD q):=by
  unfold atI
  rw [zai8 _ b (by simpa using hl)]
  simp [hb]
 show (atI (qs.map qD) (b:Int)).map _=_
 rw [e]
 show some (if (r1.ok||flat (qD q))=true then Ev.cl (qD q) else Ev.tm (qD q))=_
 have:flat (qD q)=true:=rfl
 rw [this,zbs4]
 rfl
def QAll (A B:Nat) (qs:List (Int×Nat)):Prop := ∀q∈qs,QB A B q
theorem QAll.set {A B:Nat}{qs:List (Int×Nat)} (h:QAll A B qs) {q:Int×Nat} (hq:QB A B q) (i:Nat):QAll A B (qs.set i q):=fun x hx=>by
 rcases List.mem_or_eq_of_mem_set hx with z | z
 ·exact h x z
 ·rw [z];exact hq
theorem QAll.le {A B A' B':Nat}{qs:List (Int×Nat)} (h:QAll A B qs) (ha:A≤A') (hb:B≤B'):QAll A' B' qs:=fun q hq=>(h q hq).le ha hb
theorem modN (a:Int) {m:Nat} (h:0<m):∃k:Nat,a.fmod (m:Int)=(k:Int)∧k<m:=by
 have:=fm (a:=a) (b:=(m:Int)) (by lia)
 exact⟨(a.fmod (m:Int)).toNat,by lia,by lia⟩
theorem eqW (w k:Int) {M:Nat}{ss:List (List Int)}{c:Int}{ch:List Int}{qs:List (Int×Nat)}{r:Int}{s7 s8:Sl}:dBo (d2 kEq (dVar 5) (dC (.int k))) (tPp M ss c ch qs w r s7 s8)=some (decide (w=k)):=zas9 (fa:=dVar 5) (fb:=dC (.int k)) rfl rfl
section
variable {M:Nat}{ss:List (List Int)}{c:Int}{w r:Int}
theorem blk1 {ch:List Int}{qs:List (Int×Nat)}{s7 s8:Sl} (hc:ch.length≤1000):∃ch',ch'.length=ch.length∧bk1 (tPp M ss c ch qs w r s7 s8)=some (.nx (tPp M ss c ch' qs w r s7 s8)):=by
 cases h:decide (w=1) with
 |false=>exact⟨ch,rfl,grd' ((eqW w 1).trans (by rw [h]))⟩
 |true =>
  have a:(dT1 zy2 (za2 (dVar 3) dNil)) (tPp M ss c ch qs w r s7 s8)=some (.nw (ch.reverse.map D.int)):=by
   rw [zj7 (rfl:dVar 3 _=some (.tm (.lst (ch.map D.int))))]
   show (if ((Ev.tm (.lst (ch.map D.int))).ok||flats (ch.map D.int))&&decide ((ch.map D.int).length≤50000) then some (Ev.nw (ch.map D.int).reverse) else none)=_
   rw [zd5,zbs4,decide_eq_true (by rw [zbl5];lia),if_pos (by rfl),List.map_reverse]
  exact⟨ch.reverse,by simp,(zv8 ((eqW w 1).trans (by rw [h])) rfl).trans (zm2 (i:=3) a (by simp [tPp]))⟩
theorem blk2 (hs:ss.length≤100) {ch:List Int}{qs:List (Int×Nat)}{s7 s8:Sl} (hc:ch.length≤400):∃ch',ch'.length≤400∧bk2 (tPp M ss c ch qs w r s7 s8)=some (.nx (tPp M ss c ch' qs w r s7 s8)):=by
 have t:=zz6 (eqW w 2 (M:=M) (ss:=ss) (c:=c) (ch:=ch) (qs:=qs) (r:=r) (s7:=s7) (s8:=s8)) (eqW w 3)
 cases h:(decide (w=2)||decide (w=3)) with
 |false=>exact⟨ch,hc,grd' (t.trans (by rw [h]))⟩
 |true =>
  have a:=zaj9 (p:=fun x=>decide (Builtin.bitAnd (r / 2 ^ x.toNat) 1=1)) (g:=D.int) (ft:=(dBo (d2 kEq (d2 (kI tt2 fun i j=>.int (Builtin.bitAnd i j)) (d2 (kI cShr fun i j=>.int (i / 2 ^ j.toNat)) (dVar 1) (dVar 0)) (dC (.int 1))) (dC (.int 1))))) (fe:=dVar 0) (t:=tPp M ss c ch qs w r s7 s8) (cap:=[6]) (n:=ss.length) (b:=true) (c:=[.int r]) (zaa0 (f:=dVar 1) (r:=.cl (mD ss)) rfl rfl) rfl rfl (by lia)
   (fun x hx=>by
    obtain⟨x0,_⟩:=ze9 hx
    let t1:Th:=[.val (.int x),.val (.int r)]
    have e1:(d2 (kI cShr fun i j=>.int (i / 2 ^ j.toNat)) (dVar 1) (dVar 0)) t1=some (.cl (.int (r / 2 ^ x.toNat))):=by
     rw [zh7 (rfl:dVar 1 t1=some (.cl (.int r))) (rfl:dVar 0 t1=some (.cl (.int x)))]
     (try unfold qA);(try unfold qS);(try unfold qM);(try unfold qV);(try unfold qR);(try unfold qL);(try unfold qE);(try unfold qG);(try unfold qP);unfold kI
     show (if cShr r x then _ else _)=_
     rw [if_pos (by unfold cShr;rw [decide_eq_true_eq];exact x0)]
    exact zas9 ((zh7 e1 (rfl:dC (.int 1) t1=some (.cl (.int 1)))).trans (rfl:_=some (Ev.cl (.int (Builtin.bitAnd (r / 2 ^ x.toNat) 1))))) (rfl:dC (.int 1) t1=some (.cl (.int 1)))) (fun x _ _=>⟨.cl (.int x),rfl,rfl⟩) (.inl (zd5 _))
  refine⟨_,?_,(zv8 (t.trans (by rw [h])) rfl).trans (zm2 (i:=3) a (by simp [tPp]))⟩
  have:=zbq9 (fun x:Int=>decide (Builtin.bitAnd (r / 2 ^ x.toNat) 1=1)) (zb4 ss.length)
  have e:(zb4 ss.length).length=ss.length:=by simp [zb4]
  lia
theorem zay5 {d:D}:∀n:Nat,(zbj8 n [d]).flatten=zbj8 n d
 |0=>rfl
 |n+1=>by rw [zbp3,zbt2,zay5 n];rfl
theorem zr5 {fa fb:DE}{t:Th}{d:D}{m:Nat} (h1:fa t=some (.nw [d])) (h2:fb t=some (.cl (.int (m:Int)))) (hm:m≤900):(d2 qM fa fb) t=some (.nw (zbj8 m d)):=by
 rw [zh7 h1 h2]
 show (if ([d].length≤100&&decide (-1000000≤(m:Int)∧(m:Int)≤1000)) then some (Ev.nw (zbj8 ((m:Int)).toNat [d]).flatten) else none)=_
 rw [if_pos (by rw [zbj5,decide_eq_true_eq,decide_eq_true_eq];exact⟨by show 1≤100;decide,by lia,by lia⟩),zbu9,zay5]
theorem blk3 (m0:0<M) (hM:M≤20) {ch:List Int}{qs:List (Int×Nat)}{s7 s8:Sl} (hc:ch.length≤400) (hl:qs.length=M) (hq:QAll 1000 20 qs):∃qs',qs'.length=M∧QAll 1000 20 qs'∧bk3 (tPp M ss c ch qs w r s7 s8)=some (.nx (tPp M ss c ch qs' w r s7 s8)):=by
 cases h:decide (w=3) with
 |false=>exact⟨qs,hl,hq,grd' ((eqW w 3).trans (by rw [h]))⟩
 |true =>
  have lo:=zas0 (ch.length:Int) m0 (zbk1 hM (by decide +kernel))
  have ok:=zv5 (ch.length:Int) m0
  have a1:=(zg5 (zr3 (f:=dVar 3) (t:=tPp M ss c ch qs w r s7 s8) (r:=.tm (.lst (ch.map D.int))) (xs:=ch) rfl rfl) (rfl:dVar 0 _=some (.cl (.int (M:Int))))).trans (zl3 (G:=zf6) (rs:=[.cl (.int (ch.length:Int)),.cl (.int (M:Int))]) lo rfl)
  have a2:(dT1 kLst (za2 (dT1 (zc3 zf6) (za2 (dT1 kLen (za2 (dVar 3) dNil)) (za2 (dVar 0) dNil))) dNil)) (tPp M ss c ch qs w r s7 s8)=some (.nw [qD (lowQ (ch.length:Int) M)]):=(zj7 a1).trans rfl
  have a3:=zr5 (fb:=dVar 0) (m:=M) a2 rfl (by lia)
  refine⟨zbj8 M (lowQ (ch.length:Int) M),by simp,fun q hq'=>?_,(zv8 ((eqW w 3).trans (by rw [h])) rfl).trans ((zm2 (i:=4) a3 (by simp [tPp])).trans ?_)⟩
  ·rw [zbo3 hq']
   refine⟨ok.1,zbk3 ok.2.1 hM,zbk3 ok.2.2.1 ?_⟩
   rw [zbq1]
   lia
  ·unfold tPp
   rw [zbo7]
   rfl
theorem cat_ii {fa fb:DE}{t:Th}{r1 r2:Ev}{xs ys:List D} (h1:fa t=some r1) (h2:fb t=some r2) (e1:r1.d=.lst xs) (e2:r2.d=.lst ys) (f1:flats xs=true) (f2:flats ys=true) (hl:xs.length+ys.length≤100000):(d2 qA fa fb) t=some (.nw (xs++ys)):=by
 rw [zh7 h1 h2]
 (try unfold qA);(try unfold qM);unfold kOr
 have z:kI tt2 (fun i j=>D.int (i+j)) r1 r2=none:=by (try unfold qA);(try unfold qS);(try unfold qM);(try unfold qV);(try unfold qR);(try unfold qL);(try unfold qE);(try unfold qG);(try unfold qP);unfold kI;rw [e1,e2]
 rw [z]
 show kCat r1 r2=_
 unfold kCat
 rw [e1,e2]
 show (if (r1.ok||flats xs)&&(r2.ok||flats ys)&&decide (xs.length+ys.length≤100000) then some (Ev.nw (xs++ys)) else none)=_
 rw [f1,f2,zbs4,zbs4,decide_eq_true hl,if_pos (by rfl)]
theorem blk4 (hs0:0<ss.length) (hs:ss.length≤100) {ch:List Int}{qs:List (Int×Nat)}{s7 s8:Sl} (hc:ch.length≤400):∃ch',ch'.length≤500∧bk4 (tPp M ss c ch qs w r s7 s8)=some (.nx (tPp M ss c ch' qs w r s7 s8)):=by
 cases h:decide (w=4) with
 |false=>exact⟨ch,by lia,grd' ((eqW w 4).trans (by rw [h]))⟩
 |true =>
  let t:=tPp M ss c ch qs w r s7 s8
  obtain⟨v,ev⟩:=far_is r hs0 (by lia)
  have a1:=(zg5 (rfl:dVar 6 t=some (.cl (.int r))) (zaa0 (f:=dVar 1) (t:=t) (r:=.cl (mD ss)) rfl rfl)).trans (zl3 (G:=zn5) (rs:=[.cl (.int r),.cl (.int (ss.length:Int))]) ev rfl)
  have a2:(dT1 kLst (za2 (dT1 (zc3 zn5) (za2 (dVar 6) (za2 (dT1 kLen (za2 (dVar 1) dNil)) dNil))) dNil)) t=some (.nw [.int v]):=(zj7 a1).trans rfl
  obtain⟨k,hk,kl⟩:=modN (r.fdiv 64) (m:=2) (by decide)
  have d:=zg7 (fb:=dC (.int 2)) (b:=2) (zp2 (fa:=dVar 6) (fb:=dC (.int 64)) (t:=t) (a:=r) (b:=64) rfl rfl (by decide) (sm_of (by lia) (by lia))) rfl (by decide)
  rw [show ((2:Int))=((2:Nat):Int) from rfl,hk]at d
  have d':=zf8 (fa:=dC (.int 1)) (a:=1) rfl d
  rw [show (1:Int)+(k:Int)=((1+k:Nat):Int) by lia]at d'
  have a3:=zr5 a2 d' (by lia)
  have a4:=cat_ii (fa:=dVar 3) (t:=t) (r1:=.tm (.lst (ch.map D.int))) rfl a3 rfl rfl (zd5 _) (by rw [show zbj8 (1+k) (D.int v)=(zbj8 (1+k) v).map D.int by simp];exact zd5 _) (by rw [zbl5,zbn0];lia)
  rw [show ch.map D.int++zbj8 (1+k) (D.int v)=(ch++zbj8 (1+k) v).map D.int by simp]at a4
  exact⟨_,by simp;lia,(zv8 ((eqW w 4).trans (by rw [h])) rfl).trans (zm2 (i:=3) a4 (by simp [t,tPp]))⟩
theorem zbe5 {t:Th}{r:Int}{k:Int}{m:Nat} (h:dVar 6 t=some (.cl (.int r))) (k0:0<k) (k1:k≤1000) (m0:0<m) {fk:DE} (hk:fk t=some (.cl (.int k))):∃j:Nat,j<m∧(d2 qR (d2 qV (dVar 6) fk) (dC (.int (m:Int)))) t=some (.cl (.int (j:Int))):=by
 obtain⟨j,hj,jl⟩:=modN (r.fdiv k) m0
 refine⟨j,jl,?_⟩
 rw [← hj]
 exact zg7 (fb:=dC (.int (m:Int))) (b:=(m:Int)) (zp2 h hk (by lia) (sm_of (by lia) (by lia))) rfl (by lia)
theorem at_of {t:Th}{r:Int}{M:Nat} (m0:0<M) (h:dVar 6 t=some (.cl (.int r))) (h0:dVar 0 t=some (.cl (.int (M:Int)))):∃a:Nat,a<M∧(d2 qR (dVar 6) (dVar 0)) t=some (.cl (.int (a:Int))):=by
 obtain⟨j,hj,jl⟩:=modN r m0
 refine⟨j,jl,?_⟩
 rw [← hj]
 exact zg7 h h0 (by lia)
theorem blk5 (m0:0<M) (hM:M≤20) {ch:List Int}{qs:List (Int×Nat)}{s7 s8:Sl} (hl:qs.length=M) (hq:QAll 1000 20 qs):∃qs' u7,qs'.length=M∧QAll 1000 20 qs'∧bk5 (tPp M ss c ch qs w r s7 s8)=some (.nx (tPp M ss c ch qs' w r u7 s8)):=by
 cases h:decide (w=5) with
 |false=>exact⟨qs,s7,hl,hq,grd' ((eqW w 5).trans (by rw [h]))⟩
 |true =>
  obtain⟨a,al,ea⟩:=at_of (t:=tPp M ss c ch qs w r s7 s8) (r:=r) m0 rfl rfl
  have E1:=ze4 (i:=7) ea (by simp [tPp])
  let t:=tPp M ss c ch qs w r (.val (.int (a:Int))) s8
  obtain⟨j,jl,ej⟩:=zbe5 (t:=t) (r:=r) (k:=(M:Int)) (m:=9) rfl (by lia) (by lia) (by decide) (fk:=dVar 0) rfl
  obtain⟨j2,jl2,ej2⟩:=zbe5 (t:=t) (r:=r) (k:=16) (m:=6) rfl (by lia) (by lia) (by decide) (fk:=dC (.int 16)) rfl
  have b1:=zag6 (fb:=dC (.int 2)) (b:=2) ej rfl
  have b2:=zf8 (fa:=dC (.int 1)) (a:=1) rfl ej2
  rw [show (1:Int)+(j2:Int)=((1+j2:Nat):Int) by lia]at b2
  have lo:=zas0 ((j:Int) - 2) (b:=1+j2) (by lia) (zbk1 (show 1+j2≤20 by lia) (by decide +kernel))
  have ok:=zv5 ((j:Int) - 2) (b:=1+j2) (by lia)
  have a3:fx5 t=some (.cl (qD (lowQ ((j:Int) - 2) (1+j2)))):=(zg5 b1 b2).trans (zl3 (G:=zf6) (rs:=[.cl (.int ((j:Int) - 2)),.cl (.int ((1+j2:Nat):Int))]) lo rfl)
  have E2:=zal8 (i:=4) (t:=t) (fk:=dVar 7) (qs:=qs) (b:=a) a3 rfl rfl (by lia)
  exact⟨qs.set a (lowQ ((j:Int) - 2) (1+j2)),.val (.int (a:Int)),by simp [hl],hq.set ⟨ok.1,by lia,by lia⟩ a,(zv8 ((eqW w 5).trans (by rw [h])) rfl).trans ((za8 E1).trans E2)⟩
theorem blk6 (m0:0<M) (hM:M≤20) {ch:List Int}{qs:List (Int×Nat)}{s7 s8:Sl} (hl:qs.length=M) (hq:QAll 1000 20 qs):∃qs' u7 u8,qs'.length=M∧QAll 1000000 1000 qs'∧bk6 (tPp M ss c ch qs w r s7 s8)=some (.nx (tPp M ss c ch qs' w r u7 u8)):=by
 cases h:decide (w=6) with
 |false=>exact⟨qs,s7,s8,hl,hq.le (by decide) (by decide),grd' ((eqW w 6).trans (by rw [h]))⟩
 |true =>
  obtain⟨a,al,ea⟩:=at_of (t:=tPp M ss c ch qs w r s7 s8) (r:=r) m0 rfl rfl
  have E1:=ze4 (i:=7) ea (by simp [tPp])
  let A:Sl:=.val (.int (a:Int))
  let t:=tPp M ss c ch qs w r A s8
  obtain⟨j,jl,ej⟩:=zbe5 (t:=t) (r:=r) (k:=(M:Int)) (m:=3) rfl (by lia) (by lia) (by decide) (fk:=dVar 0) rfl
  obtain⟨j2,jl2,ej2⟩:=zbe5 (t:=t) (r:=r) (k:=16) (m:=5) rfl (by lia) (by lia) (by decide) (fk:=dC (.int 16)) rfl
  have b1:=zf8 (fa:=dC (.int 1)) (a:=1) rfl ej
  have b2:=zf8 (fa:=dC (.int 2)) (a:=2) rfl ej2
  rw [show (2:Int)+(j2:Int)=((2+j2:Nat):Int) by lia]at b2
  have lo:=zas0 (1+(j:Int)) (b:=2+j2) (by lia) (zbk1 (show 2+j2≤20 by lia) (by decide +kernel))
  have ok:=zv5 (1+(j:Int)) (b:=2+j2) (by lia)
  let mo:=lowQ (1+(j:Int)) (2+j2)
  have mB:QB 3 6 mo:=⟨ok.1,by have:=ok.2.1;show (lowQ (1+(j:Int)) (2+j2)).2≤6;lia,by have:=ok.2.2.1;show (lowQ (1+(j:Int)) (2+j2)).1.natAbs≤3;lia⟩
  have a3:fx6 t=some (.cl (qD mo)):=(zg5 b1 b2).trans (zl3 (G:=zf6) (rs:=[.cl (.int (1+(j:Int))),.cl (.int ((2+j2:Nat):Int))]) lo rfl)
  have E2:=ze4 (i:=8) a3 (by simp [t,tPp])
  let t2:=tPp M ss c ch qs w r A (.val (qD mo))
  obtain⟨q1,hq1⟩:∃q,qs[a]?=some q:=⟨qs[a],zbj6 (by lia)⟩
  have q1B:=hq q1 (zbt5 hq1)
  have i1:=zbd3 (fa:=dVar 4) (fb:=dVar 7) (t:=t2) (r1:=.tm (.lst (qs.map qD))) rfl rfl rfl hq1
  have s1:=(zg5 i1 (rfl:dVar 8 t2=some (.cl (qD mo)))).trans (zl3 (G:=zh2) (rs:=[.cl (qD q1),.cl (qD mo)]) (add_s (q1B.le (by decide) (by decide)) (mB.le (by decide) (by decide))) rfl)
  have E3:=zal8 (i:=4) (t:=t2) (fk:=dVar 7) (qs:=qs) (b:=a) s1 rfl rfl (by lia)
  have w1:=zag3 q1B mB
  let qs1:=qs.set a (addQ q1 mo)
  have h1:QAll 10000 120 qs1:=(hq.le (by decide) (by decide)).set (w1.le (by decide) (by decide)) a
  let t3:=tPp M ss c ch qs1 w r A (.val (qD mo))
  obtain⟨b,hb,bl⟩:=modN ((a:Int)+1) m0
  have eb:nx6 t3=some (.cl (.int (b:Int))):=by
   rw [← hb]
   exact zg7 (fb:=dVar 0) (b:=(M:Int)) (zf8 (fa:=dVar 7) (fb:=dC (.int 1)) (t:=t3) (a:=(a:Int)) (b:=1) rfl rfl) rfl (by lia)
  have l1:qs1.length=M:=by simp [qs1,hl]
  obtain⟨q2,hq2⟩:∃q,qs1[b]?=some q:=⟨qs1[b],zbj6 (by lia)⟩
  have q2B:=h1 q2 (zbt5 hq2)
  have i2:=zbd3 (fa:=dVar 4) (fb:=nx6) (t:=t3) (r1:=.tm (.lst (qs1.map qD))) rfl rfl eb hq2
  obtain⟨x0,x1⟩:=ix_q (fa:=dVar 8) (t:=t3) (q:=mo) rfl
  have n0:=zag6 (fa:=dC (.int 0)) (a:=0) rfl x0
  have n1:=(zg5 (k:=kTup) n0 x1).trans (rfl:_=some (Ev.cl (qD (0 - mo.1,mo.2))))
  have nB:QB 3 6 (0 - mo.1,mo.2):=⟨mB.b1,mB.b2,by have:=mB.a1;show (0 - mo.1).natAbs≤3;lia⟩
  have s2:=(zg5 i2 n1).trans (zl3 (G:=zh2) (rs:=[.cl (qD q2),.cl (qD (0 - mo.1,mo.2))]) (add_s (q2B.le (by decide) (by decide)) (nB.le (by decide) (by decide))) rfl)
  have E4:=zal8 (i:=4) (t:=t3) (fk:=nx6) (qs:=qs1) (b:=b) s2 eb rfl (by lia)
  have w2:=zag3 q2B nB
  exact⟨qs1.set b (addQ q2 (0 - mo.1,mo.2)),A,.val (qD mo),by simp [l1],(h1.le (by decide) (by decide)).set (w2.le (by decide) (by decide)) b,(zv8 ((eqW w 6).trans (by rw [h])) rfl).trans ((za8 E1).trans ((za8 E2).trans ((za8 E3).trans E4)))⟩
theorem blk7 (m0:0<M) (hM:M≤20) {ch:List Int}{qs:List (Int×Nat)}{s7 s8:Sl} (hl:qs.length=M) (hq:QAll 1000000 1000 qs):∃qs',Shs qs'∧bk7 (tPp M ss c ch qs w r s7 s8)=some (.nx (tPp M ss c ch qs' w r s7 s8)):=by
 have sh:∀l:List (Int×Nat),l.length≤100→QAll 1000000 1000 l→Shs l:=fun l hl h=>⟨by lia,fun q hq=>⟨(h q hq).b1,(h q hq).b2⟩,fun q hq=>zbk3 (h q hq).a1 (by decide)⟩
 cases h:decide (w=7) with
 |false=>exact⟨qs,sh qs (by lia) hq,grd' ((eqW w 7).trans (by rw [h]))⟩
 |true =>
  let t:=tPp M ss c ch qs w r s7 s8
  obtain⟨a,ha,al⟩:=modN r (m:=M+1) (by lia)
  have e1:=zg7 (fa:=dVar 6) (t:=t) (a:=r) rfl (zf8 (fa:=dVar 0) (fb:=dC (.int 1)) (t:=t) (a:=(M:Int)) (b:=1) rfl rfl) (by lia)
  rw [show (M:Int)+1=((M+1:Nat):Int) by lia,ha]at e1
  have e2:(dSlU (d2 qR (dVar 6) (d2 qA (dVar 0) (dC (.int 1)))) (dVar 4)) t=some (.nw ((qs.take a).map qD)):=by
   unfold dSlU
   rw [e1]
   show (if (Ev.tm (.lst (qs.map qD))).ok||flats (qs.map qD) then some (Ev.nw ((qs.map qD).take (HT.sIx (qs.map qD).length (qs.map qD).length (some (a:Int))))) else none)=_
   rw [zu2,zbs4,if_pos rfl,HT.sIx_nat,zbl5,show min a qs.length=a by lia,zcb4]
  obtain⟨k,kl,ek⟩:=zbe5 (t:=t) (r:=r) (k:=64) (m:=3) rfl (by lia) (by lia) (by decide) (fk:=dC (.int 64)) rfl
  have e3:=zr5 (d:=qD (0,1)) (fa:=dT1 kLst (za2 (dT1 kTup (za2 (dC (.int 0)) (za2 (dC (.int 1)) dNil))) dNil)) (t:=t) rfl ek (by lia)
  have fr:zbj8 k (qD (0,1))=(zbj8 k ((0,1):Int×Nat)).map qD:=by rw [zbo7]
  rw [fr]at e3
  have e4:=cat_ii e2 e3 rfl rfl (zu2 _) (zu2 _) (by rw [zbl5,zbl5,zbs2,zbn0];lia)
  rw [← zbp8]at e4
  refine⟨_,sh _ ?_ fun q hq'=>?_,(zv8 ((eqW w 7).trans (by rw [h])) rfl).trans (zm2 (i:=4) e4 (by simp [t,tPp]))⟩
  ·rw [zbl8,zbs2,zbn0];lia
  ·rcases zbj4.mp hq' with z | z
   ·exact hq q (zbv8 z)
   ·rw [zbo3 z];exact⟨by decide,by decide,by decide⟩
end
theorem paper_is {M:Nat} (m0:0<M) (hM:M≤20) {ss:List (List Int)} (cv:Cv M ss) (hs:ss.length≤100) (c:Int):∃(ch:List Int) (qs:List (Int×Nat)),ch.length≤500∧Shs qs∧zi4 [.int (M:Int),mD ss,.int c]=some (.nw [.lst (ch.map D.int),.lst (qs.map qD)]):=by
 have ne:=cv.ne m0
 have hs0:0<ss.length:=zca2.mpr ne
 let t0:Th:=[.val (.int (M:Int)),.val (mD ss),.val (.int c),.no,.no,.no,.no,.no,.no]
 have ci:=zbg2 (M:=M) (by lia) cv (by lia)
 have a1:=(zg5 (rfl:dVar 0 t0=some (.cl (.int (M:Int)))) (rfl:dVar 1 t0=some (.cl (mD ss)))).trans (calld (G:=zf7) (rs:=[.cl (.int (M:Int)),.cl (mD ss)]) ci)
 let ch:=(zg2 M ss).2
 let H:=(zg2 M ss).1
 have ec:zg2 M ss=(finH M ss 500 [],rstH M ss 500 []):=by
  show chs M ss 500 [] []=_
  rw [chs_eq,List.nil_append]
 have fu:Full M ss H:=by
  show Full M ss (zg2 M ss).1
  rw [ec]
  exact fin_full cv (by lia)
 have eq1:((zb4 M).map fun x=>tP (shr H x))=(ownQ M H).map qD:=by
  unfold ownQ
  rw [zbp4]
  rfl
 have cl:ch.length≤100:=by
  have e:ch=rstH M ss 500 []:=by show (zg2 M ss).2=_;rw [ec]
  rw [e]
  have:=zu9 (rst_nd cv 500 [] (HI.nil M ss)).1 (C:=zb4 ss.length) fun k hk=>zo3 (zam4 ne 500 [] k hk).1 (zam4 ne 500 [] k hk).2
  have e2:(zb4 ss.length).length=ss.length:=by simp [zb4]
  lia
 have qa:QAll 1000 20 (ownQ M H):=fun q hq=>by
  obtain⟨x,hx,rfl⟩:=zbm5.mp hq
  have:=fu.shr (ze9 hx).1 (ze9 hx).2
  exact⟨this.1,by show shr H x≤20;lia,by show (1:Int).natAbs≤1000;decide⟩
 have ql:(ownQ M H).length=M:=by simp [ownQ,zb4]
 have E1:zbf8 (zr0 2 (ze6 (zad2 3) (ze6 (zad2 4) zr1))) (dT1 (zc3 zf7) (za2 (dVar 0) (za2 (dVar 1) dNil))) t0=some (.nx [.val (.int (M:Int)),.val (mD ss),.val (.int c),.dp (.lst (ch.map D.int)),.dp (.lst ((ownQ M H).map qD)),.no,.no,.no,.no]):=by
  unfold zbf8
  rw [a1, ← eq1]
  rfl
 have E2:dThw 4 (dThw 3 (dAsg 5 (d2 qR (dVar 2) (dC (.int 8))))) [.val (.int (M:Int)),.val (mD ss),.val (.int c),.dp (.lst (ch.map D.int)),.dp (.lst ((ownQ M H).map qD)),.no,.no,.no,.no]=some (.nx [.val (.int (M:Int)),.val (mD ss),.val (.int c),.own (ch.map D.int),.own ((ownQ M H).map qD),.val (.int (c.fmod 8)),.no,.no,.no]):=by
  have th:thwT (thwT [.val (.int (M:Int)),.val (mD ss),.val (.int c),.dp (.lst (ch.map D.int)),.dp (.lst ((ownQ M H).map qD)),.no,.no,.no,.no] 4) 3=[.val (.int (M:Int)),.val (mD ss),.val (.int c),.own (ch.map D.int),.own ((ownQ M H).map qD),.no,.no,.no,.no]:=by
   simp [thwT,thwD,zd5,zu2]
  unfold dThw
  rw [th]
  exact ze4 (i:=5) (zg7 (fa:=dVar 2) (fb:=dC (.int 8)) (a:=c) (b:=8) rfl rfl (by decide)) (by simp)
 have E3:=ze4 (i:=6) (zp2 (fa:=dVar 2) (fb:=dC (.int 8)) (t:=[.val (.int (M:Int)),.val (mD ss),.val (.int c),.own (ch.map D.int),.own ((ownQ M H).map qD),.val (.int (c.fmod 8)),.no,.no,.no]) (a:=c) (b:=8) rfl rfl (by decide) (sm_of (by lia) (by lia))) (by simp)
 let w:=c.fmod 8
 let r:=c.fdiv 8
 obtain⟨c1,l1,F1⟩:=blk1 (M:=M) (ss:=ss) (c:=c) (w:=w) (r:=r) (ch:=ch) (qs:=ownQ M H) (s7:=.no) (s8:=.no) (by lia)
 obtain⟨c2,l2,F2⟩:=blk2 (M:=M) (ss:=ss) (c:=c) (w:=w) (r:=r) hs (ch:=c1) (qs:=ownQ M H) (s7:=.no) (s8:=.no) (by lia)
 obtain⟨q3,k3,h3,F3⟩:=blk3 (M:=M) (ss:=ss) (c:=c) (w:=w) (r:=r) m0 hM (ch:=c2) (qs:=ownQ M H) (s7:=.no) (s8:=.no) l2 ql qa
 obtain⟨c4,l4,F4⟩:=blk4 (M:=M) (ss:=ss) (c:=c) (w:=w) (r:=r) hs0 hs (ch:=c2) (qs:=q3) (s7:=.no) (s8:=.no) l2
 obtain⟨q5,u7,k5,h5,F5⟩:=blk5 (M:=M) (ss:=ss) (c:=c) (w:=w) (r:=r) m0 hM (ch:=c4) (qs:=q3) (s7:=.no) (s8:=.no) k3 h3
 obtain⟨q6,v7,v8,k6,h6,F6⟩:=blk6 (M:=M) (ss:=ss) (c:=c) (w:=w) (r:=r) m0 hM (ch:=c4) (qs:=q5) (s7:=u7) (s8:=.no) k5 h5
 obtain⟨q7,h7,F7⟩:=blk7 (M:=M) (ss:=ss) (c:=c) (w:=w) (r:=r) m0 hM (ch:=c4) (qs:=q6) (s7:=v7) (s8:=v8) k6 h6
 have E8:dFrz 4 (dFrz 3 (dRet (dT1 kLst (za2 (dVar 3) (za2 (dVar 4) dNil))))) (tPp M ss c c4 q7 w r v7 v8)=some (.rt (.nw [.lst (c4.map D.int),.lst (q7.map qD)])):=rfl
 refine⟨c4,q7,l4,h7,?_⟩
 show (zo6 t0).bind zk5=_
 unfold zo6
 exact bnd ((za8 E1).trans ((za8 E2).trans ((za8 E3).trans ((za8 F1).trans ((za8 F2).trans ((za8 F3).trans ((za8 F4).trans ((za8 F5).trans ((za8 F6).trans ((za8 F7).trans E8))))))))))
end KX
namespace KX
open PySem.Spec L2 DL
theorem zas7 (q:Int×Nat):flat (qD q)=true:=rfl
def sumQ (qs:List (Int×Nat)):Int×Nat:=qs.foldl addQ (0,1)
theorem zbb4 (s0:Sl) {A B N:Nat} (hA:1≤A) (hB:1≤B) (hbd:N*A*B ^ N<DL.bnd):∀(qs:List (Int×Nat)) (k:Nat) (p:Int×Nat) (s2:Sl),(∀q∈qs,QB A B q)→QB (k*A*B ^ k) (B ^ k) p→k+qs.length+1≤N→∃u2,forD (za6 2) bdSq (qs.map qD) [s0,.val (qD p),s2]=some (.nx [s0,.val (qD (qs.foldl addQ p)),u2])
 |[],k,p,s2,_,_,_=>⟨s2,rfl⟩
 |q::qs,k,p,s2,h,hp,hn=>by
  have hq:=h q (by simp)
  rw [zbm4]at hn
  have pB:∀j,1≤B ^ j:=fun j=>zcf1 hB
  have mono:∀j,j≤N→j*A*B ^ j≤N*A*B ^ N:=fun j hj=>zbo0 (zbn3 _ hj) (zbm9 hB hj)
  have pw:∀j,1≤j→j≤N→B ^ j≤N*A*B ^ N:=fun j h1 hj=>zbk3 (zbm3 _ (zbu3 h1 hA)) (mono j hj)
  have bA:A≤N*A*B ^ N:=zbk3 (zbk3 (zbm3 _ (show 0<N by lia)) (zbo5 _ (pB N))) (zbl1 _)
  have bB:B≤N*A*B ^ N:=by have:=pw 1 (by lia) (by lia);rwa [Nat.pow_one]at this
  have bk:B ^ k*B≤N*A*B ^ N:=by rw [← zbu4];exact pw (k+1) (by lia) (by lia)
  have ok:=zag3 hp hq
  have ad:=add_is hp hq (zbk1 (mono k (by lia)) hbd) (zbk1 bA hbd) (zbk1 (zbk3 (zbo5 _ hB) bk) hbd) (zbk1 bB hbd) (zbk1 bk hbd)
  have ok':QB ((k+1)*A*B ^ (k+1)) (B ^ (k+1)) (addQ p q):=by
   refine ok.le ?_ (by rw [zbu4];exact zbl1 _)
   rw [zbu4,zbv4,zbv5,zbv4,zbp9 (k*A)]
   exact zca3 (zbl1 _) (zbs1 _ (zbo5 _ hB))
  obtain⟨u2,i⟩:=zbb4 s0 hA hB hbd qs (k+1) (addQ p q) (.val (qD q)) (fun x hx=>h x (zbj2 _ hx)) ok' (by lia)
  have eb:bdSq [s0,.val (qD p),.val (qD q)]=some (.nx [s0,.val (qD (addQ p q)),.val (qD q)]):=ze4 (i:=1) ((zg5 (rfl:dVar 1 _=some (.cl (qD p))) (rfl:dVar 2 _=some (.cl (qD q)))).trans (zl3 (G:=zh2) (rs:=[.cl (qD p),.cl (qD q)]) ad rfl)) (by simp)
  refine⟨u2,?_⟩
  rw [zbk4]
  exact (zk6 (t1:=[s0,.val (qD p),.val (qD q)]) rfl eb).trans i
theorem sum_is {A B:Nat} (hA:1≤A) (hB:1≤B) {qs:List (Int×Nat)} (h:∀q∈qs,QB A B q) (hbd:(qs.length+1)*A*B ^ (qs.length+1)<DL.bnd):zh0 [.lst (qs.map qD)]=some (.cl (qD (sumQ qs))):=by
 let t0:Th:=[.val (.lst (qs.map qD)),.no,.no]
 have E1:dAsg 1 (dT1 kTup (za2 (dC (.int 0)) (za2 (dC (.int 1)) dNil))) t0=some (.nx [.val (.lst (qs.map qD)),.val (qD (0,1)),.no]):=rfl
 obtain⟨u2,e⟩:=zbb4 (.val (.lst (qs.map qD))) hA hB hbd qs 0 (0,1) .no h ⟨by decide,by simp,by simp⟩ (by lia)
 have E2:dFor (za6 2) (dVar 0) bdSq [.val (.lst (qs.map qD)),.val (qD (0,1)),.no]=some (.nx [.val (.lst (qs.map qD)),.val (qD (sumQ qs)),u2]):=(zaa7 (r:=.cl (.lst (qs.map qD))) rfl rfl rfl).trans e
 show (zaa2 t0).bind zk5=_
 exact bnd ((za8 E1).trans ((za8 E2).trans rfl))
def hqs (n:Nat):List (Int×Nat):=(zbl9 n).map fun (i:Nat)=>((1:Int),i+1)
theorem hqs_succ (n:Nat):hqs (n+1)=hqs n++[((1:Int),n+1)]:=by
 unfold hqs
 rw [List.range_succ,zbp8]
 rfl
theorem zao5:∀n:Nat,1≤(sumQ (hqs n)).2∧(sumQ (hqs n)).1*(fct n:Int)=((sumQ (hqs n)).2:Int)*(hmT n:Int)
 |0=>⟨by decide,by decide⟩
 |n+1=>by
  obtain⟨b1,e⟩:=zao5 n
  have es:sumQ (hqs (n+1))=addQ (sumQ (hqs n)) (1,n+1):=by
   rw [hqs_succ]
   unfold sumQ
   rw [List.foldl_append]
   rfl
  rw [es]
  generalize sumQ (hqs n)=p at b1 e
  obtain⟨l1,_,_,l4⟩:=zv5 (p.1*((n+1:Nat):Int)+1*(p.2:Int)) (b:=p.2*(n+1)) (zbu3 b1 (by lia))
  refine⟨l1,?_⟩
  show (lowQ (p.1*((n+1:Nat):Int)+1*(p.2:Int)) (p.2*(n+1))).1*((fct (n+1):Nat):Int)=((lowQ (p.1*((n+1:Nat):Int)+1*(p.2:Int)) (p.2*(n+1))).2:Int)*((hmT (n+1):Nat):Int)
  generalize (lowQ (p.1*((n+1:Nat):Int)+1*(p.2:Int)) (p.2*(n+1))).1=x at l4 ⊢
  generalize (lowQ (p.1*((n+1:Nat):Int)+1*(p.2:Int)) (p.2*(n+1))).2=y at l4 ⊢
  have f1:((fct (n+1):Nat):Int)=((n+1:Nat):Int)*(fct n:Int):=by rw [← zbn5];rfl
  have f2:((hmT (n+1):Nat):Int)=(hmT n:Int)*((n+1:Nat):Int)+(fct n:Int):=by rw [← zbn5, ← Int.natCast_add];rfl
  rw [f1,f2]
  rw [zbn5]at l4
  generalize ((n+1:Nat):Int)=k at l4 ⊢
  generalize (fct n:Int)=F at e ⊢
  generalize (hmT n:Int)=T at e ⊢
  have pb:(p.2:Int)≠0:=by lia
  have l4:x*((p.2:Int)*k)=(p.1*k+1*(p.2:Int))*(y:Int):=l4
  refine zbw7 pb ?_
  calc (p.2:Int)*(x*(k*F))=x*((p.2:Int)*k)*F:=by simp only [zbo6,zbn6,zbn9]
   _=(p.1*k+1*(p.2:Int))*(y:Int)*F:=by rw [l4]
   _=(y:Int)*((p.1*F)*k+(p.2:Int)*F):=by rw [Int.one_mul,zcb0,zcb0,zbu5];simp only [zbo6,zbn6,zbn9]
   _=(y:Int)*(((p.2:Int)*T)*k+(p.2:Int)*F):=by rw [e]
   _=(p.2:Int)*((y:Int)*(T*k+F)):=by rw [zbu5,zbu5,zbu5];simp only [zbo6,zbn6,zbn9]
theorem fsR2_of {f f':DE}{t:Th}{lo n:Int}{k:Nat} (h1:f t=some (.cl (.int lo))) (h2:f' t=some (.cl (.int n))) (hk:(n - lo).toNat=k) (hb:(bigI n&&bigI lo)=true):fsR2 f f' t=some (true,rngD lo k):=by
 unfold fsR2
 rw [h1,h2]
 show (if bigI n&&bigI lo then some (true,rngD lo (n - lo).toNat) else none)=_
 rw [if_pos hb,hk]
theorem lharm_is {n:Nat} (hn:n≤20):zi1 [.int (n:Int)]=some (.cl (qD (sumQ (hqs n)))):=by
 let t0:Th:=[.val (.int (n:Int))]
 have ad:=zf8 (fa:=dVar 0) (fb:=dC (.int 1)) (t:=t0) (a:=(n:Int)) (b:=1) rfl rfl
 have a1:(ze3 1 [] (fsR2 (dC (.int 1)) (d2 qA (dVar 0) (dC (.int 1)))) (za6 0) zc7 (dT1 kTup (za2 (dC (.int 1)) (za2 (dVar 0) dNil)))) t0=some (.nw ((hqs n).map qD)):=by
  have e1:fsR2 (dC (.int 1)) (d2 qA (dVar 0) (dC (.int 1))) t0=some (true,(zbl9 n).map fun (i:Nat)=>D.int ((i+1:Nat):Int)):=by
   rw [fsR2_of (k:=n) (rfl:dC (.int 1) t0=some (.cl (.int 1))) ad (by lia) (by rw [zbj5];unfold bigI;constructor <;>(simp;try lia))]
   unfold rngD
   congr 2
   refine zbs0 fun i _=>?_
   rw [show (1:Int)+(i:Int)=((i+1:Nat):Int) by lia]
  have e2:zh8 (za6 0) zc7 (dT1 kTup (za2 (dC (.int 1)) (za2 (dVar 0) dNil))) ((zbl9 n).map fun (i:Nat)=>D.int ((i+1:Nat):Int)) [Sl.no]=some ((hqs n).map qD):=by
   have:=zat1 (e:=fun (i:Nat)=>D.int ((i+1:Nat):Int)) (ft:=zc7) (fe:=(dT1 kTup (za2 (dC (.int 1)) (za2 (dVar 0) dNil)))) (p:=fun _=>true) (f:=fun (i:Nat)=>qD ((1:Int),i+1)) (ext:=[]) (zbl9 n) .no (fun _ _=>rfl) (fun i _ _=>⟨_,rfl,rfl⟩)
   rw [this,zbn2.mpr fun _ _=>rfl]
   unfold hqs
   rw [zbp4]
   rfl
  unfold ze3
  rw [e1]
  show (if ((zbl9 n).map fun (i:Nat)=>D.int ((i+1:Nat):Int)).length≤50000 then (zh8 (za6 0) zc7 (dT1 kTup (za2 (dC (.int 1)) (za2 (dVar 0) dNil))) ((zbl9 n).map fun (i:Nat)=>D.int ((i+1:Nat):Int)) [Sl.no]).bind _ else none)=_
  rw [if_pos (by simp;lia),e2]
  rfl
 have hq:∀q∈hqs n,QB 1 20 q:=fun q hq=>by
  obtain⟨i,hi,rfl⟩:=zbm5.mp hq
  rw [zbt7]at hi
  exact⟨by show 1≤i+1;lia,by show i+1≤20;lia,by show (1:Int).natAbs≤1;decide⟩
 have hlen:(hqs n).length=n:=by simp [hqs]
 have si:=sum_is (A:=1) (B:=20) (by decide) (by decide) hq (by
  rw [hlen]
  refine zbk1 (zbo0 (zbn3 1 (show n+1≤21 by lia)) (zbm9 (by decide) (show n+1≤21 by lia))) (by decide +kernel))
 have fl:=zas7 (sumQ (hqs n))
 show (zm3 t0).bind zk5=_
 exact bnd (zm8 ((zj7 a1).trans (zl3 (G:=zh0) (rs:=[.nw ((hqs n).map qD)]) si fl)))
theorem row_cl {fa fb:DE}{t:Th}{M:List (List Int)}{i:Int} (ha:fa t=some (.cl (mD M))) (hb:fb t=some (.cl (.int i))) (i0:0≤i) (il:i<(M.length:Int)):(d2 kIx fa fb) t=some (.cl (rwD (M.getD i.toNat []))):=by
 rw [zh7 ha hb]
 unfold kIx
 have hl:i.toNat<M.length:=by lia
 have e:atI (M.map rwD) i=some (rwD (M.getD i.toNat [])):=by
  unfold atI
  have:ixN (M.map rwD).length i=some i.toNat:=by
   have:=zai8 (M.map rwD).length i.toNat (by simpa using hl)
   rwa [zbr9 i0]at this
  rw [this]
  simp [zbk5,hl]
 show ((atI (M.map rwD) i).map _)=_
 rw [e]
 rfl
theorem slu_of {fa fb:DE}{t:Th}{r:Ev}{xs:List Int}{k:Nat} (h1:fb t=some r) (hr:r.d=.lst (xs.map D.int)) (h2:fa t=some (.cl (.int (k:Int)))) (hk:k≤xs.length):dSlU fa fb t=some (.nw ((xs.take k).map D.int)):=by
 unfold dSlU
 rw [h1,h2]
 simp only [zbj3,hr]
 show (if r.ok||flats (xs.map D.int) then some (Ev.nw ((xs.map D.int).take (HT.sIx (xs.map D.int).length (xs.map D.int).length (some (k:Int))))) else none)=_
 rw [zd5,zbs4,if_pos rfl,HT.sIx_nat,zbl5,show min k xs.length=k by lia,zcb4]
theorem zbb9 {M:Nat} (hM:M≤1000) {s0 s1 s2 s4:Sl}:∀ {s ks:List Int}{s5:Sl},AllK M ks→(∀x∈s,0≤x∧x<(M:Int))→∃u5,forD (za6 5) bdHi (s.map D.int) [s0,s1,s2,.dp (dctT ks),s4,s5]=some (.nx [s0,s1,s2,.dp (dctT (s.foldl putN ks)),s4,u5])
 |[],ks,s5,_,_=>⟨s5,rfl⟩
 |x::s,ks,s5,h,hs=>by
  have hx:=hs x (by simp)
  obtain⟨u5,e⟩:=zbb9 hM (s0:=s0) (s1:=s1) (s2:=s2) (s4:=s4) (s:=s) (s5:=.val (.int x)) (h.put hx.1 hx.2) fun y hy=>hs y (zbj2 _ hy)
  have:=h.len
  have d:bdHi [s0,s1,s2,.dp (dctT ks),s4,.val (.int x)]=some (.nx [s0,s1,s2,.dp (dctT (putN ks x)),s4,.val (.int x)]):=zbe7 (i:=3) (fk:=dVar 5) (r:=.cl (.int x)) rfl rfl rfl (by lia)
  refine⟨u5,?_⟩
  rw [zbk4]
  exact (zk6 (t1:=[s0,s1,s2,.dp (dctT ks),s4,.val (.int x)]) rfl d).trans e
theorem turn_Ha {M:Nat} (hM:M≤1000) {ss:List (List Int)} (hs:∀s∈ss,∀x∈s,0≤x∧x<(M:Int)) {ch:List Int}{j:Nat} (hj:j<ch.length) {ks:List Int} (hk:AllK M ks) (s0 s5:Sl) :
  let t:Th:=[s0,.val (mD ss),.val (.lst (ch.map D.int)),.dp (dctT ks),.val (.int (j:Int)),s5]
  let ok:=(decide (0≤ch.getD j 0)&&decide (ch.getD j 0<(ss.length:Int)))&&!decide (ch.getD j 0∈ch.take j)
  (ok=false→bdHa t=some (.rt (.cl (.bl false))))∧(ok=true→∃u5,bdHa t=some (.nx [s0,.val (mD ss),.val (.lst (ch.map D.int)),.dp (dctT ((ss.getD (ch.getD j 0).toNat []).foldl putN ks)),.val (.int (j:Int)),u5])):=by
 intro t ok
 have i1:=zad0 (fa:=dVar 2) (fb:=dVar 4) (t:=t) (r1:=.cl (.lst (ch.map D.int))) (r2:=.cl (.int (j:Int))) ch j rfl rfl hj rfl rfl
 have c1:=not_of (ch_of (fa:=dC (.int 0)) (a:=0) rfl i1 (zaa0 (f:=dVar 1) (t:=t) (r:=.cl (mD ss)) rfl rfl))
 have sl:=slu_of (fa:=dVar 4) (fb:=dVar 2) (t:=t) (r:=.cl (.lst (ch.map D.int))) (xs:=ch) (k:=j) rfl rfl rfl (by lia)
 have c2:=bo_in (ch.getD j 0) (ch.take j) i1 sl rfl rfl
 have c3:=zz6 c1 c2
 have eo:(!(decide (0≤ch.getD j 0)&&decide (ch.getD j 0<(ss.length:Int)))||decide (ch.getD j 0∈ch.take j))=!ok:=by
  show _=!((decide (0≤ch.getD j 0)&&decide (ch.getD j 0<(ss.length:Int)))&&!decide (ch.getD j 0∈ch.take j))
  generalize decide (0≤ch.getD j 0)=x
  generalize decide (ch.getD j 0<(ss.length:Int))=y
  generalize decide (ch.getD j 0∈ch.take j)=z
  cases x<;>cases y<;>cases z<;>rfl
 rw [eo]at c3
 refine⟨fun h=>?_,fun h=>?_⟩
 ·rw [h]at c3
  exact seq_rt (zaf0 c3 rfl)
 ·rw [h]at c3
  have h':((decide (0≤ch.getD j 0)&&decide (ch.getD j 0<(ss.length:Int)))&&!decide (ch.getD j 0∈ch.take j))=true:=h
  simp only [zbj5,decide_eq_true_eq]at h'
  have rc:=row_cl (fa:=dVar 1) (t:=t) (M:=ss) rfl i1 h'.1.1 h'.1.2
  have hm:ss.getD (ch.getD j 0).toNat []∈ss:=by
   rw [zbk5,zbj6 (by lia)]
   exact zbq4 _
  obtain⟨u5,e⟩:=zbb9 hM (s0:=s0) (s1:=.val (mD ss)) (s2:=.val (.lst (ch.map D.int))) (s4:=.val (.int (j:Int))) (s5:=s5) hk (hs _ hm)
  exact⟨u5,(za8 (grd' c3)).trans ((zaa7 rc rfl rfl).trans e)⟩
theorem zay2:∀(l acc:List Int),(l.foldl step_dedup acc).length≤acc.length+l.length
 |[],acc=>by simp
 |x::l,acc=>by
  have i:=zay2 l (step_dedup acc x)
  have:(step_dedup acc x).length≤acc.length+1:=by
   unfold step_dedup
   split<;>simp
  rw [zbr6,zbm4]
  lia
theorem zay1:∀(l acc:List Int),(l.foldl step_dedup acc).length=acc.length+l.length→l.Nodup∧∀x∈l,x∉acc
 |[],acc,_=>⟨zbm2,fun x hx=>nomatch hx⟩
 |x::l,acc,h=>by
  rw [zbr6,zbm4]at h
  have le:=zay2 l (step_dedup acc x)
  have e:step_dedup acc x=if acc.any (· == x) then acc else acc++[x]:=rfl
  by_cases c:acc.any (· == x)=true
  ·rw [e,if_pos c]at h le
   lia
  ·rw [e,if_neg c]at h
   obtain⟨i1,i2⟩:=zay1 l (acc++[x]) (by rw [h,zbl8,zbn8];lia)
   have xn:x∉acc:=fun z=>c (zbv7.mpr ⟨x,z,by simp⟩)
   refine⟨zbl6.mpr ⟨fun z=>i2 x z (by simp),i1⟩,fun y hy=>?_⟩
   rcases zbj9.mp hy with z | z
   ·rw [z];exact xn
   ·exact fun w=>i2 y z (zbj1 _ w)
theorem nd_ddp {xs:List Int} (h:(ddp xs).length=xs.length):xs.Nodup:=(zay1 xs [] (by simpa [ddp] using h)).1
theorem isCh_all {M:Nat}{ss:List (List Int)}{ch:List Int} (h:isCh M ss ch=true):(∀n∈ch,0≤n∧n<(ss.length:Int))∧ch.Nodup∧∀x:Int,0≤x→x<(M:Int)→∃n∈ch,x∈ss.getD n.toNat []:=by
 unfold isCh at h
 simp only [zbj5,decide_eq_true_eq]at h
 refine⟨fun n hn=>by simpa using all_id.mp h.1 n hn,nd_ddp h.2.1,fun x h0 h1=>?_⟩
 have hx:x∈hads ss ch:=by
  refine Classical.byContradiction fun z=>?_
  have hm:x∈(zb4 M).filter fun x=>decide (x∉hads ss ch):=zbp6.mpr ⟨zo3 h0 h1,by simpa using z⟩
  rw [zcd5.mp h.2.2]at hm
  exact nomatch hm
 rcases mem_hads.mp hx with z | z
 ·exact nomatch z
 ·exact z
structure VQ (p:Int×Nat) (T:Int) (L:Nat):Prop where
 b1:1≤p.2
 eq:p.1*(L:Int)=(p.2:Int)*T
def Low (p:Int×Nat):Prop := ∀d:Nat,d ∣ p.1.natAbs→d ∣ p.2→d=1
theorem low_low (a:Int) {b:Nat} (h:0<b):Low (lowQ a b):=fun d h1 h2=>by
 have g0:0<zbn1 a.natAbs b:=zbn7 _ h
 have e1:(lowQ a b).1.natAbs*zbn1 a.natAbs b=a.natAbs:=by
  have d1:(zbn1 a.natAbs b:Int) ∣ a:=zca8.mpr (zbt9 _ _)
  have:(lowQ a b).1*(zbn1 a.natAbs b:Int)=a:=Int.ediv_mul_cancel d1
  have:=congrArg Int.natAbs this
  rwa [zbu0,zbq1]at this
 have e2:(lowQ a b).2*zbn1 a.natAbs b=b:=zbr2 (zbt3 _ _)
 have m1:d*zbn1 a.natAbs b ∣ a.natAbs:=by
  conv=>rhs;rw [← e1]
  exact zbz3 h1 _
 have m2:d*zbn1 a.natAbs b ∣ b:=by
  conv=>rhs;rw [← e2]
  exact zbz3 h2 _
 have m3:=Nat.dvd_gcd m1 m2
 have le:=Nat.le_of_dvd g0 m3
 have d0:0<d:=zca9 fun z=>by
  rw [z,Nat.zero_mul]at m3
  have:=Nat.eq_zero_of_zero_dvd m3
  lia
 refine Classical.byContradiction fun z=>?_
 have:2*zbn1 a.natAbs b≤d*zbn1 a.natAbs b:=zbn3 _ (by lia)
 lia
theorem VQ.add {p q:Int×Nat}{T U:Int}{L:Nat} (hp:VQ p T L) (hq:VQ q U L):VQ (addQ p q) (T+U) L:=by
 have pos:0<p.2*q.2:=zbu3 hp.b1 hq.b1
 obtain⟨l1,_,_,l4⟩:=zv5 (p.1*(q.2:Int)+q.1*(p.2:Int)) pos
 refine⟨l1,?_⟩
 show (lowQ (p.1*(q.2:Int)+q.1*(p.2:Int)) (p.2*q.2)).1*(L:Int)=((lowQ (p.1*(q.2:Int)+q.1*(p.2:Int)) (p.2*q.2)).2:Int)*(T+U)
 generalize (lowQ (p.1*(q.2:Int)+q.1*(p.2:Int)) (p.2*q.2)).1=x at l4 ⊢
 generalize (lowQ (p.1*(q.2:Int)+q.1*(p.2:Int)) (p.2*q.2)).2=y at l4 ⊢
 have ep:=hp.eq
 have eq:=hq.eq
 rw [zbn5]at l4
 have n0:(p.2:Int)*(q.2:Int)≠0:=by
  rw [← zbn5];lia
 generalize (L:Int)=l at *
 generalize (p.2:Int)=b at *
 generalize (q.2:Int)=c at *
 refine zbw7 n0 ?_
 calc b*c*(x*l)=x*(b*c)*l:=by simp only [zbo6,zbn6,zbn9]
  _=(p.1*c+q.1*b)*(y:Int)*l:=by rw [l4]
  _=(y:Int)*(p.1*l*c+q.1*l*b):=by rw [zcb0,zcb0,zbu5];simp only [zbo6,zbn6,zbn9]
  _=(y:Int)*(b*T*c+c*U*b):=by rw [ep,eq]
  _=b*c*((y:Int)*(T+U)):=by rw [zbu5,zbu5,zbu5];simp only [zbo6,zbn6,zbn9]
theorem vq_one {q:Int×Nat}{L:Nat} (h:1≤q.2) (d:q.2 ∣ L):VQ q (q.1*((L / q.2:Nat):Int)) L:=by
 refine⟨h,?_⟩
 have e:((q.2:Nat):Int)*((L / q.2:Nat):Int)=(L:Int):=by rw [← zbn5,zca1 d]
 rw [← e]
 simp only [zbo6,zbn6,zbn9]
theorem zaq4 {L:Nat}:∀(qs:List (Int×Nat)) (p:Int×Nat) (T:Int),(∀q∈qs,1≤q.2∧q.2 ∣ L)→VQ p T L→Low p→VQ (qs.foldl addQ p) (T+(qs.map fun q=>q.1*((L / q.2:Nat):Int)).sum) L∧Low (qs.foldl addQ p)
 |[],p,T,_,h,l=>by
  refine⟨?_,l⟩
  show VQ p (T+0) L
  rw [Int.add_zero]
  exact h
 |q::qs,p,T,hq,h,l=>by
  have h1:=hq q (by simp)
  have i:=zaq4 qs (addQ p q) (T+q.1*((L / q.2:Nat):Int)) (fun x hx=>hq x (zbj2 _ hx)) (h.add (vq_one h1.1 h1.2)) (low_low _ (zbu3 h.b1 h1.1))
  rw [zbk4,zcb3, ← Int.add_assoc]
  exact i
theorem sum_vq {L:Nat}{qs:List (Int×Nat)} (hq:∀q∈qs,1≤q.2∧q.2 ∣ L):VQ (sumQ qs) ((qs.map fun q=>q.1*((L / q.2:Nat):Int)).sum) L∧Low (sumQ qs):=by
 have:=zaq4 (L:=L) qs (0,1) 0 hq ⟨by decide,by simp⟩ (fun d _ h=>Nat.dvd_one.mp h)
 rw [Int.zero_add]at this
 exact this
theorem vq_whole {p:Int×Nat}{T:Int}{L:Nat} (h:VQ p T L) (l:Low p) (L0:0<L) (n:Nat):decide (p=((n:Int),1))=decide (T=(n:Int)*(L:Int)):=by
 refine decide_eq_decide.mpr ⟨fun e=>?_,fun e=>?_⟩
 ·have:=h.eq
  rw [e]at this
  simp at this
  exact this.symm
 ·have q:=h.eq
  rw [e]at q
  have q2:p.1=(p.2:Int)*(n:Int):=by
   refine zbw1 (a:=(L:Int)) (by lia) ?_
   rw [q,zbn9]
  have d:p.2 ∣ p.1.natAbs:=by
   rw [q2,zbu0,zbq1]
   exact zcb9 _ _
  have p1:=l p.2 d (Nat.dvd_refl _)
  rw [p1]at q2
  refine Prod.ext ?_ p1
  rw [q2]
  simp
theorem most_eq (n:Nat):(sumQ (hqs n)).1*(hB n:Int)=((sumQ (hqs n)).2:Int)*(hA n:Int):=by
 obtain⟨b1,e⟩:=zao5 n
 have g0:0<zbn1 (hmT n) (fct n):=zbn7 _ (zp9 n)
 have e1:hA n*zbn1 (hmT n) (fct n)=hmT n:=zbr2 (zbt9 _ _)
 have e2:hB n*zbn1 (hmT n) (fct n)=fct n:=zbr2 (zbt3 _ _)
 refine zbw1 (a:=(zbn1 (hmT n) (fct n):Int)) (by lia) ?_
 rw [zbn9,zbn9, ← zbn5, ← zbn5,e2,e1]
 exact e
theorem vq_pay {p:Int×Nat}{T:Int}{L:Nat} (h:VQ p T L) (L0:0<L) (n:Nat):decide ((sumQ (hqs n)).1*(p.2:Int)<p.1*((sumQ (hqs n)).2:Int))=decide ((hA n:Int)*(L:Int)<T*(hB n:Int)):=by
 have me:=most_eq n
 have mb:=(zao5 n).1
 have hb:=hB_pos n
 have pb:=h.b1
 have pe:=h.eq
 generalize (sumQ (hqs n)).1=t at *
 generalize (sumQ (hqs n)).2=b at *
 have k1:(0:Int)<(L:Int)*(hB n:Int):=Int.mul_pos (by lia) (by lia)
 have k2:(0:Int)<(p.2:Int)*(b:Int):=Int.mul_pos (by lia) (by lia)
 have s1:(L:Int)*(hB n:Int)*(t*(p.2:Int))=(p.2:Int)*(b:Int)*((hA n:Int)*(L:Int)):=by
  calc (L:Int)*(hB n:Int)*(t*(p.2:Int))=(t*(hB n:Int))*((L:Int)*(p.2:Int)):=by simp only [zbo6,zbn6,zbn9]
   _=((b:Int)*(hA n:Int))*((L:Int)*(p.2:Int)):=by rw [me]
   _=_:=by simp only [zbo6,zbn6,zbn9]
 have s2:(L:Int)*(hB n:Int)*(p.1*(b:Int))=(p.2:Int)*(b:Int)*(T*(hB n:Int)):=by
  calc (L:Int)*(hB n:Int)*(p.1*(b:Int))=(p.1*(L:Int))*((hB n:Int)*(b:Int)):=by simp only [zbo6,zbn6,zbn9]
   _=((p.2:Int)*T)*((hB n:Int)*(b:Int)):=by rw [pe]
   _=_:=by simp only [zbo6,zbn6,zbn9]
 refine decide_eq_decide.mpr ⟨fun z=>?_,fun z=>?_⟩
 ·have:=zbw2 z k1
  rw [s1,s2]at this
  exact zbw8 this (zcd6 k2)
 ·have:=zbw2 z k2
  rw [← s1, ← s2]at this
  exact zbw8 this (zcd6 k1)
noncomputable def okC (ss:List (List Int)) (ch:List Int) (j:Nat):Bool:=(decide (0≤ch.getD j 0)&&decide (ch.getD j 0<(ss.length:Int)))&&!decide (ch.getD j 0∈ch.take j)
theorem zbb8 {M:Nat} (hM:M≤400) {ss:List (List Int)} (hs:∀s∈ss,∀x∈s,0≤x∧x<(M:Int)) {ch:List Int} (s0:Sl):∀(m j:Nat) (ks:List Int) (s4 s5:Sl),j+m=ch.length→AllK M ks →
  ((∃i,j≤i∧i<ch.length∧okC ss ch i=false)∧forD (za6 4) bdHa ((zbl9 m).map fun (i:Nat)=>D.int ((j+i:Nat):Int)) [s0,.val (mD ss),.val (.lst (ch.map D.int)),.dp (dctT ks),s4,s5]=some (.rt (.cl (.bl false)))) ∨
  ((∀i,j≤i→i<ch.length→okC ss ch i=true)∧∃ks' u4 u5,AllK M ks'∧(∀x,x∈ks'↔x∈ks∨∃i,j≤i∧i<ch.length∧x∈ss.getD (ch.getD i 0).toNat [])∧forD (za6 4) bdHa ((zbl9 m).map fun (i:Nat)=>D.int ((j+i:Nat):Int)) [s0,.val (mD ss),.val (.lst (ch.map D.int)),.dp (dctT ks),s4,s5]=some (.nx [s0,.val (mD ss),.val (.lst (ch.map D.int)),.dp (dctT ks'),u4,u5]))
 |0,j,ks,s4,s5,hj,ak=>.inr ⟨fun i h1 h2=>by lia,ks,s4,s5,ak,fun x=>⟨.inl,fun h=>h.elim id fun ⟨i,h1,h2,_⟩=>by lia⟩,rfl⟩
 |m+1,j,ks,s4,s5,hj,ak=>by
  have hjl:j<ch.length:=by lia
  have T:=turn_Ha (M:=M) (by lia) hs hjl ak s0 s5
  have er:((zbl9 (m+1)).map fun (i:Nat)=>D.int ((j+i:Nat):Int))=D.int (j:Int) ::(zbl9 m).map fun (i:Nat)=>D.int ((j+1+i:Nat):Int):=by
   rw [zbu8,zbk4,zbp4]
   congr 1
   refine zbs0 fun i _=>?_
   show D.int ((j+(i+1):Nat):Int)=_
   rw [show j+(i+1)=j+1+i by lia]
  rw [er]
  let t1:Th:=[s0,.val (mD ss),.val (.lst (ch.map D.int)),.dp (dctT ks),.val (.int (j:Int)),s5]
  cases ho:okC ss ch j with
  |false=>exact .inl ⟨⟨j,zbl1 _,hjl,ho⟩,zao9 (t1:=t1) rfl (T.1 ho)⟩
  |true =>
   obtain⟨u5,e⟩:=T.2 ho
   have hr:0≤ch.getD j 0∧ch.getD j 0<(ss.length:Int):=by
    have:=ho
    unfold okC at this
    simp only [zbj5,decide_eq_true_eq]at this
    exact this.1
   have hms:ss.getD (ch.getD j 0).toNat []∈ss:=by
    rw [zbk5 (l:=ss),zbj6 (by lia)]
    exact zbq4 _
   rcases zbb8 hM hs (ch:=ch) s0 m (j+1) ((ss.getD (ch.getD j 0).toNat []).foldl putN ks) (.val (.int (j:Int))) u5 (by lia) (ak.fold (hs _ hms)) with ⟨⟨i,h1,h2,h3⟩,e2⟩ | ⟨h1,ks',v4,v5,ak',mem,e2⟩
   ·exact .inl ⟨⟨i,by lia,h2,h3⟩,(zk6 (t1:=t1) rfl e).trans e2⟩
   ·refine .inr ⟨fun i a b=>?_,ks',v4,v5,ak',fun x=>?_,(zk6 (t1:=t1) rfl e).trans e2⟩
    ·rcases zbs8 a with z | z
     ·exact h1 i z b
     ·subst z;exact ho
    ·rw [mem,zt6]
     constructor
     ·rintro ((z | z) | ⟨i,a,b,z⟩)
      ·exact .inl z
      ·exact .inr ⟨j,zbl1 _,hjl,z⟩
      ·exact .inr ⟨i,by lia,b,z⟩
     ·rintro (z | ⟨i,a,b,z⟩)
      ·exact .inl (.inl z)
      ·rcases zbs8 a with y | y
       ·exact .inr ⟨i,y,b,z⟩
       ·subst y;exact .inl (.inr z)
theorem okC_all {ss:List (List Int)}{ch:List Int}:(∀i,i<ch.length→okC ss ch i=true)↔(∀n∈ch,0≤n∧n<(ss.length:Int))∧ch.Nodup:=by
 have g:∀i (h:i<ch.length),ch.getD i 0=ch[i]:=fun i h=>by rw [zbk5,zbj6 h];rfl
 constructor
 ·intro h
  refine⟨fun n hn=>?_,zbw9.mpr fun i j hi hj hij e=>?_⟩
  ·obtain⟨i,hi,rfl⟩:=zbr4.mp hn
   have:=h i hi
   unfold okC at this
   simp only [zbj5,decide_eq_true_eq]at this
   rw [g i hi]at this
   exact this.1
  ·have:=h j hj
   unfold okC at this
   simp only [zbj5,decide_eq_true_eq,zbv1,decide_eq_false_iff_not]at this
   rw [g j hj]at this
   exact this.2 (e ▸ zbr4.mpr ⟨i,by rw [zbs2];lia,by rw [zcc1]⟩)
 ·rintro ⟨h1,h2⟩ i hi
  unfold okC
  rw [g i hi]
  have a:=h1 _ (zbq4 hi)
  have b:ch[i]∉ch.take i:=fun z=>by
   obtain⟨k,hk,e⟩:=zbr4.mp z
   rw [zbs2]at hk
   rw [zcc1]at e
   exact (zbw9.mp h2 k i (by lia) hi (by lia)) e
  rw [decide_eq_true a.1,decide_eq_true a.2,decide_eq_false b]
  rfl
theorem zaw4 {M:Nat} (hM:M≤400) {ss:List (List Int)} (hs:∀s∈ss,∀x∈s,0≤x∧x<(M:Int)) {ch:List Int} (hc:ch.length≤1000):zh5 [.int (M:Int),mD ss,.lst (ch.map D.int)]=some (.cl (.bl (isCh M ss ch))):=by
 let S0:Sl:=.val (.int (M:Int))
 let t0:Th:=[S0,.val (mD ss),.val (.lst (ch.map D.int)),.no,.no,.no]
 let t1:Th:=[S0,.val (mD ss),.val (.lst (ch.map D.int)),.dp (dctT []),.no,.no]
 have E1:dAsg 3 zap3 t0=some (.nx t1):=rfl
 have rg:zac0 (za6 4) (dT1 kLen (za2 (dVar 2) dNil)) bdHa t1=forD (za6 4) bdHa ((zbl9 ch.length).map fun (i:Nat)=>D.int ((0+i:Nat):Int)) t1:=(zam5 (k0:=za6 4) (b:=bdHa) (n:=ch.length) (r:=.cl (.int (ch.length:Int))) (zr3 (f:=dVar 2) (t:=t1) (r:=.cl (.lst (ch.map D.int))) (xs:=ch) rfl rfl) rfl (by lia)).trans (congrArg (fun l=>forD (za6 4) bdHa l t1) (show (zb4 ch.length).map D.int=(zbl9 ch.length).map fun (i:Nat)=>D.int ((0+i:Nat):Int) by simp [zb4,Function.comp_def]))
 show (zo8 t0).bind zk5=_
 rcases zbb8 hM hs S0 (ch:=ch) ch.length 0 [] .no .no (by lia) ⟨zbm2,fun x hx=>nomatch hx⟩ with ⟨⟨i,_,h2,h3⟩,e⟩ | ⟨h1,ks,u4,u5,ak,mem,e⟩
 ·have hf:isCh M ss ch=false:=by
   cases hz:isCh M ss ch with
   |false=>rfl
   |true =>
    obtain⟨a,b,_⟩:=isCh_all hz
    have:=okC_all.mpr ⟨a,b⟩ i h2
    rw [h3]at this
    cases this
  rw [hf]
  exact bnd ((za8 E1).trans (seq_rt (rg.trans e)))
 ·obtain⟨ra,nd⟩:=okC_all.mp fun i hi=>h1 i (zbw4 _) hi
  have mem':∀x,x∈ks↔x∈hads ss ch:=fun x=>by
   rw [mem x]
   unfold hads
   rw [mem_hads]
   constructor
   ·rintro (z | ⟨i,_,hi,z⟩)
    ·exact nomatch z
    ·exact .inr ⟨ch.getD i 0,by rw [zbk5,zbj6 hi];exact zbq4 _,z⟩
   ·rintro (z | ⟨n,hn,z⟩)
    ·exact nomatch z
    ·obtain⟨i,hi,e⟩:=zbr4.mp hn
     exact .inr ⟨i,zbw4 _,hi,by rw [zbk5 (l:=ch),zbj6 hi];show x∈ss.getD (ch[i]).toNat [];rw [e];exact z⟩
  have a3:(dT1 zaw1 (za2 (dVar 3) dNil)) [S0,.val (mD ss),.val (.lst (ch.map D.int)),.dp (dctT ks),u4,u5]=some (.cl (.int (ks.length:Int))):=by
   show some (Ev.cl (.int ((ks.map kN).length:Int)))=_
   rw [zbl5]
  have ef:decide ((ks.length:Int)=(M:Int))=isCh M ss ch:=by
   unfold isCh
   rw [all_id.mpr fun c hc'=>by rw [decide_eq_true (ra c hc').1,decide_eq_true (ra c hc').2];rfl,decide_eq_true (ddp_nd ch nd),zbz0,zbz0]
   have e2:(zb4 M).length=M:=by simp [zb4]
   cases hz:((zb4 M).filter fun x=>decide (x∉hads ss ch)).isEmpty with
   |true =>
    have hn:=zcd5.mp hz
    have le1:=ak.len
    have le2:=zu9 (l:=zb4 M) (C:=ks) (zr7 M) fun x hx=>Classical.byContradiction fun z=>by
     have:x∈(zb4 M).filter fun x=>decide (x∉hads ss ch):=zbp6.mpr ⟨hx,by rw [decide_eq_true_eq];exact fun w=>z ((mem' x).mpr w)⟩
     rw [hn]at this
     exact nomatch this
    rw [decide_eq_true (by lia)]
   |false =>
    refine decide_eq_false fun z=>?_
    have:(zb4 M).filter (fun x=>decide (x∉hads ss ch))≠[]:=fun w=>by rw [w]at hz;cases hz
    obtain⟨x,hx⟩:=List.exists_mem_of_ne_nil _ this
    obtain⟨x1,x2⟩:=zbp6.mp hx
    rw [decide_eq_true_eq]at x2
    have nx:x∉ks:=fun w=>x2 ((mem' x).mp w)
    have ak2:AllK M (ks++[x]):=⟨zbl0.mpr ⟨ak.nd,by simp,fun a ha b hb e=>by rw [zbk6]at hb;subst hb;subst e;exact nx ha⟩,fun y hy=>by
     rcases zbj4.mp hy with q | q
     ·exact ak.lt y q
     ·rw [zbk6]at q;subst q;exact ze9 x1⟩
    have:=ak2.len
    rw [zbl8,zbn8]at this
    lia
  have E3:=zm8 ((zaj6 a3 (rfl:dVar 0 [S0,.val (mD ss),.val (.lst (ch.map D.int)),.dp (dctT ks),u4,u5]=some (.cl (.int (M:Int))))).trans (by rw [ef]))
  exact bnd ((za8 E1).trans ((za8 (rg.trans e)).trans E3))
theorem bigS:201*1000000000000000000*1000 ^ 201<DL.bnd:=by decide +kernel
theorem sum_sh {qs:List (Int×Nat)} (h:Shs qs):zh0 [.lst (qs.map qD)]=some (.cl (qD (sumQ qs))):=sum_is (A:=1000000000000000000) (B:=1000) (by decide) (by decide) (fun q hq=>⟨(h.bt q hq).1,(h.bt q hq).2,h.tp q hq⟩) (zbk1 (zbo0 (zbn3 _ (by have:=h.len;lia)) (zbm9 (by decide) (by have:=h.len;lia))) bigS)
theorem sumQ_b {A B:Nat} (hA:1≤A) (hB:1≤B):∀(qs:List (Int×Nat)) (k:Nat) (p:Int×Nat),(∀q∈qs,QB A B q)→QB (k*A*B ^ k) (B ^ k) p→QB ((k+qs.length)*A*B ^ (k+qs.length)) (B ^ (k+qs.length)) (qs.foldl addQ p)
 |[],k,p,_,h=>h
 |q::qs,k,p,hq,h=>by
  have ok:=zag3 h (hq q (by simp))
  have ok':QB ((k+1)*A*B ^ (k+1)) (B ^ (k+1)) (addQ p q):=by
   refine ok.le ?_ (by rw [zbu4];exact zbl1 _)
   rw [zbu4,zbv4,zbv5,zbv4,zbp9 (k*A)]
   exact zca3 (zbl1 _) (zbs1 _ (zbo5 _ hB))
  have i:=sumQ_b hA hB qs (k+1) (addQ p q) (fun x hx=>hq x (zbj2 _ hx)) ok'
  rw [zbm4,show k+(qs.length+1)=k+1+qs.length by lia]
  exact i
theorem sum_sm {qs:List (Int×Nat)} (h:Shs qs):sm (sumQ qs).1=true∧sm ((sumQ qs).2:Int)=true:=by
 have q:=sumQ_b (A:=1000000000000000000) (B:=1000) (by decide) (by decide) qs 0 (0,1) (fun q hq=>⟨(h.bt q hq).1,(h.bt q hq).2,h.tp q hq⟩) ⟨by decide,by simp,by simp⟩
 have l:=h.len
 have b1:(0+qs.length)*1000000000000000000*1000 ^ (0+qs.length)≤201*1000000000000000000*1000 ^ 201:=zbo0 (zbn3 _ (by lia)) (zbm9 (by decide) (by lia))
 have b2:1000 ^ (0+qs.length)≤201*1000000000000000000*1000 ^ 201:=zbk3 (zbm9 (by decide) (show 0+qs.length≤201 by lia)) (zbm3 _ (by decide))
 exact⟨smA (zbk1 (zbk3 q.a1 b1) bigS),smN (zbk1 (zbk3 q.b2 b2) bigS)⟩
theorem hqs_shs {n:Nat} (h:n≤20):Shs (hqs n):=⟨by simp [hqs];lia,fun q hq=>by
  obtain⟨i,hi,rfl⟩:=zbm5.mp hq
  rw [zbt7]at hi
  exact⟨by show 1≤i+1;lia,by show i+1≤1000;lia⟩,fun q hq=>by
  obtain⟨i,hi,rfl⟩:=zbm5.mp hq
  show (1:Int).natAbs≤_
  decide⟩
def pick (qs:List (Int×Nat)) (s:List Int):List (Int×Nat):=s.map fun x=>qs.getD x.toNat (0,1)
theorem pick_mem {qs:List (Int×Nat)}{s:List Int} (hs:∀x∈s,0≤x∧x<(qs.length:Int)):∀q∈pick qs s,q∈qs:=fun q hq=>by
 obtain⟨x,hx,rfl⟩:=zbm5.mp hq
 rw [zbk5,zbj6 (by have:=hs x hx;lia)]
 exact zbq4 _
theorem pick_sum {qs:List (Int×Nat)}{s:List Int} (hs:∀x∈s,0≤x∧x<(qs.length:Int)):((pick qs s).map fun q=>q.1*((lcL qs / q.2:Nat):Int)).sum=sumS (tps qs) s:=by
 unfold pick sumS
 rw [zbp4]
 congr 1
 refine zbs0 fun x hx=>?_
 have h:=hs x hx
 have hl:x.toNat<qs.length:=by lia
 show (qs.getD x.toNat (0,1)).1*((lcL qs / (qs.getD x.toNat (0,1)).2:Nat):Int)=(tps qs).getD x.toNat 0
 unfold tps
 rw [zbk5,zbk5,zbo4,zbj6 hl]
 rfl
theorem turn_Ll (s0 s1 s2 s5 s6:Sl) {qs:List (Int×Nat)} (hq:Shs qs) {s:List Int} (hs:∀x∈s,0≤x∧x<(qs.length:Int)) (hl:s.length≤20):∃u5 u6,bdLl [s0,s1,s2,.val (.lst (qs.map qD)),.val (rwD s),s5,s6]=some (if payS (tps qs) (lcL qs) s then .nx [s0,s1,s2,.val (.lst (qs.map qD)),.val (rwD s),u5,u6] else .rt (.cl (.bl false))):=by
 let t0:Th:=[s0,s1,s2,.val (.lst (qs.map qD)),.val (rwD s),s5,s6]
 have a1:(ze3 1 [3] (fsL (dVar 4)) (za6 0) zc7 (d2 kIx (dVar 1) (dVar 0))) t0=some (.nw ((pick qs s).map qD)):=by
  have:=zu6 (e:=D.int) (p:=fun _=>true) (g:=fun x=>qD (qs.getD x.toNat (0,1))) (ft:=zc7) (fe:=d2 kIx (dVar 1) (dVar 0)) (t:=t0) (f:=dVar 4) (r:=.cl (rwD s)) (xs:=s) (cap:=[3]) (b:=true) (c:=[.lst (qs.map qD)]) rfl rfl rfl (by lia) (fun _ _=>rfl)
   (fun x hx _=>by
    have h:=hs x hx
    have hl:x.toNat<qs.length:=by lia
    exact⟨_,zbd3 (fa:=dVar 1) (fb:=dVar 0) (t:=[.val (.int x),.val (.lst (qs.map qD))]) (r1:=.cl (.lst (qs.map qD))) (b:=x.toNat) (q:=qs.getD x.toNat (0,1)) rfl rfl (by show some (Ev.cl (.int x))=_;rw [zbr9 h.1]) (by rw [zbk5,zbj6 hl];rfl),rfl⟩) (.inr rfl)
  rw [this,zbn2.mpr fun _ _=>rfl]
  unfold pick
  rw [zbp4]
  rfl
 have pm:=pick_mem hs
 have shp:Shs (pick qs s):=⟨by unfold pick;rw [zbl5];lia,fun q h=>hq.bt q (pm q h),fun q h=>hq.tp q (pm q h)⟩
 have E1:=ze4 (i:=5) ((zj7 a1).trans (zl3 (G:=zh0) (rs:=[.nw ((pick qs s).map qD)]) (sum_sh shp) (zas7 _))) (by simp [t0])
 let p:=sumQ (pick qs s)
 let t1:Th:=[s0,s1,s2,.val (.lst (qs.map qD)),.val (rwD s),.val (qD p),s6]
 have E2:=ze4 (i:=6) ((zj7 (zr3 (f:=dVar 4) (t:=t1) (r:=.cl (rwD s)) (xs:=s) rfl rfl)).trans (zl3 (G:=zi1) (rs:=[.cl (.int (s.length:Int))]) (lharm_is hl) (zas7 _))) (by simp [t1])
 let h:=sumQ (hqs s.length)
 let t2:Th:=[s0,s1,s2,.val (.lst (qs.map qD)),.val (rwD s),.val (qD p),.val (qD h)]
 obtain⟨p0,p1⟩:=ix_q (fa:=dVar 5) (t:=t2) (q:=p) rfl
 obtain⟨h0,h1⟩:=ix_q (fa:=dVar 6) (t:=t2) (q:=h) rfl
 obtain⟨sp0,sp1⟩:=sum_sm shp
 obtain⟨sh0,sh1⟩:=sum_sm (hqs_shs hl)
 have g:=zaw5 (zi0 p0 h1 sp0 sh1) (zi0 h0 p1 sh0 sp1)
 have dv:∀q∈pick qs s,1≤q.2∧q.2 ∣ lcL qs:=fun q hq'=>⟨(hq.bt q (pm q hq')).1,(zac7 qs 1 zbv3 hq.bt).2.2.1 q (pm q hq')⟩
 obtain⟨vq,_⟩:=sum_vq dv
 rw [pick_sum hs]at vq
 have ev:=vq_pay vq (zbc4 hq) s.length
 have g:dBo _ t2=some (!payS (tps qs) (lcL qs) s):=g.trans (by unfold payS;rw [zcd4];exact congrArg some ev)
 refine⟨.val (qD p),.val (qD h),(za8 E1).trans ((za8 E2).trans ?_)⟩
 cases hp:payS (tps qs) (lcL qs) s with
 |true =>
  rw [hp]at g
  exact grd' g
 |false =>
  rw [hp]at g
  exact zaf0 g rfl
theorem zbb7 (s0 s1 s2:Sl) {qs:List (Int×Nat)} (hq:Shs qs):∀(ss:List (List Int)) (s4 s5 s6:Sl),(∀s∈ss,(∀x∈s,0≤x∧x<(qs.length:Int))∧s.length≤20)→∃u4 u5 u6,forD (za6 4) bdLl (ss.map rwD) [s0,s1,s2,.val (.lst (qs.map qD)),s4,s5,s6]=some (if ss.all (payS (tps qs) (lcL qs)) then .nx [s0,s1,s2,.val (.lst (qs.map qD)),u4,u5,u6] else .rt (.cl (.bl false)))
 |[],s4,s5,s6,_=>⟨s4,s5,s6,rfl⟩
 |s::ss,s4,s5,s6,h=>by
  have hs:=h s (by simp)
  obtain⟨u5,u6,e⟩:=turn_Ll s0 s1 s2 s5 s6 hq hs.1 hs.2
  obtain⟨v4,v5,v6,i⟩:=zbb7 s0 s1 s2 hq ss (.val (rwD s)) u5 u6 fun x hx=>h x (zbj2 _ hx)
  refine⟨v4,v5,v6,?_⟩
  rw [zbk4,zbn4]
  cases hp:payS (tps qs) (lcL qs) s with
  |true =>
   rw [hp]at e
   exact (zk6 (t1:=[s0,s1,s2,.val (.lst (qs.map qD)),.val (rwD s),s5,s6]) rfl e).trans i
  |false =>
   rw [hp]at e
   exact zao9 (t1:=[s0,s1,s2,.val (.lst (qs.map qD)),.val (rwD s),s5,s6]) rfl e
theorem zbc3:∀(r:List Int) (m:Int),zk9 m r<0↔∃x∈m::r,x<0:=fun r m=>by
 obtain⟨h1,h2⟩:=zt9 r m
 exact⟨fun h=>⟨_,h1,h⟩,fun ⟨x,hx,h⟩=>zca6 (h2 x hx) h⟩
theorem neq_q {p:Int×Nat}{n:Nat}{r1 r2:Ev} (h1:r1.d=qD p) (h2:r2.d=qD ((n:Int),1)):kNe r1 r2=some (.cl (.bl (!decide (p=((n:Int),1))))):=by
 unfold kNe
 rw [h1,h2]
 obtain⟨a,b⟩:=p
 have:decide ((a,b)=((n:Int),1))=(decide (a=(n:Int))&&decide ((b:Int)=((1:Nat):Int))):=by
  rw [← Bool.decide_and]
  exact decide_eq_decide.mpr ⟨fun e=>by cases e;exact⟨rfl,rfl⟩,fun ⟨e1,e2⟩=>by rw [e1,show b=1 by lia]⟩
 rw [this,show qD (a,b)=.tup [.int a,.int (b:Int)] from rfl,show qD ((n:Int),1)=.tup [.int (n:Int),.int ((1:Nat):Int)] from rfl]
 generalize ((1:Nat):Int)=o
 generalize (b:Int)=b'
 generalize (n:Int)=n'
 simp [eqOk,eqD,eqDs]
theorem llets_is {M:Nat} (m0:0<M) (hM:M≤20) {ss:List (List Int)} (nd:∀s∈ss,s.Nodup) (hs:∀s∈ss,∀x∈s,0≤x∧x<(M:Int)) {ch:List Int} (hc:ch.length≤1000) {qs:List (Int×Nat)} (hq:Shs qs):zl6 [.int (M:Int),mD ss,.lst (ch.map D.int),.lst (qs.map qD)]=some (.cl (.bl (zr9 M ss ch qs))):=by
 let t0:Th:=[.val (.int (M:Int)),.val (mD ss),.val (.lst (ch.map D.int)),.val (.lst (qs.map qD)),.no,.no,.no]
 have c1:=not_of (zr4 ((zau0 (rfl:dVar 0 t0=some (.cl (.int (M:Int)))) (rfl:dVar 1 t0=some (.cl (mD ss))) (rfl:dVar 2 t0=some (.cl (.lst (ch.map D.int))))).trans (zl3 (G:=zh5) (rs:=[.cl (.int (M:Int)),.cl (mD ss),.cl (.lst (ch.map D.int))]) (zaw4 (by lia) hs hc) rfl)))
 have l3:(dT1 kLen (za2 (dVar 3) dNil)) t0=some (.cl (.int (qs.length:Int))):=by
  rw [zj7 (rfl:dVar 3 t0=some (.cl (.lst (qs.map qD))))]
  show some (Ev.cl (.int ((qs.map qD).length:Int)))=_
  rw [zbl5]
 have c2:=zba8 l3 (rfl:dVar 0 t0=some (.cl (.int (M:Int))))
 have e0:decide ((qs.length:Int)=(M:Int))=decide (qs.length=M):=decide_eq_decide.mpr (by lia)
 rw [e0]at c2
 have Lp:=zbc4 hq
 have c3:qs.length=M→dBo (d2 qL (dT1 (zx7 zk9) (za2 (ze3 1 [] (fsL (dVar 3)) (za6 0) zc7 (d2 kIx (dVar 0) (dC (.int 0)))) dNil)) (dC (.int 0))) t0=some (((tps qs).map fun x=>decide (x<0)).any id):=fun hl=>by
  have a1:(ze3 1 [] (fsL (dVar 3)) (za6 0) zc7 (d2 kIx (dVar 0) (dC (.int 0)))) t0=some (.nw ((qs.map Prod.fst).map D.int)):=by
   have:=zu6 (e:=qD) (p:=fun _=>true) (g:=fun q=>D.int q.1) (ft:=zc7) (fe:=d2 kIx (dVar 0) (dC (.int 0))) (t:=t0) (f:=dVar 3) (r:=.cl (.lst (qs.map qD))) (xs:=qs) (cap:=[]) (b:=true) (c:=[]) rfl rfl rfl (by have:=hq.len;lia) (fun _ _=>rfl) (fun q _ _=>⟨_,(ix_q (fa:=dVar 0) (t:=[.val (qD q)]) (q:=q) rfl).1,rfl⟩) (.inr rfl)
   rw [this,zbn2.mpr fun _ _=>rfl,zbp4]
   rfl
  have a2:=extl_of a1 rfl (by rw [zbl5];lia)
  refine (zav8 a2 (rfl:dC (.int 0) t0=some (.cl (.int 0)))).trans ?_
  congr 1
  rw [zbp7,decide_eq_true_eq,any_id]
  cases qs with
  |nil=>simp at hl;lia
  |cons q qs' =>
   show zk9 q.1 (qs'.map Prod.fst)<0↔_
   rw [zbc3]
   have sg:∀p∈q::qs',(p.1<0↔p.1*((lcL (q::qs') / p.2:Nat):Int)<0):=fun p hp=>by
    have b:=hq.bt p hp
    have dv:=(zac7 (q::qs') 1 zbv3 hq.bt).2.2.1 p hp
    have pos:0<lcL (q::qs') / p.2:=zcf3 (Nat.le_of_dvd Lp dv) b.1
    have pos':(0:Int)<((lcL (q::qs') / p.2:Nat):Int):=by lia
    constructor
    ·exact fun h=>Int.mul_neg_of_neg_of_pos h pos'
    ·intro h
     refine Classical.byContradiction fun z=>?_
     have:=Int.mul_nonneg (Int.not_lt.mp z) (zcd6 pos')
     lia
   constructor
   ·rintro ⟨x,hx,h⟩
    have hx:x∈(q::qs').map Prod.fst:=hx
    obtain⟨p,hp,rfl⟩:=zbm5.mp hx
    exact⟨_,zbm5.mpr ⟨p,hp,rfl⟩,by rw [decide_eq_true_eq];exact (sg p hp).mp h⟩
   ·rintro ⟨x,hx,h⟩
    obtain⟨p,hp,rfl⟩:=zbm5.mp hx
    rw [decide_eq_true_eq]at h
    exact⟨p.1,zbm5.mpr ⟨p,hp,rfl⟩,(sg p hp).mpr h⟩
 have sv:=sum_vq (L:=lcL qs) (qs:=qs) fun q h=>⟨(hq.bt q h).1,(zac7 qs 1 zbv3 hq.bt).2.2.1 q h⟩
 have wh:=vq_whole sv.1 sv.2 Lp ch.length
 have a4:=(zj7 (rfl:dVar 3 t0=some (.cl (.lst (qs.map qD))))).trans (zl3 (G:=zh0) (rs:=[.cl (.lst (qs.map qD))]) (sum_sh hq) (zas7 _))
 have a5:=(zg5 (k:=kTup) (zr3 (f:=dVar 2) (t:=t0) (r:=.cl (.lst (ch.map D.int))) (xs:=ch) rfl rfl) (rfl:dC (.int 1) t0=some (.cl (.int 1)))).trans (rfl:_=some (Ev.cl (qD ((ch.length:Int),1))))
 have c6:=bo_of ((zh7 (k:=kNe) a4 a5).trans (neq_q rfl rfl))
 rw [wh]at c6
 show (zw0 t0).bind zk5=_
 unfold zr9
 have fa:∀ {b:Bool}{g:DS},dOr (dNot (dTr (dT1 (zc3 zh5) (za2 (dVar 0) (za2 (dVar 1) (za2 (dVar 2) dNil)))))) (dOr (dBo (d2 kNe (dT1 kLen (za2 (dVar 3) dNil)) (dVar 0))) (dBo (d2 qL (dT1 (zx7 zk9) (za2 (ze3 1 [] (fsL (dVar 3)) (za6 0) zc7 (d2 kIx (dVar 0) (dC (.int 0)))) dNil)) (dC (.int 0))))) t0=some (!isCh M ss ch||(!decide (qs.length=M)||((tps qs).map fun x=>decide (x<0)).any id)):=fun {b g}=>or_of c1 fun _=>or_of c2 fun h=>c3 (by simpa using h)
 have c7:=fa (b:=true) (g:=zf0)
 cases h1:(isCh M ss ch&&decide (qs.length=M)&&!((tps qs).map fun x=>decide (x<0)).any id) with
 |false =>
  rw [zbs6,zbs6]
  have E1:=zaf0 (g:=zf0) (d:=.bl false) c7 (by
   revert h1
   generalize isCh M ss ch=x
   generalize decide (qs.length=M)=y
   generalize ((tps qs).map fun x=>decide (x<0)).any id=z
   cases x<;>cases y<;>cases z<;>simp)
  exact bnd (seq_rt E1)
 |true =>
  have h1':=h1
  simp only [zbj5,decide_eq_true_eq,zbv1]at h1'
  have E1:=grd (g:=dRet (dC (.bl false))) c7 (by rw [h1'.1.1,decide_eq_true h1'.1.2,h1'.2];rfl)
  cases h2:decide ((tps qs).sum=(ch.length:Int)*(lcL qs:Int)) with
  |false =>
   have c6:=c6.trans (congrArg (fun b=>some (!b)) h2)
   exact bnd ((za8 E1).trans (seq_rt (zaf0 c6 rfl)))
  |true =>
   have c6:=c6.trans (congrArg (fun b=>some (!b)) h2)
   have E2:=grd' (g:=dRet (dC (.bl false))) c6
   obtain⟨u4,u5,u6,e⟩:=zbb7 (.val (.int (M:Int))) (.val (mD ss)) (.val (.lst (ch.map D.int))) hq ss .no .no .no fun s h=>⟨fun x hx=>by rw [h1'.1.2];exact hs s h x hx,zbk3 (AllK.len ⟨nd s h,hs s h⟩) hM⟩
   have E3:dFor (za6 4) (dVar 1) bdLl t0=_:=(zaa7 (r:=.cl (mD ss)) rfl rfl rfl).trans e
   cases hp:ss.all (payS (tps qs) (lcL qs)) with
   |true =>
    rw [hp]at E3
    exact bnd ((za8 E1).trans ((za8 E2).trans ((za8 E3).trans rfl)))
   |false =>
    rw [hp]at E3
    exact bnd ((za8 E1).trans ((za8 E2).trans (seq_rt E3)))
theorem zt7 {M:Nat} (hM:M≤400) {ss:List (List Int)} (hv:∀s∈ss,s.Nodup∧∀x∈s,0≤x∧x<(M:Int)) {ch:List Int} (hc:ch.length≤1000) {qs:List (Int×Nat)} (hq:Shs qs) {r1 r2 r3:Ev} (h1:r1.d=mD ss) (h2:r2.d=.lst (ch.map D.int)) (h3:r3.d=.lst (qs.map qD)) {b:Bool} (hb:zr9 M ss ch qs=b):zc3 zb9 [.cl (.int (M:Int)),r1,r2,r3]=some (.cl (.bl b)):=by
 have e:=lets_is hM (fun s hs=>(hv s hs).1) (fun s hs=>(hv s hs).2) hc hq
 rw [hb]at e
 unfold zc3
 have em:[Ev.cl (.int (M:Int)),r1,r2,r3].map Ev.d=[.int (M:Int),mD ss,.lst (ch.map D.int),.lst (qs.map qD)]:=by
  show [D.int (M:Int),r1.d,r2.d,r3.d]=_
  rw [h1,h2,h3]
 rw [em,e]
 show some (upEv ([Ev.cl (.int (M:Int)),r1,r2,r3].all Ev.ok) (.cl (.bl b)))=_
 cases [Ev.cl (.int (M:Int)),r1,r2,r3].all Ev.ok<;>rfl
theorem zag9 (q:Nat):∀s∈(zb4 q).map (fun x=>[x])++[zb4 q],s.Nodup∧∀x∈s,0≤x∧x<(q:Int):=fun s hs=>by
 rcases zbj4.mp hs with z | z
 ·obtain⟨x,hx,rfl⟩:=zbm5.mp z
  exact⟨by simp,fun y hy=>by rw [zbk6.mp hy];exact ze9 hx⟩
 ·rw [zbk6.mp z]
  exact⟨zr7 _,fun y hy=>ze9 hy⟩
theorem sing_no:∀g,g<9→zr9 (2+g) ((zb4 (2+g)).map (fun x=>[x])++[zb4 (2+g)]) (zb4 (2+g)) (zbj8 (2+g) ((1,1):Int×Nat))=false:=by decide +kernel
theorem sing_yes:∀g,g<9→zr9 (2+g) ((zb4 (2+g)).map (fun x=>[x])++[zb4 (2+g)]) [((2+g:Nat):Int)] (zbj8 (2+g) ((1,2+g):Int×Nat))=true:=by decide +kernel
theorem zad7 {n:Nat}{q:Int×Nat} (hn:n≤200) (h1:1≤q.2) (h2:q.2≤1000) (h3:q.1.natAbs≤1000):Shs (zbj8 n q):=⟨by simp;exact hn,fun p hp=>by rw [zbo3 hp];exact⟨h1,h2⟩,fun p hp=>by rw [zbo3 hp];lia⟩
def four:List (List Int):=[[0,1],[2,3],[0,1,2,3],[0,2]]
def fsh:List (Int×Nat):=[(4,5),(1,5),(4,5),(1,5)]
theorem four_no:zr9 4 four [0,1] fsh=false:=by decide +kernel
theorem four_yes:zr9 4 (four.take 3) [0,1] fsh=true:=by decide +kernel
theorem two_yes:zr9 2 [[0],[1]] [0,1] [(1,1),(1,1)]=true:=by decide +kernel
def prts:List (List Int):=(zb4 6).map fun k=>(zb4 20).map fun x=>20*k+x
theorem prt_yes:zr9 120 (prts++[zb4 104]) (zb4 6) (zbj8 120 ((1,20):Int×Nat))=true:=by decide +kernel
theorem prt_no:zr9 120 (prts++[zb4 105]) (zb4 6) (zbj8 120 ((1,20):Int×Nat))=false:=by decide +kernel
theorem v_dec {M:Nat}{ss:List (List Int)} (h:(ss.all fun s=>decide s.Nodup&&s.all fun x=>decide (0≤x)&&decide (x<(M:Int)))=true):∀s∈ss,s.Nodup∧∀x∈s,0≤x∧x<(M:Int):=fun s hs=>by
 have:=zbr1.mp h s hs
 simp only [zbj5,decide_eq_true_eq,zbr1]at this
 exact⟨this.1,fun x hx=>this.2 x hx⟩
theorem prt_v {k:Nat} (h:k≤120):∀s∈prts++[zb4 k],s.Nodup∧∀x∈s,0≤x∧x<((120:Nat):Int):=fun s hs=>by
 rcases zbj4.mp hs with z | z
 ·exact v_dec (M:=120) (ss:=prts) (by decide +kernel) s z
 ·rw [zbk6.mp z]
  exact⟨zr7 _,fun y hy=>⟨(ze9 hy).1,by have:=(ze9 hy).2;lia⟩⟩
theorem one_le (n:Nat) (h:0<n):hB n≤hA n:=by
 have e:=hAB (N:=n) (n:=n) (zbl1 _)
 have hw:fct n≤Hw (wP n) n:=by
  have m:=zbi8 (wP n) (a:=1) (b:=n) h
  have:Hw (wP n) 1=fct n:=by
   show 0+wP n 1=_
   unfold wP
   simp
  lia
 refine Nat.le_of_mul_le_mul_right (c:=fct n) ?_ (zp9 n)
 rw [e]
 exact zbs1 _ hw
theorem lc_rep {M:Nat} (h:0<M):∀n,lcQ (zbj8 n ((1,M):Int×Nat)) M=M
 |0=>rfl
 |n+1=>by
  show lcQ (zbj8 n ((1,M):Int×Nat)) (lcF M M)=M
  have:lcF M M=M:=by
   unfold lcF
   rw [Nat.gcd_self,Nat.div_self h,zbv5]
  rw [this]
  exact lc_rep h n
theorem zad5 {f:Int→Int}:∀l:List Int,(∀x∈l,f x=1)→(l.map f).sum=(l.length:Int)
 |[],_=>rfl
 |a::l,h=>by
  rw [zbk4,zcb3,h a (by simp),zad5 l fun x hx=>h x (zbj2 _ hx),zbm4]
  lia
theorem zax1 {M:Nat} (h:0<M):zr9 M [zb4 M] [0] (zbj8 M ((1,M):Int×Nat))=true:=by
 have lc:lcL (zbj8 M ((1,M):Int×Nat))=M:=by
  obtain⟨k,rfl⟩:∃k,M=k+1:=⟨M - 1,by lia⟩
  show lcQ (zbj8 k ((1,k+1):Int×Nat)) (lcF 1 (k+1))=k+1
  have:lcF 1 (k+1)=k+1:=by
   unfold lcF
   rw [Nat.gcd_one_left]
   simp
  rw [this]
  exact lc_rep (by lia) k
 have tp:tps (zbj8 M ((1,M):Int×Nat))=zbj8 M 1:=by
  unfold tps
  rw [lc,zbo7]
  congr 1
  show (1:Int)*((M / M:Nat):Int)=1
  rw [Nat.div_self h]
  rfl
 have nl:(zb4 M).length=M:=by simp [zb4]
 have ic:isCh M [zb4 M] [0]=true:=by
  unfold isCh
  have e3:(zb4 M).filter (fun x=>decide (x∉hads [zb4 M] [0]))=[]:=by
   refine zby9.mpr fun x hx=>?_
   have:x∈hads [zb4 M] [0]:=mem_hads.mpr (.inr ⟨0,by simp,by simpa using hx⟩)
   simpa using this
  rw [e3]
  rfl
 unfold zr9
 rw [ic,tp,lc,decide_eq_true (by simp)]
 have e1:((zbj8 M (1:Int)).map fun x=>decide (x<0)).any id=false:=by
  cases z:((zbj8 M (1:Int)).map fun x=>decide (x<0)).any id with
  |false=>rfl
  |true =>
   obtain⟨x,hx,h0⟩:=any_id.mp z
   rw [zbo3 hx]at h0
   cases h0
 have e2:(zbj8 M (1:Int)).sum=(([0]:List Int).length:Int)*(M:Int):=by
  have:=zad5 (f:=id) (zbj8 M (1:Int)) fun x hx=>zbo3 hx
  rw [List.map_id,zbn0]at this
  rw [this]
  simp
 have e3:payS (zbj8 M 1) M (zb4 M)=true:=by
  unfold payS
  rw [zbv1,decide_eq_false_iff_not,nl]
  have:sumS (zbj8 M 1) (zb4 M)=(M:Int):=by
   unfold sumS
   rw [zad5,nl]
   intro x hx
   have:=ze9 hx
   rw [zbk5,zbj6 (by rw [zbn0];lia)]
   simp
  rw [this,zbo6]
  have o:=one_le M h
  have:=Int.mul_le_mul_of_nonneg_left (show (hB M:Int)≤(hA M:Int) by lia) (show (0:Int)≤(M:Int) by lia)
  lia
 rw [e1,decide_eq_true e2,zbn4,e3]
 rfl
def okF:Option Ev→Bool
 |some (.cl (.bl false))=>true
 |_=>false
theorem okF_eq {x:Option Ev} (h:okF x=true):x=some (.cl (.bl false)):=by
 unfold okF at h
 split at h
 ·rfl
 ·cases h
def nearD:D:=.lst [.tup [.int 1000000000000001,.int 1000000000000000],.tup [.int 999999999999999,.int 1000000000000000]]
theorem near_no:okF (zb9 [.int 2,.lst [.lst [.int 0],.lst [.int 1]],.lst [.int 0,.int 1],nearD])=true:=by kernel_rfl
theorem zbh0 {fa fb:DE}{t:Th}{r1 r2:Ev}{xs ys:List D} (h1:fa t=some r1) (h2:fb t=some r2) (e1:r1.d=.lst xs) (e2:r2.d=.lst ys) (f1:r1.ok=true) (f2:r2.ok=true) (hl:xs.length+ys.length≤100000):(d2 qA fa fb) t=some (.nw (xs++ys)):=by
 rw [zh7 h1 h2]
 (try unfold qA);(try unfold qM);unfold kOr
 have z:kI tt2 (fun i j=>D.int (i+j)) r1 r2=none:=by (try unfold qA);(try unfold qS);(try unfold qM);(try unfold qV);(try unfold qR);(try unfold qL);(try unfold qE);(try unfold qG);(try unfold qP);unfold kI;rw [e1,e2]
 rw [z]
 show kCat r1 r2=_
 unfold kCat
 rw [e1,e2]
 show (if (r1.ok||flats xs)&&(r2.ok||flats ys)&&decide (xs.length+ys.length≤100000) then some (Ev.nw (xs++ys)) else none)=_
 rw [f1,f2,zbx2,zbx2,decide_eq_true hl,if_pos (by rfl)]
theorem modC {fa:DE}{t:Th}{a:Int}{m:Nat} (h:fa t=some (.cl (.int a))) (m0:0<m):∃k:Nat,k<m∧(d2 qR fa (dC (.int (m:Int)))) t=some (.cl (.int (k:Int))):=by
 obtain⟨k,hk,kl⟩:=modN a m0
 refine⟨k,kl,?_⟩
 rw [← hk]
 exact zg7 h (rfl:dC (.int (m:Int)) t=some (.cl (.int (m:Int)))) (by lia)
theorem parts_is (t:Th):(ze3 1 [] (fsR1 (dC (.int 6))) (za6 0) zc7 (zg4 (za2 (d2 qM (dC (.int 20)) (dVar 0)) (za2 (d2 qA (d2 qM (dC (.int 20)) (dVar 0)) (dC (.int 20))) dNil)))) t=some (.nw (prts.map rwD)):=by kernel_rfl
theorem made_is (c:Int):zh1 [.int c]=some (.cl (.bl true)):=by
 let C:Sl:=.val (.int c)
 let t0:Th:=[C,.no,.no,.no,.no,.no,.no,.no]
 obtain⟨m,_,em⟩:=zn1 c 2 (by decide)
 obtain⟨g,gl,eg⟩:=modC (m:=9) ((zg5 (rfl:dVar 0 t0=some (.cl (.int c))) (rfl:dC (.int 2) t0=some (.cl (.int ((2:Nat):Int))))).trans em) (by decide)
 have b1:=zf8 (fa:=dC (.int 2)) (a:=2) rfl eg
 rw [show (2:Int)+(g:Int)=((2+g:Nat):Int) by lia]at b1
 have sn:=sing_no g gl
 have sy:=sing_yes g gl
 have q10:2+g≤10:=by lia
 have q1:1≤2+g:=by lia
 generalize 2+g=q at b1 sn sy q10 q1
 have E1:=ze4 (i:=1) b1 (by simp [t0])
 let Q:Sl:=.val (.int (q:Int))
 let t1:Th:=[C,Q,.no,.no,.no,.no,.no,.no]
 let sg:List (List Int):=(zb4 q).map (fun x=>[x])++[zb4 q]
 have a2:(zn4 1 [] (fsR1 (dVar 1)) (za6 0) zc7 (dT1 kLst (za2 (dVar 0) dNil))) t1=some (.dn (.lst ((zb4 q).map fun x=>.lst [.int x]))):=compN_R (g:=fun x=>.lst [.int x]) (r:=.cl (.int (q:Int))) (n:=q) (b:=true) (c:=[]) rfl rfl rfl (by lia) (fun x _=>⟨.nw [.int x],rfl,rfl⟩)
 have lr:=zav9 (f:=dVar 1) (t:=t1) (n:=q) rfl (by lia)
 have b2:(dT1 kLst (za2 (zg4 (za2 (dVar 1) dNil)) dNil)) t1=some (.nw [.lst ((zb4 q).map D.int)]):=(zj7 lr).trans rfl
 have c2:=zbh0 a2 b2 rfl rfl rfl rfl (by simp [zb4];lia)
 have es:(zb4 q).map (fun x=>D.lst [.int x])++[D.lst ((zb4 q).map D.int)]=sg.map rwD:=by
  show _=((zb4 q).map (fun x=>[x])++[zb4 q]).map rwD
  rw [zbp8,zbp4]
  rfl
 rw [es]at c2
 have E2:=zm2 (i:=2) c2 (by simp [t1])
 let t2:Th:=[C,Q,.own (sg.map rwD),.no,.no,.no,.no,.no]
 have nl:(zb4 q).length=q:=by simp [zb4]
 have rp3:=zr5 (fa:=dT1 kLst (za2 (dT1 kTup (za2 (dC (.int 1)) (za2 (dC (.int 1)) dNil))) dNil)) (fb:=dVar 1) (t:=t2) (d:=qD (1,1)) (m:=q) rfl rfl (by lia)
 have a3:=(zu8 (rfl:dVar 1 t2=some (.cl (.int (q:Int)))) (rfl:dVar 2 t2=some (.tm (.lst (sg.map rwD)))) (zav9 (f:=dVar 1) (t:=t2) (n:=q) rfl (by lia)) rp3).trans (zt7 (M:=q) (by lia) (zag9 q) (ch:=zb4 q) (by lia) (qs:=zbj8 q (1,1)) (zad7 (by lia) (by decide) (by decide) (by decide)) rfl rfl (by rw [zbo7];rfl) sn)
 have E3:=grd' (g:=dRet (dC (.bl false))) (zr4 a3)
 have rp4:=zr5 (fa:=dT1 kLst (za2 (dT1 kTup (za2 (dC (.int 1)) (za2 (dVar 1) dNil))) dNil)) (fb:=dVar 1) (t:=t2) (d:=qD (1,q)) (m:=q) rfl rfl (by lia)
 have a4:=(zu8 (rfl:dVar 1 t2=some (.cl (.int (q:Int)))) (rfl:dVar 2 t2=some (.tm (.lst (sg.map rwD)))) (rfl:(dT1 kLst (za2 (dVar 1) dNil)) t2=some (.nw [.int (q:Int)])) rp4).trans (zt7 (M:=q) (by lia) (zag9 q) (ch:=[(q:Int)]) (by simp) (qs:=zbj8 q (1,q)) (zad7 (by lia) q1 (by show q≤1000;lia) (by show (1:Int).natAbs≤1000;decide)) rfl rfl (by rw [zbo7];rfl) sy)
 have E4:=grd' (g:=dRet (dC (.bl false))) (not_of (zr4 a4))
 let S2:Sl:=.own (sg.map rwD)
 have E5:dAsg 3 (dT1 kLst (za2 (dT1 kLst (za2 (dC (.int 0)) (za2 (dC (.int 1)) dNil))) (za2 (dT1 kLst (za2 (dC (.int 2)) (za2 (dC (.int 3)) dNil))) (za2 (dT1 kLst (za2 (dC (.int 0)) (za2 (dC (.int 1)) (za2 (dC (.int 2)) (za2 (dC (.int 3)) dNil))))) (za2 (dT1 kLst (za2 (dC (.int 0)) (za2 (dC (.int 2)) dNil))) dNil))))) t2=some (.nx [C,Q,S2,.own (four.map rwD),.no,.no,.no,.no]):=rfl
 have E6:dAsg 4 (dT1 kLst (za2 (dT1 kTup (za2 (dC (.int 4)) (za2 (dC (.int 5)) dNil))) (za2 (dT1 kTup (za2 (dC (.int 1)) (za2 (dC (.int 5)) dNil))) (za2 (dT1 kTup (za2 (dC (.int 4)) (za2 (dC (.int 5)) dNil))) (za2 (dT1 kTup (za2 (dC (.int 1)) (za2 (dC (.int 5)) dNil))) dNil))))) [C,Q,S2,.own (four.map rwD),.no,.no,.no,.no]=some (.nx [C,Q,S2,.own (four.map rwD),.own (fsh.map qD),.no,.no,.no]):=rfl
 let t6:Th:=[C,Q,S2,.val (mD four),.own (fsh.map qD),.no,.no,.no]
 have v4:∀s∈four,s.Nodup∧∀x∈s,0≤x∧x<((4:Nat):Int):=v_dec (M:=4) (by decide +kernel)
 have sf:Shs fsh:=⟨by decide,by decide,by decide⟩
 have z01:∀t:Th,(dT1 kLst (za2 (dC (.int 0)) (za2 (dC (.int 1)) dNil))) t=some (.nw (([0,1]:List Int).map D.int)):=fun _=>rfl
 have a7:=(zu8 (rfl:dC (.int 4) t6=some (.cl (.int ((4:Nat):Int)))) (rfl:dVar 3 t6=some (.cl (mD four))) (z01 t6) (rfl:dVar 4 t6=some (.tm (.lst (fsh.map qD))))).trans (zt7 (M:=4) (by decide) v4 (ch:=[0,1]) (by decide) sf rfl rfl rfl four_no)
 have s7:dSlU (dC (.int 3)) (dVar 3) t6=some (.nw ((four.take 3).map rwD)):=rfl
 have b7:=(zu8 (rfl:dC (.int 4) t6=some (.cl (.int ((4:Nat):Int)))) s7 (z01 t6) (rfl:dVar 4 t6=some (.tm (.lst (fsh.map qD))))).trans (zt7 (M:=4) (by decide) (fun s hs=>v4 s (zbv8 hs)) (ch:=[0,1]) (by decide) sf rfl rfl rfl four_yes)
 have E7:=grd' (g:=dRet (dC (.bl false))) (zz6 (zr4 a7) (not_of (zr4 b7)))
 let S3:Sl:=.val (mD four)
 let S4:Sl:=.own (fsh.map qD)
 let nr:List D:=[.tup [.int 1000000000000001,.int 1000000000000000],.tup [.int 999999999999999,.int 1000000000000000]]
 have p15:∀t:Th,(d2 qP (dC (.int 10)) (dC (.int 15))) t=some (.cl (.int 1000000000000000)):=fun t=>by
  simp [d2,dC,kI,cPow,Ev.d]
 have n1:=(zg5 (k:=kTup) (zf8 (fb:=dC (.int 1)) (b:=1) (p15 t6) rfl) (p15 t6)).trans (rfl:_=some (Ev.cl (.tup [.int (1000000000000000+1),.int 1000000000000000])))
 have n2:=(zg5 (k:=kTup) (zag6 (fb:=dC (.int 1)) (b:=1) (p15 t6) rfl) (p15 t6)).trans (rfl:_=some (Ev.cl (.tup [.int (1000000000000000 - 1),.int 1000000000000000])))
 have a8:=(zg5 (k:=kLst) n1 n2).trans (rfl:_=some (Ev.nw [.tup [.int (1000000000000000+1),.int 1000000000000000],.tup [.int (1000000000000000 - 1),.int 1000000000000000]]))
 rw [show (1000000000000000+1:Int)=1000000000000001 by decide,show (1000000000000000 - 1:Int)=999999999999999 by decide]at a8
 have E8:=zm2 (i:=5) a8 (by simp [t6])
 let t8:Th:=[C,Q,S2,S3,S4,.own nr,.no,.no]
 have z2:∀t:Th,(dT1 kLst (za2 (dT1 kLst (za2 (dC (.int 0)) dNil)) (za2 (dT1 kLst (za2 (dC (.int 1)) dNil)) dNil))) t=some (.nw (([[0],[1]]:List (List Int)).map rwD)):=fun _=>rfl
 have k9:zc3 zb9 [.cl (.int 2),.nw (([[0],[1]]:List (List Int)).map rwD),.nw (([0,1]:List Int).map D.int),.tm (.lst nr)]=some (.cl (.bl false)):=by
  unfold zc3
  have em:[Ev.cl (.int 2),.nw (([[0],[1]]:List (List Int)).map rwD),.nw (([0,1]:List Int).map D.int),.tm (.lst nr)].map Ev.d=[.int 2,.lst [.lst [.int 0],.lst [.int 1]],.lst [.int 0,.int 1],nearD]:=rfl
  rw [em,okF_eq near_no]
  rfl
 have a9:=(zu8 (rfl:dC (.int 2) t8=some (.cl (.int 2))) (z2 t8) (z01 t8) (rfl:dVar 5 t8=some (.tm (.lst nr)))).trans k9
 have s11:(dT1 kLst (za2 (dT1 kTup (za2 (dC (.int 1)) (za2 (dC (.int 1)) dNil))) (za2 (dT1 kTup (za2 (dC (.int 1)) (za2 (dC (.int 1)) dNil))) dNil))) t8=some (.nw (([(1,1),(1,1)]:List (Int×Nat)).map qD)):=rfl
 have b9:=(zu8 (rfl:dC (.int 2) t8=some (.cl (.int ((2:Nat):Int)))) (z2 t8) (z01 t8) s11).trans (zt7 (M:=2) (by decide) (ss:=[[0],[1]]) (v_dec (M:=2) (by decide +kernel)) (ch:=[0,1]) (by decide) (qs:=[(1,1),(1,1)]) ⟨by decide,by decide,by decide⟩ rfl rfl rfl two_yes)
 have E9:=grd' (g:=dRet (dC (.bl false))) (zz6 (zr4 a9) (not_of (zr4 b9)))
 obtain⟨m2,_,em2⟩:=zn1 c 3 (by decide)
 obtain⟨g2,gl2,eg2⟩:=modC (m:=808) ((zg5 (rfl:dVar 0 t8=some (.cl (.int c))) (rfl:dC (.int 3) t8=some (.cl (.int ((3:Nat):Int))))).trans em2) (by decide)
 have b10:=zf8 (fa:=dC (.int 100)) (a:=100) rfl eg2
 rw [show (100:Int)+(g2:Int)=((100+g2:Nat):Int) by lia]at b10
 have w1:100≤100+g2:=by lia
 generalize 100+g2=w at b10 w1
 have E10:=ze4 (i:=6) b10 (by simp [t8])
 let W:Sl:=.val (.int (w:Int))
 let t10:Th:=[C,Q,S2,S3,S4,.own nr,W,.no]
 have c11:=zaw5 (fa:=dVar 6) (fb:=dC (.int 200)) (t:=t10) (a:=(w:Int)) (b:=200) rfl rfl
 show (zl9 t0).bind zk5=_
 by_cases h:(200:Int)<(w:Int)
 ·rw [decide_eq_true h]at c11
  have E11:=zaf0 (g:=zf0) (d:=.bl true) c11 rfl
  exact bnd ((za8 E1).trans ((za8 E2).trans ((za8 E3).trans ((za8 E4).trans ((za8 E5).trans ((za8 E6).trans ((za8 E7).trans ((za8 E8).trans ((za8 E9).trans ((za8 E10).trans (seq_rt E11)))))))))))
 ·rw [decide_eq_false h]at c11
  have E11:=grd' (g:=dRet (dC (.bl true))) c11
  have E12:=zm2 (i:=7) (parts_is t10) (by simp [t10])
  let t12:Th:=[C,Q,S2,S3,S4,.own nr,W,.own (prts.map rwD)]
  have lw:=zav9 (f:=dVar 6) (t:=t12) (n:=w) rfl (by lia)
  have b13:(dT1 kLst (za2 (zg4 (za2 (dVar 6) dNil)) dNil)) t12=some (.nw ([zb4 w].map rwD)):=(zj7 lw).trans rfl
  have rp13:=zr5 (fa:=dT1 kLst (za2 (dT1 kTup (za2 (dC (.int 1)) (za2 (dVar 6) dNil))) dNil)) (fb:=dVar 6) (t:=t12) (d:=qD (1,w)) (m:=w) rfl rfl (by lia)
  have a13:=(zu8 (rfl:dVar 6 t12=some (.cl (.int (w:Int)))) b13 (rfl:(dT1 kLst (za2 (dC (.int 0)) dNil)) t12=some (.nw (([0]:List Int).map D.int))) rp13).trans (zt7 (M:=w) (by lia) (ss:=[zb4 w]) (fun s hs=>by rw [zbk6.mp hs];exact⟨zr7 _,fun x hx=>ze9 hx⟩) (ch:=[0]) (by decide) (qs:=zbj8 w (1,w)) (zad7 (by lia) (by show 1≤w;lia) (by show w≤1000;lia) (by show (1:Int).natAbs≤1000;decide)) rfl rfl (by rw [zbo7];rfl) (zax1 (by lia)))
  have E13:=grd' (g:=dRet (dC (.bl false))) (not_of (zr4 a13))
  let t13:Th:=[C,Q,S2,S3,S4,.own nr,W,.val (mD prts)]
  have pl:(prts.map rwD).length=6:=rfl
  have l6:(zg4 (za2 (dC (.int 6)) dNil)) t13=some (.nw ((zb4 6).map D.int)):=zav9 (f:=dC (.int 6)) (t:=t13) (n:=6) rfl (by decide)
  have tail:∀(t:Th) (k:Nat),dVar 7 t=some (.cl (mD prts))→k≤120→(d2 qA (dVar 7) (dT1 kLst (za2 (zg4 (za2 (dC (.int (k:Int))) dNil)) dNil))) t=some (.nw ((prts++[zb4 k]).map rwD)):=fun t k hv hk=>by
   have b:(dT1 kLst (za2 (zg4 (za2 (dC (.int (k:Int))) dNil)) dNil)) t=some (.nw ([zb4 k].map rwD)):=(zj7 (zav9 (f:=dC (.int (k:Int))) (t:=t) (n:=k) rfl (by lia))).trans rfl
   rw [zbp8]
   exact zbh0 hv b rfl rfl rfl rfl (by rw [pl];show 6+1≤100000;decide)
  have rp14:=zr5 (fa:=dT1 kLst (za2 (dT1 kTup (za2 (dC (.int 1)) (za2 (dC (.int 20)) dNil))) dNil)) (fb:=dC (.int 120)) (t:=t13) (d:=qD (1,20)) (m:=120) rfl rfl (by decide)
  have sr:Shs (zbj8 120 ((1,20):Int×Nat)):=zad7 (by decide) (by decide) (by decide) (by decide)
  have n6:(zb4 6).length≤1000:=by decide
  have a14:=(zu8 (rfl:dC (.int 120) t13=some (.cl (.int ((120:Nat):Int)))) (tail t13 104 rfl (by decide)) l6 rp14).trans (zt7 (M:=120) (by decide) (prt_v (k:=104) (by decide)) (ch:=zb4 6) n6 sr rfl rfl (by rw [zbo7];rfl) prt_yes)
  have E14:dFrz 7 (dIfS (dNot (dTr (dT1 (zc3 zb9) (za2 (dC (.int 120)) (za2 (d2 qA (dVar 7) (dT1 kLst (za2 (zg4 (za2 (dC (.int 104)) dNil)) dNil))) (za2 (zg4 (za2 (dC (.int 6)) dNil)) (za2 (d2 qM (dT1 kLst (za2 (dT1 kTup (za2 (dC (.int 1)) (za2 (dC (.int 20)) dNil))) dNil)) (dC (.int 120))) dNil))))))) (dRet (dC (.bl false))) zf0) t12=some (.nx t13):=grd' (t:=t13) (g:=dRet (dC (.bl false))) (not_of (zr4 a14))
  have a15:=(zu8 (rfl:dC (.int 120) t13=some (.cl (.int ((120:Nat):Int)))) (tail t13 105 rfl (by decide)) l6 rp14).trans (zt7 (M:=120) (by decide) (prt_v (k:=105) (by decide)) (ch:=zb4 6) n6 sr rfl rfl (by rw [zbo7];rfl) prt_no)
  have b15:(d1 zai6 (dT1 (zc3 zb9) (za2 (dC (.int 120)) (za2 (d2 qA (dVar 7) (dT1 kLst (za2 (zg4 (za2 (dC (.int 105)) dNil)) dNil))) (za2 (zg4 (za2 (dC (.int 6)) dNil)) (za2 (d2 qM (dT1 kLst (za2 (dT1 kTup (za2 (dC (.int 1)) (za2 (dC (.int 20)) dNil))) dNil)) (dC (.int 120))) dNil)))))) t13=some (.cl (.bl true)):=by
   have h:=a15
   exact (show (d1 zai6 _) t13=zai6 (.cl (.bl false)) by unfold d1;exact (congrArg (fun o=>Option.bind o zai6) h).trans rfl).trans rfl
  exact bnd ((za8 E1).trans ((za8 E2).trans ((za8 E3).trans ((za8 E4).trans ((za8 E5).trans ((za8 E6).trans ((za8 E7).trans ((za8 E8).trans ((za8 E9).trans ((za8 E10).trans ((za8 E11).trans ((za8 E12).trans ((za8 E13).trans ((za8 E14).trans (zm8 b15)))))))))))))))
def bdGl:DS:=zaf5 7 (dVar 9) (dC (.bl true))
theorem zbd9 {M:Nat} (hM:M≤1000) {a0 a1 a2 a3 a4 a5 a6 s8:Sl}{r:Th}:∀ {s ks:List Int}{s9:Sl},AllK M ks→(∀x∈s,0≤x∧x<(M:Int))→∃u9,forJ (za6 9) bdGl (s.map D.int) (a0::a1::a2::a3::a4::a5::a6::.dp (dctT ks)::s8::s9::r)=some (a0::a1::a2::a3::a4::a5::a6::.dp (dctT (s.foldl putN ks))::s8::u9::r)
 |[],ks,s9,_,_=>⟨s9,rfl⟩
 |x::s,ks,s9,h,hs=>by
  have hx:=hs x (by simp)
  obtain⟨u9,e⟩:=zbd9 hM (a0:=a0) (a1:=a1) (a2:=a2) (a3:=a3) (a4:=a4) (a5:=a5) (a6:=a6) (s8:=s8) (r:=r) (s:=s) (s9:=.val (.int x)) (h.put hx.1 hx.2) fun y hy=>hs y (zbj2 _ hy)
  refine⟨u9,?_⟩
  have:=h.len
  have d:bdGl (a0::a1::a2::a3::a4::a5::a6::.dp (dctT ks)::s8::.val (.int x)::r)=some (.nx (a0::a1::a2::a3::a4::a5::a6::.dp (dctT (putN ks x))::s8::.val (.int x)::r)):=zbe7 (i:=7) (fk:=dVar 9) (r:=.cl (.int x)) rfl rfl rfl (by lia)
  have ek:za6 9 (.int x) (a0::a1::a2::a3::a4::a5::a6::.dp (dctT ks)::s8::s9::r)=some (a0::a1::a2::a3::a4::a5::a6::.dp (dctT ks)::s8::.val (.int x)::r):=by
   simp [za6,zn8]
  rw [zbk4]
  simp only [forJ,ek,zbj3,d]
  exact e
def bdGo:DS:=zbf7 9 (dVar 8) bdGl
theorem zas2 {M:Nat} (hM:M≤1000) {a0 a1 a2 a3 a4 a5 a6:Sl}{r:Th}:∀ {ss:List (List Int)}{ks:List Int}{s8 s9:Sl},AllK M ks→(∀s∈ss,∀x∈s,0≤x∧x<(M:Int))→∃u8 u9,forJ (za6 8) bdGo (ss.map rwD) (a0::a1::a2::a3::a4::a5::a6::.dp (dctT ks)::s8::s9::r)=some (a0::a1::a2::a3::a4::a5::a6::.dp (dctT (hadS ss ks))::u8::u9::r)
 |[],ks,s8,s9,_,_=>⟨s8,s9,rfl⟩
 |s::ss,ks,s8,s9,h,hs=>by
  have hx:=hs s (by simp)
  obtain⟨v9,e1⟩:=zbd9 hM (a0:=a0) (a1:=a1) (a2:=a2) (a3:=a3) (a4:=a4) (a5:=a5) (a6:=a6) (s8:=.val (rwD s)) (s9:=s9) (r:=r) h hx
  obtain⟨u8,u9,e⟩:=zas2 hM (a0:=a0) (a1:=a1) (a2:=a2) (a3:=a3) (a4:=a4) (a5:=a5) (a6:=a6) (r:=r) (ss:=ss) (s8:=.val (rwD s)) (s9:=v9) (h.fold hx) fun t ht=>hs t (zbj2 _ ht)
  refine⟨u8,u9,?_⟩
  have ek:za6 8 (rwD s) (a0::a1::a2::a3::a4::a5::a6::.dp (dctT ks)::s8::s9::r)=some (a0::a1::a2::a3::a4::a5::a6::.dp (dctT ks)::.val (rwD s)::s9::r):=by
   simp [za6,zn8]
  have d:bdGo (a0::a1::a2::a3::a4::a5::a6::.dp (dctT ks)::.val (rwD s)::s9::r)=some (.nx (a0::a1::a2::a3::a4::a5::a6::.dp (dctT (s.foldl putN ks))::.val (rwD s)::v9::r)):=by
   unfold bdGo zbf7
   show ((forJ (za6 9) bdGl (s.map D.int) (a0::a1::a2::a3::a4::a5::a6::.dp (dctT ks)::.val (rwD s)::s9::r)).map Out.nx)=_
   rw [e1]
   rfl
  rw [zbk4]
  simp only [forJ,ek,zbj3,d]
  exact e
theorem gill_is {M:Nat} (hM:M≤1000) {a0 a1 a2 a3 a4 a5 s8 s9:Sl}{r:Th}{ss:List (List Int)} (hs:∀s∈ss,∀x∈s,0≤x∧x<(M:Int)):∃u8 u9,dForO 6 8 bdGo (a0::a1::a2::a3::a4::a5::.own (ss.map rwD)::.dp (dctT [])::s8::s9::r)=some (.nx (a0::a1::a2::a3::a4::a5::.own (ss.map rwD)::.dp (dctT (hadS ss []))::u8::u9::r)):=by
 obtain⟨u8,u9,e⟩:=zas2 hM (a0:=a0) (a1:=a1) (a2:=a2) (a3:=a3) (a4:=a4) (a5:=a5) (a6:=.no) (r:=r) (ss:=ss) (ks:=[]) (s8:=s8) (s9:=s9) ⟨zbm2,fun x hx=>nomatch hx⟩ hs
 refine⟨u8,u9,?_⟩
 show ((forJ (za6 8) bdGo (ss.map rwD) (a0::a1::a2::a3::a4::a5::.no::.dp (dctT [])::s8::s9::r)).bind fun t'=>if 6<t'.length then some (Out.nx (t'.set 6 (.own (ss.map rwD)))) else none)=_
 rw [e]
 simp
theorem zbe1 (n:Nat):∀qs:List (Int×Nat),eqOk (n+2) (.lst (qs.map qD)) (.lst (qs.map qD))=true
 |[]=>rfl
 |q::qs=>by
  have:=zbe1 n qs
  simp only [eqOk]at this ⊢
  simp only [zbk4,zbq0,zbn4,this,zby4]
  cases n<;>rfl
theorem ne_hand {r1 r2:Ev} (ch:List Int) (qs:List (Int×Nat)) (h1:r1.d=.tup [.lst (ch.map D.int),.lst (qs.map qD)]) (h2:r2.d=.tup [.lst (ch.map D.int),.lst (qs.map qD)]):kNe r1 r2=some (.cl (.bl false)):=by
 unfold kNe
 rw [h1,h2,zat0]
 have e:eqOk 6 (.tup [.lst (ch.map D.int),.lst (qs.map qD)]) (.tup [.lst (ch.map D.int),.lst (qs.map qD)])=true:=by
  have a:=zaa8 4 ch
  have b:=zbe1 3 qs
  show (eqOk 5 (.lst (ch.map D.int)) (.lst (ch.map D.int))&&(eqOk 5 (.lst (qs.map qD)) (.lst (qs.map qD))&&true))=true
  rw [a,b]
  rfl
 rw [if_pos e]
 rfl
theorem k2I_of {f:Int→Int→Int}{fa fb:DE}{t:Th}{a b:Int} (h1:fa t=some (.cl (.int a))) (h2:fb t=some (.cl (.int b))):(dT1 (k2I f) (za2 fa (za2 fb dNil))) t=some (.cl (.int (f a b))):=(zg5 h1 h2).trans rfl
theorem zax4 {M:Nat} (m0:0<M) (hM:M≤20) {ss:List (List Int)} (hv:∀s∈ss,s.Nodup∧∀x∈s,0≤x∧x<(M:Int)) {ch:List Int} (hc:ch.length≤1000) {qs:List (Int×Nat)} (hq:Shs qs) (a0 a1 a3 a4 a5 a6 a7 a8 a9 a10 a11 s16:Sl) :
  ∃u16,bdTo [a0,a1,.val (.int (M:Int)),a3,a4,a5,a6,a7,a8,a9,a10,a11,.val (.lst (ch.map D.int)),.val (.lst (qs.map qD)),.val (.tup [.lst (ch.map D.int),.lst (qs.map qD)]),.val (mD ss),s16]=some (.nx [a0,a1,.val (.int (M:Int)),a3,a4,a5,a6,a7,a8,a9,a10,a11,.val (.lst (ch.map D.int)),.val (.lst (qs.map qD)),.val (.tup [.lst (ch.map D.int),.lst (qs.map qD)]),.val (mD ss),u16]):=by
 let t:Th:=[a0,a1,.val (.int (M:Int)),a3,a4,a5,a6,a7,a8,a9,a10,a11,.val (.lst (ch.map D.int)),.val (.lst (qs.map qD)),.val (.tup [.lst (ch.map D.int),.lst (qs.map qD)]),.val (mD ss),s16]
 have a:=(zu8 (rfl:dVar 2 t=some (.cl (.int (M:Int)))) (rfl:dVar 15 t=some (.cl (mD ss))) (rfl:(d2 kIx (dVar 14) (dC (.int 0))) t=some (.cl (.lst (ch.map D.int)))) (rfl:(d2 kIx (dVar 14) (dC (.int 1))) t=some (.cl (.lst (qs.map qD))))).trans (zt7 (M:=M) (by lia) hv hc hq rfl rfl rfl rfl)
 have E1:=ze4 (i:=16) a (by simp [t])
 generalize hb:zr9 M ss ch qs=b at E1
 let t1:Th:=[a0,a1,.val (.int (M:Int)),a3,a4,a5,a6,a7,a8,a9,a10,a11,.val (.lst (ch.map D.int)),.val (.lst (qs.map qD)),.val (.tup [.lst (ch.map D.int),.lst (qs.map qD)]),.val (mD ss),.val (.bl b)]
 have ll:=llets_is m0 hM (fun s h=>(hv s h).1) (fun s h=>(hv s h).2) hc hq
 rw [hb]at ll
 have l:=(zu8 (rfl:dVar 2 t1=some (.cl (.int (M:Int)))) (rfl:dVar 15 t1=some (.cl (mD ss))) (rfl:dVar 12 t1=some (.cl (.lst (ch.map D.int)))) (rfl:dVar 13 t1=some (.cl (.lst (qs.map qD))))).trans (zl3 (G:=zl6) (rs:=[.cl (.int (M:Int)),.cl (mD ss),.cl (.lst (ch.map D.int)),.cl (.lst (qs.map qD))]) ll rfl)
 have c1:dNot (dTr (dIsi "bool" (dVar 16))) t1=some false:=rfl
 have c2:dBo (d2 kNe (dVar 16) (dT1 (zc3 zl6) (za2 (dVar 2) (za2 (dVar 15) (za2 (dVar 12) (za2 (dVar 13) dNil)))))) t1=some false:=bo_of ((zh7 (rfl:dVar 16 t1=some (.cl (.bl b))) l).trans (by cases b<;>rfl))
 exact⟨.val (.bl b),(za8 E1).trans (grd' (zz6 c1 c2))⟩
end KX
set_option maxHeartbeats 300000
namespace KX
open PySem.Spec L2 DL
theorem tk_of (ss:List (List Int)):∃k,(ss.map rwD).take (HT.sIx (ss.map rwD).length (ss.map rwD).length (some (-1)))=(ss.take k).map rwD:=⟨HT.sIx (ss.map rwD).length (ss.map rwD).length (some (-1)),(zcb4 ..).symm⟩
theorem sld_of {fa fb:DE}{t:Th}{r:Ev}{xs:List D}{i:Int} (h1:fb t=some r) (hr:r.d=.lst xs) (ho:r.ok=true) (h2:fa t=some (.cl (.int i))):dSlU fa fb t=some (.nw (xs.take (HT.sIx xs.length xs.length (some i)))):=by
 unfold dSlU
 rw [h1,h2]
 simp only [zbj3,hr]
 show (if r.ok||flats xs then some (Ev.nw (xs.take (HT.sIx xs.length xs.length (some i)))) else none)=_
 rw [ho,zbx2,if_pos rfl]
theorem toI_is {t:Th}{ss:List (List Int)}{b:Bool} (h6:dVar 6 t=some (.cl (mD ss))) (h4:dVar 4 t=some (.cl (.bl b))):∃k,toI t=some (.nw (if b then [mD ss] else [mD ss,mD (ss.take k)])):=by
 obtain⟨k,ek⟩:=tk_of ss
 refine⟨k,?_⟩
 have a1:=zbd6 h4
 have a2:=zag6 (fa:=dC (.int 2)) (a:=2) rfl a1
 have a3:dSlU (d1 kNeg (dC (.int 1))) (dVar 6) t=some (.nw ((ss.take k).map rwD)):=by
  unfold dSlU
  rw [h6]
  show (if (Ev.cl (mD ss)).ok||flats (ss.map rwD) then some (Ev.nw ((ss.map rwD).take (HT.sIx (ss.map rwD).length (ss.map rwD).length (some (-1))))) else none)=_
  rw [ek]
  rfl
 have a4:(dT1 kLst (za2 (dVar 6) (za2 (dSlU (d1 kNeg (dC (.int 1))) (dVar 6)) dNil))) t=some (.nw [mD ss,mD (ss.take k)]):=(zg5 h6 a3).trans rfl
 refine (sld_of a4 rfl rfl a2).trans ?_
 cases b<;>rfl
theorem turn_Pp (ns:List Int) (hl:ns.length≤63) {M:Nat} (m0:0<M) (hM:M≤20) {ss:List (List Int)} (cv:Cv M ss) (hs:ss.length≤100) (b:Bool) (j:Nat) (hj:j<100) (a1 a3 a5 a7 a8 a9 a10 s12 s13 s14 s15 s16:Sl) :
  ∃u12 u13 u14 u15 u16,bdPp [.val (.lst (ns.map D.int)),a1,.val (.int (M:Int)),a3,.val (.bl b),a5,.val (mD ss),a7,a8,a9,a10,.val (.int (10+(j:Int))),s12,s13,s14,s15,s16]=some (.nx [.val (.lst (ns.map D.int)),a1,.val (.int (M:Int)),a3,.val (.bl b),a5,.val (mD ss),a7,a8,a9,a10,.val (.int (10+(j:Int))),u12,u13,u14,u15,u16]):=by
 let N:Sl:=.val (.lst (ns.map D.int))
 let A:Sl:=.val (.int (M:Int))
 let B:Sl:=.val (.bl b)
 let S:Sl:=.val (mD ss)
 let J:Sl:=.val (.int (10+(j:Int)))
 let t1:Th:=[N,a1,A,a3,B,a5,S,a7,a8,a9,a10,J,s12,s13,s14,s15,s16]
 obtain⟨c,ecj⟩:=zq1 ns hl (10+j) (by lia)
 have b1:=(zg5 (rfl:dVar 0 t1=some (.cl (.lst (ns.map D.int)))) (show dVar 11 t1=some (.cl (.int ((10+j:Nat):Int))) from by show some (Ev.cl (.int (10+(j:Int))))=_;rw [show (10:Int)+(j:Int)=((10+j:Nat):Int) by lia])).trans ecj
 obtain⟨hc,qs,hcl,hq,ep⟩:=paper_is m0 hM cv hs c
 have b2:=(zau0 (rfl:dVar 2 t1=some (.cl (.int (M:Int)))) (rfl:dVar 6 t1=some (.cl (mD ss))) b1).trans (show zc3 zi4 [.cl (.int (M:Int)),.cl (mD ss),.cl (.int c)]=some (.nw [.lst (hc.map D.int),.lst (qs.map qD)]) by
  unfold zc3
  rw [show zi4 ([Ev.cl (.int (M:Int)),.cl (mD ss),.cl (.int c)].map Ev.d)=_ from ep]
  rfl)
 let CH:Sl:=.val (.lst (hc.map D.int))
 let SH:Sl:=.val (.lst (qs.map qD))
 let t2:Th:=[N,a1,A,a3,B,a5,S,a7,a8,a9,a10,J,CH,SH,s14,s15,s16]
 have F1:zac1 (gkLst 2 (ze6 (za6 12) (ze6 (za6 13) zr1))) (dT1 (zc3 zi4) (za2 (dVar 2) (za2 (dVar 6) (za2 (dT1 (zc3 zf3) (za2 (dVar 0) (za2 (dVar 11) dNil))) dNil)))) t1=some (.nx t2):=by
  unfold zac1
  rw [b2]
  rfl
 have k1:(dT1 zx6 (za2 (dVar 12) dNil)) t2=some (.nw (hc.map D.int)):=zbc2 (r:=.cl (.lst (hc.map D.int))) (xs:=hc) rfl rfl
 have k2:(dT1 zx6 (za2 (dVar 13) dNil)) t2=some (.nw (qs.map qD)):=(zj7 (rfl:dVar 13 t2=some (.cl (.lst (qs.map qD))))).trans rfl
 let hd:D:=.tup [.lst (hc.map D.int),.lst (qs.map qD)]
 have F2:=ze4 (i:=14) ((zg5 (k:=kTup) k1 k2).trans (rfl:_=some (Ev.cl hd))) (by simp [t2])
 let HA:Sl:=.val hd
 let t3:Th:=[N,a1,A,a3,B,a5,S,a7,a8,a9,a10,J,CH,SH,HA,s15,s16]
 obtain⟨k,ei⟩:=toI_is (t:=t3) (ss:=ss) (b:=b) rfl rfl
 have v1:∀s∈ss,s.Nodup∧∀x∈s,0≤x∧x<(M:Int):=fun s h=>⟨cv.nd s h,cv.lt s h⟩
 have v2:∀s∈ss.take k,s.Nodup∧∀x∈s,0≤x∧x<(M:Int):=fun s h=>v1 s (zbv8 h)
 obtain⟨w16,e1⟩:=zax4 m0 hM v1 (ch:=hc) (by lia) hq N a1 a3 B a5 S a7 a8 a9 a10 J s16
 obtain⟨x16,e2⟩:=zax4 m0 hM v2 (ch:=hc) (by lia) hq N a1 a3 B a5 S a7 a8 a9 a10 J w16
 obtain⟨u15,u16,F3⟩:∃u15 u16,dFor (za6 15) toI bdTo t3=some (.nx [N,a1,A,a3,B,a5,S,a7,a8,a9,a10,J,CH,SH,HA,u15,u16]):=by
  cases b with
  |true=>exact⟨.val (mD ss),w16,(zaa7 (ds:=[mD ss]) ei rfl rfl).trans (zk6 (t1:=[N,a1,A,a3,B,a5,S,a7,a8,a9,a10,J,CH,SH,HA,.val (mD ss),s16]) rfl e1)⟩
  |false=>exact⟨.val (mD (ss.take k)),x16,(zaa7 (ds:=[mD ss,mD (ss.take k)]) ei rfl rfl).trans ((zk6 (t1:=[N,a1,A,a3,B,a5,S,a7,a8,a9,a10,J,CH,SH,HA,.val (mD ss),s16]) rfl e1).trans (zk6 (t1:=[N,a1,A,a3,B,a5,S,a7,a8,a9,a10,J,CH,SH,HA,.val (mD (ss.take k)),w16]) rfl e2))⟩
 let t4:Th:=[N,a1,A,a3,B,a5,S,a7,a8,a9,a10,J,CH,SH,HA,u15,u16]
 have c4:=bo_of ((zh7 (k:=kNe) (rfl:dVar 14 t4=some (.cl hd)) ((zg5 (k:=kTup) (rfl:dVar 12 t4=some (.cl (.lst (hc.map D.int)))) (rfl:dVar 13 t4=some (.cl (.lst (qs.map qD))))).trans (rfl:_=some (Ev.cl hd)))).trans (ne_hand hc qs rfl rfl))
 exact⟨CH,SH,HA,u15,u16,(za8 F1).trans ((za8 F2).trans ((za8 F3).trans (grd' c4)))⟩
theorem divC {fa:DE}{t:Th}{a:Int}{k:Int}{m:Nat} (h:fa t=some (.cl (.int a))) (k0:0<k) (k1:k≤100000) (m0:0<m):∃j:Nat,j<m∧(d2 qR (d2 qV fa (dC (.int k))) (dC (.int (m:Int)))) t=some (.cl (.int (j:Int))):=modC (zp2 h (rfl:dC (.int k) t=some (.cl (.int k))) (by lia) (sm_of (by lia) (by lia))) m0
theorem law_true (ns:List Int) (hl:ns.length≤63) (hb:∀n∈ns,n.natAbs<bndS):G_law [.lst (ns.map D.int)]=some (.cl (.bl true)):=by
 let N:Sl:=.val (.lst (ns.map D.int))
 let t0:Th:=[N,.no,.no,.no,.no,.no,.no,.no,.no,.no,.no,.no,.no,.no,.no,.no,.no]
 obtain⟨c0,ec0⟩:=zq1 ns hl 0 (by decide)
 obtain⟨nu,_,enu⟩:=zn1 c0 1 (by decide)
 have a1:=(zg5 ((zg5 (rfl:dVar 0 t0=some (.cl (.lst (ns.map D.int)))) (rfl:dC (.int 0) t0=some (.cl (.int ((0:Nat):Int))))).trans ec0) (rfl:dC (.int 1) t0=some (.cl (.int ((1:Nat):Int))))).trans enu
 have E1:=ze4 (i:=1) a1 (by simp [t0])
 let U:Sl:=.val (.int nu)
 let t1:Th:=[N,U,.no,.no,.no,.no,.no,.no,.no,.no,.no,.no,.no,.no,.no,.no,.no]
 obtain⟨k2,kl2,ek2⟩:=modC (fa:=dVar 1) (t:=t1) (a:=nu) (m:=9) rfl (by decide)
 have a2:=zf8 (fa:=dC (.int 1)) (a:=1) rfl ek2
 rw [show (1:Int)+(k2:Int)=((1+k2:Nat):Int) by lia]at a2
 have E2:=ze4 (i:=2) a2 (by simp [t1])
 let M1:Sl:=.val (.int ((1+k2:Nat):Int))
 let t2:Th:=[N,U,M1,.no,.no,.no,.no,.no,.no,.no,.no,.no,.no,.no,.no,.no,.no]
 obtain⟨k3,kl3,ek3⟩:=divC (fa:=dVar 1) (t:=t2) (a:=nu) (k:=9) (m:=7) rfl (by decide) (by decide) (by decide)
 have a3:=zf8 (fa:=dC (.int 1)) (a:=1) rfl ek3
 rw [show (1:Int)+(k3:Int)=((1+k3:Nat):Int) by lia]at a3
 have E3:=ze4 (i:=3) a3 (by simp [t2])
 let C1:Sl:=.val (.int ((1+k3:Nat):Int))
 let t3:Th:=[N,U,M1,C1,.no,.no,.no,.no,.no,.no,.no,.no,.no,.no,.no,.no,.no]
 obtain⟨k4,kl4,ek4⟩:=divC (fa:=dVar 1) (t:=t3) (a:=nu) (k:=63) (m:=8) rfl (by decide) (by decide) (by decide)
 have a4:=zaj6 (fb:=dC (.int 5)) (b:=5) ek4 rfl
 have E4:=ze4 (i:=4) a4 (by simp [t3])
 generalize decide ((k4:Int)=5)=b at E4
 let B:Sl:=.val (.bl b)
 let t4:Th:=[N,U,M1,C1,B,.no,.no,.no,.no,.no,.no,.no,.no,.no,.no,.no,.no]
 obtain⟨kk,hk,ek⟩:∃kk:Nat,kk≤40∧(dT1 (k2I fun i j=>if j > i then j else i) (za2 (dC (.int 11)) (za2 (dT1 (k2I fun i j=>if j<i then j else i) (za2 (dT1 kLen (za2 (dVar 0) dNil)) (za2 (dC (.int 34)) dNil))) dNil))) t4=some (.cl (.int ((10+kk:Nat):Int))):=by
  have l:=zr3 (f:=dVar 0) (t:=t4) (r:=.cl (.lst (ns.map D.int))) (xs:=ns) rfl rfl
  have mi:=k2I_of (f:=fun i j=>if j<i then j else i) l (rfl:dC (.int 34) t4=some (.cl (.int 34)))
  have ma:=k2I_of (f:=fun i j=>if j > i then j else i) (rfl:dC (.int 11) t4=some (.cl (.int 11))) mi
  generalize (ns.length:Int)=z at ma
  obtain⟨kk,e1,e2⟩:∃kk:Nat,kk≤40∧(if (if 34<z then 34 else z) > 11 then (if 34<z then 34 else z) else 11)=((10+kk:Nat):Int):=⟨((if (if 34<z then 34 else z) > 11 then (if 34<z then 34 else z) else 11) - 10).toNat,by split<;>split<;>lia,by split<;>split<;>lia⟩
  exact⟨kk,e1,ma.trans (by rw [← e2])⟩
 have E5:=ze4 (i:=5) ek (by simp [t4])
 let t5:Th:=[N,U,M1,C1,B,.val (.int ((10+kk:Nat):Int)),.no,.no,.no,.no,.no,.no,.no,.no,.no,.no,.no]
 obtain⟨M,n,kj,m0,hM,hn,hkj,E6⟩:∃(M n kj:Nat),0<M∧M≤20∧n≤60∧kj≤40∧(dIfS (dTr (dVar 4)) (dSeq (dAsg 2 (d2 qA (dC (.int 10)) (d2 qR (d2 qV (dVar 1) (dC (.int 504))) (dC (.int 11)))))
  (dSeq (dAsg 3 (d2 qA (dC (.int 8)) (d2 qR (d2 qV (dVar 1) (dC (.int 5544))) (dC (.int 52)))))
  (dAsg 5 (dC (.int 11))))) zf0) t5=some (.nx [N,U,.val (.int (M:Int)),.val (.int (n:Int)),B,.val (.int ((10+kj:Nat):Int)),.no,.no,.no,.no,.no,.no,.no,.no,.no,.no,.no]):=by
  cases b with
  |false=>exact⟨1+k2,1+k3,kk,by lia,by lia,by lia,hk,grd' (t:=t5) rfl⟩
  |true =>
   obtain⟨j1,jl1,ej1⟩:=divC (fa:=dVar 1) (t:=t5) (a:=nu) (k:=504) (m:=11) rfl (by decide) (by decide) (by decide)
   have f1:=zf8 (fa:=dC (.int 10)) (a:=10) rfl ej1
   rw [show (10:Int)+(j1:Int)=((10+j1:Nat):Int) by lia]at f1
   have F1:=ze4 (i:=2) f1 (by simp [t5])
   let t6:Th:=[N,U,.val (.int ((10+j1:Nat):Int)),C1,B,.val (.int ((10+kk:Nat):Int)),.no,.no,.no,.no,.no,.no,.no,.no,.no,.no,.no]
   obtain⟨j2,jl2,ej2⟩:=divC (fa:=dVar 1) (t:=t6) (a:=nu) (k:=5544) (m:=52) rfl (by decide) (by decide) (by decide)
   have f2:=zf8 (fa:=dC (.int 8)) (a:=8) rfl ej2
   rw [show (8:Int)+(j2:Int)=((8+j2:Nat):Int) by lia]at f2
   have F2:=ze4 (i:=3) f2 (by simp [t6])
   have F3:dAsg 5 (dC (.int 11)) [N,U,.val (.int ((10+j1:Nat):Int)),.val (.int ((8+j2:Nat):Int)),B,.val (.int ((10+kk:Nat):Int)),.no,.no,.no,.no,.no,.no,.no,.no,.no,.no,.no]=some (.nx [N,U,.val (.int ((10+j1:Nat):Int)),.val (.int ((8+j2:Nat):Int)),B,.val (.int ((10+1:Nat):Int)),.no,.no,.no,.no,.no,.no,.no,.no,.no,.no,.no]):=rfl
   exact⟨10+j1,8+j2,1,by lia,by lia,by lia,by lia,(zv8 (t:=t5) (b:=true) rfl rfl).trans ((za8 F1).trans ((za8 F2).trans F3))⟩
 let SM:Sl:=.val (.int (M:Int))
 let SC:Sl:=.val (.int (n:Int))
 let SL:Sl:=.val (.int ((10+kj:Nat):Int))
 let t6:Th:=[N,U,SM,SC,B,SL,.no,.no,.no,.no,.no,.no,.no,.no,.no,.no,.no]
 obtain⟨s0,l0,ok0,es⟩:=sets_is ns hl (M:=M) (by lia) (n:=n) (by lia)
 have a7:=(zu8 (rfl:dVar 0 t6=some (.cl (.lst (ns.map D.int)))) (rfl:dC (.int 1) t6=some (.cl (.int 1))) (rfl:dVar 2 t6=some (.cl (.int (M:Int)))) (rfl:dVar 3 t6=some (.cl (.int (n:Int))))).trans (show zc3 zl5 [.cl (.lst (ns.map D.int)),.cl (.int 1),.cl (.int (M:Int)),.cl (.int (n:Int))]=some (.nw (s0.map rwD)) by
  unfold zc3
  rw [show zl5 ([Ev.cl (.lst (ns.map D.int)),.cl (.int 1),.cl (.int (M:Int)),.cl (.int (n:Int))].map Ev.d)=_ from es]
  rfl)
 have E7:=zm2 (i:=6) a7 (by simp [t6])
 have lt0:∀s∈s0,∀x∈s,0≤x∧x<(M:Int):=fun s hs x hx=>by
  obtain⟨p,rfl⟩:=ok0 s hs
  exact ze9 (zbp6.mp hx).1
 have E8:dAsg 7 zap3 [N,U,SM,SC,B,SL,.own (s0.map rwD),.no,.no,.no,.no,.no,.no,.no,.no,.no,.no]=some (.nx [N,U,SM,SC,B,SL,.own (s0.map rwD),.dp (dctT []),.no,.no,.no,.no,.no,.no,.no,.no,.no]):=rfl
 obtain⟨u8,u9,E9⟩:=gill_is (M:=M) (by lia) (a0:=N) (a1:=U) (a2:=SM) (a3:=SC) (a4:=B) (a5:=SL) (s8:=.no) (s9:=.no) (r:=[.no,.no,.no,.no,.no,.no,.no]) (ss:=s0) lt0
 let HD:Sl:=.dp (dctT (hadS s0 []))
 let t9:Th:=[N,U,SM,SC,B,SL,.own (s0.map rwD),HD,u8,u9,.no,.no,.no,.no,.no,.no,.no]
 have a10:(ze3 1 [7] (fsR1 (dVar 2)) (za6 0) (dBo (d2 (kInD true) (dVar 0) (dVar 1))) (dVar 0)) t9=some (.nw (((zb4 M).filter fun x=>decide (x∉hadS s0 [])).map D.int)):=zaj9 (p:=fun x=>decide (x∉hadS s0 [])) (g:=D.int) (n:=M) (r:=.cl (.int (M:Int))) (b:=false) (c:=[dctT (hadS s0 [])]) rfl rfl rfl (by lia) (fun x _=>zao0 (ks:=hadS s0 []) (rfl:dVar 0 _=some (.cl (.int x))) (rfl:dVar 1 _=some (.cl (dctT (hadS s0 [])))) rfl rfl) (fun x _ _=>⟨.cl (.int x),rfl,rfl⟩) (.inl (zd5 _))
 have E10:=app_nw (i:=6) (t:=t9) (xs:=s0.map rwD) a10 rfl (by rw [zbl5];lia)
 obtain⟨ss,cv,sl,es6⟩:∃ss:List (List Int),Cv M ss∧ss.length=n+1∧s0.map rwD++[D.lst (((zb4 M).filter fun x=>decide (x∉hadS s0 [])).map D.int)]=ss.map rwD:=by
  obtain⟨okS,cv⟩:=zbg0 (M:=M) ok0
  refine⟨zas8 M s0,cv,?_,?_⟩
  ·show (s0++_).length=_
   rw [zbl8,l0,zbn8]
  ·show _=(s0++_).map rwD
   rw [zbp8]
   rfl
 rw [es6]at E10
 let SS:Sl:=.val (mD ss)
 let t10:Th:=[N,U,SM,SC,B,SL,SS,HD,u8,u9,.no,.no,.no,.no,.no,.no,.no]
 have a11:(ze3 1 [] (fsL (dVar 6)) (za6 0) zc7 (dT1 zx6 (za2 (dVar 0) dNil))) t10=some (.nw (ss.map rwD)):=by
  have:=zu6 (e:=rwD) (p:=fun _=>true) (g:=rwD) (ft:=zc7) (fe:=dT1 zx6 (za2 (dVar 0) dNil)) (t:=t10) (f:=dVar 6) (r:=.cl (mD ss)) (xs:=ss) (cap:=[]) (b:=true) (c:=[]) rfl rfl rfl (by lia) (fun _ _=>rfl) (fun s _ _=>⟨_,zbc2 (r:=.cl (rwD s)) (xs:=s) rfl rfl,rfl⟩) (.inr rfl)
  rw [this,zbn2.mpr fun _ _=>rfl]
 let KP:Sl:=.own (ss.map rwD)
 let t11:Th:=[N,U,SM,SC,B,SL,SS,HD,u8,u9,KP,.no,.no,.no,.no,.no,.no]
 have E11:dFrz 6 (dAsg 10 (ze3 1 [] (fsL (dVar 6)) (za6 0) zc7 (dT1 zx6 (za2 (dVar 0) dNil)))) [N,U,SM,SC,B,SL,.own (ss.map rwD),HD,u8,u9,.no,.no,.no,.no,.no,.no,.no]=some (.nx t11):=zm2 (i:=10) (t:=t10) a11 (by simp [t10])
 obtain⟨c9,ec9⟩:=zq1 ns hl 9 (by decide)
 have a12:=(zj7 ((zg5 (rfl:dVar 0 t11=some (.cl (.lst (ns.map D.int)))) (rfl:dC (.int 9) t11=some (.cl (.int ((9:Nat):Int))))).trans ec9)).trans (zl3 (G:=zh1) (rs:=[.cl (.int c9)]) (made_is c9) rfl)
 have E12:=grd' (g:=dRet (dC (.bl false))) (not_of (zr4 a12))
 obtain⟨t13,e13,u11,u12,u13,u14,u15,u16,rfl⟩:=for_I0 (k:=za6 11) (b:=bdPp) (n:=kj) (f:=fun (j:Nat)=>D.int (10+(j:Int))) (P:=fun _ t => ∃(u11 u12 u13 u14 u15 u16:Sl),t=[N,U,SM,SC,B,SL,SS,HD,u8,u9,KP,u11,u12,u13,u14,u15,u16]) (fun j hj t ⟨u11,u12,u13,u14,u15,u16,et⟩=>by
  subst et
  obtain⟨v12,v13,v14,v15,v16,e⟩:=turn_Pp ns hl m0 hM cv (by lia) b j (by lia) U SC SL HD u8 u9 KP u12 u13 u14 u15 u16
  exact⟨[N,U,SM,SC,B,SL,SS,HD,u8,u9,KP,.val (.int (10+(j:Int))),u12,u13,u14,u15,u16],_,rfl,e,_,_,_,_,_,_,rfl⟩) t11 ⟨_,_,_,_,_,_,rfl⟩
 have E13:zak0 (za6 11) (dC (.int 10)) (dVar 5) bdPp t11=_:=(zaq8 (k:=kj) (rfl:dC (.int 10) t11=some (.cl (.int 10))) (rfl:dVar 5 t11=some (.cl (.int ((10+kj:Nat):Int)))) (by lia) (by rw [zbj5];unfold bigI;constructor <;>(simp;try lia))).trans e13
 let tz:Th:=[N,U,SM,SC,B,SL,SS,HD,u8,u9,KP,u11,u12,u13,u14,u15,u16]
 have E14:=zm8 ((zh7 (k:=kEq) (rfl:dVar 6 tz=some (.cl (mD ss))) (rfl:dVar 10 tz=some (.tm (mD ss)))).trans (eq_mD ss rfl rfl))
 show (g_law t0).bind zk5=_
 exact bnd ((za8 E1).trans ((za8 E2).trans ((za8 E3).trans ((za8 E4).trans ((za8 E5).trans ((za8 E6).trans ((za8 E7).trans ((za8 E8).trans ((za8 E9).trans ((za8 E10).trans ((za8 E11).trans ((za8 E12).trans ((za8 E13).trans E14)))))))))))))
end KX
set_option maxHeartbeats 4000000
namespace KX
open PySem.Spec L2 DL
def spLaw (K:zbj0):Sp:=spD K G_law
theorem all_mk {P:Program}{w:World}{K:zbj0}{h:Heap}{mg:Str→Option Value}{fa:Addr} (X:K.In h) (G:h.Ns mainGlobals mg) (hfa:mg "law"=some (.ref fa)) {f0:Addr}{f1:Addr}{f2:Addr}{f3:Addr}{f4:Addr}{f5:Addr}{f6:Addr}{f7:Addr}{f8:Addr}{f9:Addr}{f10:Addr}{f11:Addr}{f12:Addr}{f13:Addr}{f14:Addr}{f15:Addr}{f16:Addr}{f17:Addr}{f18:Addr}{f19:Addr}{f20:Addr}{f21:Addr}{f22:Addr}
  (h0:Hv K "common_factor" zi9 f0)
  (h1:Hv K "fraction" zq7 f1)
  (h2:Hv K "harmonic" zq6 f2)
  (h3:Hv K "over_one_bottom" zh3 f3)
  (h4:Hv K "lacking_things" zi2 f4)
  (h5:Hv K "choose_by_new" zj0 f5)
  (h6:Hv K "is_choice" zo1 f6)
  (h7:Hv K "are_payable" zl2 f7)
  (h8:Hv K "lets_choice" zl0 f8)
  (h9:Hv K "_law_cell" zq5 f9)
  (h10:Hv K "_law_mixed" zo0 f10)
  (h11:Hv K "_law_row" zs8 f11)
  (h12:Hv K "_law_sets" zq3 f12)
  (h13:Hv K "_law_low" zs9 f13)
  (h14:Hv K "_law_add" zt1 f14)
  (h15:Hv K "_law_sum" zs7 f15)
  (h16:Hv K "_law_harmonic" zk0 f16)
  (h17:Hv K "_law_far" zt0 f17)
  (h18:Hv K "_law_paper" zn9 f18)
  (h19:Hv K "_law_has_all" zl1 f19)
  (h20:Hv K "_law_lets" zq4 f20)
  (h21:Hv K "_law_made_ones" zi8 f21)
  (h22:Hv K "law" s_law f22)
  (z_abs:zbo1 K mainGlobals "abs"=some none) (z_all:zbo1 K mainGlobals "all"=some none) (z_any:zbo1 K mainGlobals "any"=some none) (z_bool:zbo1 K mainGlobals "bool"=some none) (z_enumerate:zbo1 K mainGlobals "enumerate"=some none) (z_int:zbo1 K mainGlobals "int"=some none) (z_isinstance:zbo1 K mainGlobals "isinstance"=some none) (z_len:zbo1 K mainGlobals "len"=some none) (z_list:zbo1 K mainGlobals "list"=some none) (z_max:zbo1 K mainGlobals "max"=some none) (z_min:zbo1 K mainGlobals "min"=some none) (z_range:zbo1 K mainGlobals "range"=some none) (z_reversed:zbo1 K mainGlobals "reversed"=some none) (z_set:zbo1 K mainGlobals "set"=some none) (z_sum:zbo1 K mainGlobals "sum"=some none)   :
  TbOk K []∧∃fd:FuncData,(∀(s:zbk7) (v:Value),BindsTo s fd ⟨[v],[]⟩ [("_law_script",v)])∧∀base:BHeap,base.tabs=tbOf K []→K.In base→base.Ns mainGlobals mg→(∀x∈([]:List Str),∀c P,zci0 K x=some (c,P)→zcg6 base c P)→FnOk P w K mg base CX0 7 fa fd ["_law_script"] (spLaw K):=by
 have e:=hfa.symm.trans (h22.mg X G)
 cases e
 have bu:Blt mg:=⟨zbm1 X G z_abs,zbm1 X G z_all,zbm1 X G z_any,zbm1 X G z_bool,zbm1 X G z_enumerate,zbm1 X G z_int,zbm1 X G z_isinstance,zbm1 X G z_len,zbm1 X G z_list,zbm1 X G z_max,zbm1 X G z_min,zbm1 X G z_range,zbm1 X G z_reversed,zbm1 X G z_set,zbm1 X G z_sum⟩
 obtain⟨_,u0⟩:=h0.fn
 have d0:Df K mg "common_factor" zi9 ["one", "other"] f0 _:=⟨u0,h0.mg X G,zw8 u0 fun _ _ _ _ _ _ _ _=>rfl⟩
 obtain⟨_,u1⟩:=h1.fn
 have d1:Df K mg "fraction" zq7 ["top", "bottom"] f1 _:=⟨u1,h1.mg X G,zw8 u1 fun _ _ _ _ _ _ _ _=>rfl⟩
 obtain⟨_,u2⟩:=h2.fn
 have d2:Df K mg "harmonic" zq6 ["many"] f2 _:=⟨u2,h2.mg X G,zad3 u2 fun _ _ _ _ _ _ _=>rfl⟩
 obtain⟨_,u3⟩:=h3.fn
 have d3:Df K mg "over_one_bottom" zh3 ["parts"] f3 _:=⟨u3,h3.mg X G,zad3 u3 fun _ _ _ _ _ _ _=>rfl⟩
 obtain⟨_,u4⟩:=h4.fn
 have d4:Df K mg "lacking_things" zi2 ["many", "sets", "numbers"] f4 _:=⟨u4,h4.mg X G,zak8 u4 fun _ _ _ _ _ _ _ _ _=>rfl⟩
 obtain⟨_,u5⟩:=h5.fn
 have d5:Df K mg "choose_by_new" zj0 ["many", "sets"] f5 _:=⟨u5,h5.mg X G,zw8 u5 fun _ _ _ _ _ _ _ _=>rfl⟩
 obtain⟨_,u6⟩:=h6.fn
 have d6:Df K mg "is_choice" zo1 ["many", "sets", "numbers"] f6 _:=⟨u6,h6.mg X G,zak8 u6 fun _ _ _ _ _ _ _ _ _=>rfl⟩
 obtain⟨_,u7⟩:=h7.fn
 have d7:Df K mg "are_payable" zl2 ["sets", "tops", "bottom"] f7 _:=⟨u7,h7.mg X G,zak8 u7 fun _ _ _ _ _ _ _ _ _=>rfl⟩
 obtain⟨_,u8⟩:=h8.fn
 have d8:Df K mg "lets_choice" zl0 ["many", "sets", "choice", "shares"] f8 _:=⟨u8,h8.mg X G,zat5 u8 fun _ _ _ _ _ _ _ _ _ _=>rfl⟩
 obtain⟨_,u9⟩:=h9.fn
 have d9:Df K mg "_law_cell" zq5 ["_law_script", "_law_k"] f9 _:=⟨u9,h9.mg X G,zw8 u9 fun _ _ _ _ _ _ _ _=>rfl⟩
 obtain⟨_,u10⟩:=h10.fn
 have d10:Df K mg "_law_mixed" zo0 ["_law_cell_here", "_law_k"] f10 _:=⟨u10,h10.mg X G,zw8 u10 fun _ _ _ _ _ _ _ _=>rfl⟩
 obtain⟨_,u11⟩:=h11.fn
 have d11:Df K mg "_law_row" zs8 ["_law_cell_here", "_law_many", "_law_bounds", "_law_plain"] f11 _:=⟨u11,h11.mg X G,zat5 u11 fun _ _ _ _ _ _ _ _ _ _=>rfl⟩
 obtain⟨_,u12⟩:=h12.fn
 have d12:Df K mg "_law_sets" zq3 ["_law_script", "_law_start", "_law_many", "_law_count"] f12 _:=⟨u12,h12.mg X G,zat5 u12 fun _ _ _ _ _ _ _ _ _ _=>rfl⟩
 obtain⟨_,u13⟩:=h13.fn
 have d13:Df K mg "_law_low" zs9 ["_law_top", "_law_bottom"] f13 _:=⟨u13,h13.mg X G,zw8 u13 fun _ _ _ _ _ _ _ _=>rfl⟩
 obtain⟨_,u14⟩:=h14.fn
 have d14:Df K mg "_law_add" zt1 ["_law_one", "_law_other"] f14 _:=⟨u14,h14.mg X G,zw8 u14 fun _ _ _ _ _ _ _ _=>rfl⟩
 obtain⟨_,u15⟩:=h15.fn
 have d15:Df K mg "_law_sum" zs7 ["_law_some"] f15 _:=⟨u15,h15.mg X G,zad3 u15 fun _ _ _ _ _ _ _=>rfl⟩
 obtain⟨_,u16⟩:=h16.fn
 have d16:Df K mg "_law_harmonic" zk0 ["_law_many"] f16 _:=⟨u16,h16.mg X G,zad3 u16 fun _ _ _ _ _ _ _=>rfl⟩
 obtain⟨_,u17⟩:=h17.fn
 have d17:Df K mg "_law_far" zt0 ["_law_number", "_law_many"] f17 _:=⟨u17,h17.mg X G,zw8 u17 fun _ _ _ _ _ _ _ _=>rfl⟩
 obtain⟨_,u18⟩:=h18.fn
 have d18:Df K mg "_law_paper" zn9 ["_law_many", "_law_sets_here", "_law_cell_here"] f18 _:=⟨u18,h18.mg X G,zak8 u18 fun _ _ _ _ _ _ _ _ _=>rfl⟩
 obtain⟨_,u19⟩:=h19.fn
 have d19:Df K mg "_law_has_all" zl1 ["_law_many", "_law_sets_here", "_law_choice"] f19 _:=⟨u19,h19.mg X G,zak8 u19 fun _ _ _ _ _ _ _ _ _=>rfl⟩
 obtain⟨_,u20⟩:=h20.fn
 have d20:Df K mg "_law_lets" zq4 ["_law_many", "_law_sets_here", "_law_choice", "_law_shares"] f20 _:=⟨u20,h20.mg X G,zat5 u20 fun _ _ _ _ _ _ _ _ _ _=>rfl⟩
 obtain⟨_,u21⟩:=h21.fn
 have d21:Df K mg "_law_made_ones" zi8 ["_law_cell_here"] f21 _:=⟨u21,h21.mg X G,zad3 u21 fun _ _ _ _ _ _ _=>rfl⟩
 obtain⟨_,u22⟩:=h22.fn
 have d22:Df K mg "law" s_law ["_law_script"] fa _:=⟨u22,h22.mg X G,zad3 u22 fun _ _ _ _ _ _ _=>rfl⟩
 refine⟨tbOk_nil,_,Hv.bt u22 fun _ _ _ _ _ _ _=>rfl,fun base ht _ _ hCd=>?_⟩
 have F_common_factor:=zx4 (P:=P) (w:=w) (base:=base) d0.fn bu
 have F_fraction:=zan6 (P:=P) (w:=w) (base:=base) d1.fn bu (d0.cal F_common_factor)
 have F_harmonic:=zan5 (P:=P) (w:=w) (base:=base) d2.fn bu (d1.cal F_fraction)
 have F_over_one_bottom:=zt5 (P:=P) (w:=w) (base:=base) d3.fn bu (d0.cal F_common_factor)
 have F_lacking_things:=zv4 (P:=P) (w:=w) (base:=base) d4.fn bu
 have F_choose_by_new:=zx5 (P:=P) (w:=w) (base:=base) d5.fn bu (d4.cal F_lacking_things)
 have F_is_choice:=zai0 (P:=P) (w:=w) (base:=base) d6.fn bu (d4.cal F_lacking_things)
 have F_are_payable:=zab9 (P:=P) (w:=w) (base:=base) d7.fn bu (d2.cal F_harmonic)
 have F_lets_choice:=zab7 (P:=P) (w:=w) (base:=base) d8.fn bu (d6.cal F_is_choice) (d3.cal F_over_one_bottom) (d7.cal F_are_payable)
 have F_law_cell:=zan4 (P:=P) (w:=w) (base:=base) d9.fn bu
 have F_law_mixed:=zah9 (P:=P) (w:=w) (base:=base) d10.fn bu
 have F_law_row:=zav3 (P:=P) (w:=w) (base:=base) d11.fn bu (d10.cal F_law_mixed)
 have F_law_sets:=zan2 (P:=P) (w:=w) (base:=base) d12.fn bu (d9.cal F_law_cell) (d11.cal F_law_row) (d10.cal F_law_mixed)
 have F_law_low:=zav4 (P:=P) (w:=w) (base:=base) d13.fn bu
 have F_law_add:=zav6 (P:=P) (w:=w) (base:=base) d14.fn bu (d13.cal F_law_low)
 have F_law_sum:=zav2 (P:=P) (w:=w) (base:=base) d15.fn bu (d14.cal F_law_add)
 have F_law_harmonic:=zz8 (P:=P) (w:=w) (base:=base) d16.fn bu (d15.cal F_law_sum)
 have F_law_far:=zav5 (P:=P) (w:=w) (base:=base) d17.fn bu
 have F_law_paper:=zah8 (P:=P) (w:=w) (base:=base) d18.fn bu (d5.cal F_choose_by_new) (d13.cal F_law_low) (d17.cal F_law_far) (d14.cal F_law_add)
 have F_law_has_all:=zab8 (P:=P) (w:=w) (base:=base) d19.fn bu
 have F_law_lets:=zan3 (P:=P) (w:=w) (base:=base) d20.fn bu (d19.cal F_law_has_all) (d15.cal F_law_sum) (d16.cal F_law_harmonic)
 have F_law_made_ones:=zx3 (P:=P) (w:=w) (base:=base) d21.fn bu (d10.cal F_law_mixed) (d8.cal F_lets_choice)
 have F_law:=ok_law (P:=P) (w:=w) (base:=base) d22.fn bu (d9.cal F_law_cell) (d10.cal F_law_mixed) (d12.cal F_law_sets) (d21.cal F_law_made_ones) (d18.cal F_law_paper) (d8.cal F_lets_choice) (d20.cal F_law_lets)
 exact F_law
theorem walk {l:zce0}{q:Program}{loose:List Str}{XP:(Str→Option Value)→Heap→Prop}{YP:World→Heap→Prop}{d:DefRec}{K:Params→zbj0} (hn:l.most=some 63) (hdf:d.params.defaults=[])
  (hY:∀(w:World) (h:Heap),YP w h→(K w.params).In h) (hrec:∀x∈([]:List Str),∃dr,(recsOf q).find? (fun e=>e.name == x)=some dr)
  (Fx:∀(w:World) (mg:Str→Option Value) (fa:Addr) (h:Heap),(K w.params).In h→h.Ns mainGlobals mg→mg d.name=some (.ref fa) →
   TbOk (K w.params) []∧∃fd:FuncData,(∀(s:zbk7) (u:Value),BindsTo s fd ⟨[u],[]⟩ [("_law_script",u)])∧∀base:BHeap,base.tabs=tbOf (K w.params) []→(K w.params).In base→base.Ns mainGlobals mg→(∀x∈([]:List Str),∀c P,zci0 (K w.params) x=some (c,P)→zcg6 base c P)→FnOk l.prog w (K w.params) mg base CX0 7 fa fd ["_law_script"] (spLaw (K w.params))) :
  zch8 q loose XP YP l.row.toRowW d [] (fun f vs=>PySem.call f vs) :=
 L2.walk_ofT (n:=63) (k:=7) (x := "_law_script") (names:=[]) (CX:=fun _=>CX0) (sp:=fun w=>spLaw (K w.params)) hn (by decide) hdf ⟨rfl,by decide,by decide⟩ hY hrec Fx
  (fun _ H a ns hl hb hS=>⟨[],[.lst (ns.map .int)],.cl (.bl true),fun p hp=>(by cases hp),.cons (.lst (by rw [hide_nil];exact hS) (Reps.ints ns)) .nil,law_true ns hl hb,fun v H' _ q=>by cases q;rfl⟩) fun _ _ _ _ _ z=>z
end KX
open PySem PySem.W PyProof.Rows
set_option maxRecDepth 100000 in
set_option maxHeartbeats 0 in
theorem PySem.Challenge.cw_nearenough_k28_looker_of_choices_holds : PySem.Challenge.rw_nearenough_k28_looker_of_choices.Holds := by
 w_on;o_law;k_head;(case hw=>w_witness2)
 k_fill
 refine KX.walk (l:=PySem.Challenge.rw_nearenough_k28_looker_of_choices) rfl rfl (fun w h Y=>by first | exact PySem.W.kIn_of Y | exact PySem.W.km_in_of Y) (by intro x hx;simp at hx) ?F
 case F =>
  intro w mg fa h KI G hmg
  refine' KX.all_mk KI G hmg ?h0 ?h1 ?h2 ?h3 ?h4 ?h5 ?h6 ?h7 ?h8 ?h9 ?h10 ?h11 ?h12 ?h13 ?h14 ?h15 ?h16 ?h17 ?h18 ?h19 ?h20 ?h21 ?h22 ?z_abs ?z_all ?z_any ?z_bool ?z_enumerate ?z_int ?z_isinstance ?z_len ?z_list ?z_max ?z_min ?z_range ?z_reversed ?z_set ?z_sum
  all_goals try (refine' DL.Hv.mk ?a ?l ?c ?k;(case a=>k_is);(case l=>k_is);(case c=>k_is);(case k=>k_is))
  all_goals try k_is

