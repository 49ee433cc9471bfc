import PyProof.Rows.All
import Wide.All
import OpenK.AllK
import Wide.FinOn
import PyProof.EqAt
import PyProof.EqKinds
import PyProof.NeKinds
import PyProof.TupleCall
import PyProof.EnumFor
import PyProof.EnumMake
import PyProof.CompFree
import PyProof.Rows.SumAny
import PyProof.Rows.Range3
import PyProof.CompUse
import KE.LcSums
import PyProof.ListRange
import PyProof.Rows.MinMaxN
import KE.KIntText
import PyProof.StrCalls2
import PyProof.StrBlockH
import PyProof.Rows.ZipForRows
import PyProof.Rows.SortRev
import KE.KRevSl
import KE.KMinKey
import PyProof.Rows.SetFrom
import PyProof.Rows.SeqMore2
import Lean
import PyProof.WalkInts
import KE.KLam
import KE.KNest
import PyProof.Rows.SortRuns
import KE.KSortKey
import PyProof.Conv_int_bool
import KE.KListMore
import PyProof.DictWalks
import KE.KSortTup
import KE.KDictList
import KE.KRevIter
import PyProof.SetKind
import PyProof.SetScanFacts
import PySem.Challenge.RW_nearenough_k08_whole_no_cover_half
noncomputable section
open PySem.F renaming plain_list_iadd→zbq1,plainAttrs_list→zbs3,plain_proto_collect→zbt9,slot_list_insert→zbv3,plain_set_new→zbw8,slot_set_iter→zbw9
open PyProof.Rows renaming wpS_bind→zbn8,wpS_pure→zbp3
open Int renaming toNat_natCast→zbl5,le_refl→zbo0,mul_le_mul_of_nonneg_right→zbp9,toNat_of_nonneg→zbq2,fdiv_eq_ediv_of_nonneg→zbq8,eq_ofNat_of_zero_le→zbw2,le_trans→zca0
open Array renaming getElem?_eq_getElem→zbk8,getElem?_toList→zbl6,getD_eq_getD_getElem?→zbq6,perm_iff_toList_perm→zbr2,getElem?_eq_none→zbs8,length_toList→zbu1,toList_push→zbv9
open Nat renaming le_refl→zbk1,lt_of_lt_of_le→zbk6,ne_of_lt→zbl3,le_trans→zbn6,lt_irrefl→zbo6,lt_succ_of_lt→zbo9,pow_le_pow_right→zbp6,zero_le→zbq5,ne_of_gt→zbr5,lt_succ_self→zbs0,le_of_lt→zbs4,le_succ→zbt1,le_add_right→zbt6,lt_trans→zbv2
open Bool renaming and_eq_true→zbj3,false_ne_true→zbk4,false_eq_true→zbl2,or_true→zbn2,eq_iff_iff→zbp1,or_eq_true→zbr1,true_or→zbt2,true_and→zbu2,false_or→zby5,not_true→zby7,not_eq_true'→zbz3
open Option renaming bind_some→zbj1,map_some→zbn5,getD_some→zbt5,isSome_some→zby2,getD_none→zbz6
open PySem.Heap renaming get?_push_of_some→zbj0,lt_size→zbj8,get?_push_size→zbj9,get?_update_other→zbl7,get?_update_self→zbm2,size_push→zbp7
open PySem renaming wpAny_bind→zbi8,wpAny_pure→zbj5,Shared→zbj7,starEach→zbk2,backTo→zbq3
open PySem.W renaming Frag→zbi5,mg_none_of→zbl9,nsIn→zbo1,keepIn→zbo3,fnOf→zbo8,kia_one→zbp2,findIn→zbr8,codeIn→zbv1,methodObj→zbv6,cellsFrom_some→zbw3,instObj→zbx0,lookIn→zbx7,hasDictIn→zby8,specialIn→zby9,kitx_dict→zbz1,plainGet→zbz5,kat_cons→zca1,OpenLaw→zca5,kat_yes→zca9,kat_go→zcc4,kat_no→zcc5,CodeHd→zcd0,WalkO→zce2,tabIn→zcf0
open List renaming mem_append_right→zbi4,mem_cons_of_mem→zbi6,mem_append_left→zbi7,mem_cons_self→zbi9,mem_append→zbj2,mem_cons→zbj4,getElem?_eq_getElem→zbj6,size_toArray→zbk0,length_map→zbk3,map_cons→zbk5,replicate→zbk7,nodup_append→zbk9,nodup_cons→zbl0,getD_eq_getElem?_getD→zbl1,mem_singleton→zbl4,length_eq_zero_iff→zbl8,lookup_cons→zbm0,range→zbm1,take_append_drop→zbm3,length_append→zbm4,length_cons→zbm5,all_eq_true→zbm6,not_mem_nil→zbm7,pairwise_cons→zbm8,mem_map→zbm9,getElem?_eq_some_iff→zbn0,getElem?_eq_none→zbn1,getElem?_append_right→zbn3,getElem?_map→zbn4,replicate_succ→zbn7,getElem_mem→zbn9,mem_filter→zbo2,getElem?_append_left→zbo4,nodup_nil→zbo5,all_cons→zbo7,any_cons→zbp0,mem_range→zbp4,getElem?_set_ne→zbp5,length_range→zbp8,getElem?_cons_succ→zbq0,getElem?_set_self→zbq4,length_singleton→zbq7,append_nil→zbq9,find?_cons→zbr0,flatten_cons→zbr3,append_assoc→zbr4,pairwise_append→zbr6,pairwise_iff_getElem→zbr7,length_take→zbr9,any_eq_true→zbs1,getElem?_replicate→zbs2,map_map→zbs5,foldl_cons→zbs6,take_of_length_le→zbs7,length_replicate→zbs9,length_filter_le→zbt0,filter_cons→zbt3,ext_getElem→zbt4,mem_of_mem_take→zbt7,mem_of_mem_drop→zbt8,filterMap_cons→zbu0,sum_cons→zbu3,length_set→zbu4,length_nil→zbu5,map_append→zbu6,length_eraseIdx_of_lt→zbu7,mem_filterMap→zbu8,sublist_append_right→zbu9,drop_eq_getElem_cons→zbv0,filterMap_cons_some→zbv4,length_erase_of_mem→zbv5,any_eq_false→zbv7,ext_getElem?→zbv8,pairwise_singleton→zbw0,getElem?_cons_zero→zbw1,length_drop→zbw4,sublist_cons_self→zbw5,length_pos_of_mem→zbw6,isEmpty_nil→zbw7,of_mem_zip→zbx1,mem_of_getElem?→zbx2,map_nil→zbx3,mem_erase_of_ne→zbx4,map_set→zbx5,range_eq_range'→zbx6,getElem?_range→zbx8,map_congr_left→zbx9,toList_toArray→zby0,getElem?_drop→zby3,map_take→zby6,take_sublist→zbz0,pairwise_map→zbz2,drop_length→zbz7,map_fst_zip→zbz8,map_snd_zip→zbz9,range'_succ→zca2,foldl→zcd9
open PySem PyProof.Rows
set_option Elab.async false
set_option linter.all false
set_option maxRecDepth 100000
namespace L2
open PySem.Spec
abbrev Key:=Sum Int Str
def zav1:Key→Value→Bool
 |.inl k,v=>Value.isInt k v
 |.inr x,v=>Value.isStrOf x v
def keyH (w:World):Key→Int
 |.inl k=>hashInt k
 |.inr x=>hashStr w x
theorem ze6:∀ {k:Key}{v:Value},zav1 k v=true→(∃i t,k=Sum.inl i∧v=Value.int i t)∨(∃x t,k=Sum.inr x∧v=Value.str x t)
 |.inl i,v,h=>by
  obtain⟨t,e⟩:=Value.isInt_shape (k:=i) (v:=v) h
  exact .inl ⟨i,t,rfl,e⟩
 |.inr x,v,h=>by
  obtain⟨t,e⟩:=Value.isStrOf_shape (x:=x) (v:=v) h
  exact .inr ⟨x,t,rfl,e⟩
theorem zbc7 (i:Int) (t:Tok):zav1 (.inl i) (.int i t)=true:=by simp [zav1,Value.isInt]
theorem zbc6 (x:Str) (t:Tok):zav1 (.inr x) (.str x t)=true:=by simp [zav1,Value.isStrOf]
theorem key_ll (a b:Int):decide ((Sum.inl a:Key)=Sum.inl b)=(a == b):=by
 by_cases e:a=b
 ·subst e;simp
 ·have h : ¬ (Sum.inl a:Key)=Sum.inl b:=fun q=>e (Sum.inl.inj q)
  rw [decide_eq_false h]
  exact (beq_eq_false_iff_ne.mpr e).symm
theorem key_rr (a b:Str):decide ((Sum.inr a:Key)=Sum.inr b)=decide (a=b):=by
 by_cases e:a=b
 ·subst e;simp
 ·have h : ¬ (Sum.inr a:Key)=Sum.inr b:=fun q=>e (Sum.inr.inj q)
  rw [decide_eq_false h,decide_eq_false e]
theorem key_lr (a:Int) (b:Str):decide ((Sum.inl a:Key)=Sum.inr b)=false:=decide_eq_false (fun q=>nomatch q)
theorem key_rl (a:Str) (b:Int):decide ((Sum.inr a:Key)=Sum.inl b)=false:=decide_eq_false (fun q=>nomatch q)
noncomputable def zg6 (prog:Program) (w:World):PySem.KeyKind prog w Key where
 is:=zav1
 hash:=keyH w
 inj:=fun v a b ha hb=>by
  rcases ze6 ha with ⟨i,t,rfl,rfl⟩ | ⟨x,t,rfl,rfl⟩
  ·rcases ze6 hb with ⟨j,u,rfl,e⟩ | ⟨y,u,rfl,e⟩
   ·injection e with e1 _;rw [e1]
   ·exact nomatch e
  ·rcases ze6 hb with ⟨j,u,rfl,e⟩ | ⟨y,u,rfl,e⟩
   ·exact nomatch e
   ·injection e with e1 _;rw [e1]
 byValue:=fun k v h=>by
  rcases ze6 h with ⟨i,t,rfl,rfl⟩ | ⟨x,t,rfl,rfl⟩<;>rfl
 pyHash:=fun hv h=>by
  rcases ze6 hv with ⟨i,t,rfl,rfl⟩ | ⟨x,t,rfl,rfl⟩
  ·exact wpAny_pyHash_int h
  ·exact wpAny_pyHash_str h
 eqBool:=fun hu hv h=>by
  rcases ze6 hu with ⟨i,t,rfl,rfl⟩ | ⟨x,t,rfl,rfl⟩
  ·rcases ze6 hv with ⟨j,u,rfl,rfl⟩ | ⟨y,u,rfl,rfl⟩
   ·rw [key_ll]at h;exact wpAny_eqBool_int h
   ·rw [key_lr]at h;exact SeqAt.EqAt.int_str i t y u _ _ _ _ h
  ·rcases ze6 hv with ⟨j,u,rfl,rfl⟩ | ⟨y,u,rfl,rfl⟩
   ·rw [key_rl]at h;exact SeqAt.EqAt.str_int x t j u _ _ _ _ h
   ·rw [key_rr]at h;exact wpAny_eqBool_str h
 «strs»:=fun k x t v h=>by
  rcases ze6 h with ⟨i,u,rfl,e⟩ | ⟨y,u,rfl,e⟩
  ·exact nomatch e
  ·injection e with e1 _
   subst e1
   cases v<;>rfl
theorem zam6 (prog:Program) (w:World) (i:Int) (t:Tok):(zg6 prog w).is (.inl i) (.int i t)=true:=zbc7 i t
theorem zam5 (prog:Program) (w:World) (x:Str) (t:Tok):(zg6 prog w).is (.inr x) (.str x t)=true:=zbc6 x t
inductive V where
 |non | bl (b:Bool) |int (i:Int) |str (x:Str) |byt (b:Array UInt8) |flt (b:UInt64) |ref (a:Addr) |ty (n:String)
 deriving DecidableEq
noncomputable def RelV:V→Value→Prop
 |.non,u=>u=Value.none
 |.bl b,u=>u=Value.bool b
 |.int i,u => ∃t,u=Value.int i t
 |.str x,u => ∃t,u=Value.str x t
 |.byt b,u => ∃t,u=Value.bytes b t
 |.flt b,u => ∃t,u=Value.float b t
 |.ref a,u=>u=Value.ref a
 |.ty n,u=>u=Value.type n
abbrev Vals:List V→List Value→Prop:=Paired RelV
theorem Vals.length {xs:List V}{us:List Value} (r:Vals xs us):xs.length=us.length:=Paired.length r
theorem Vals.get:∀ {xs:List V}{us:List Value}{i:Nat}{x:V},Vals xs us→xs[i]?=some x→∃u,us[i]?=some u∧RelV x u
 |_,_,_,_,.nil,e=>by simp at e
 |_,_,0,_,.cons r _,e=>by simp at e;subst e;exact⟨_,rfl,r⟩
 |_,_,i+1,x,.cons _ t,e=>by
  obtain⟨u,h1,h2⟩:=Vals.get (i:=i) (x:=x) t (by simpa using e)
  exact⟨u,by simpa using h1,h2⟩
theorem Vals.set {x:V}{u:Value} (r:RelV x u):∀ {xs:List V}{us:List Value} (i:Nat),Vals xs us→Vals (xs.set i x) (us.set i u)
 |_,_,_,.nil=>.nil
 |_,_,0,.cons _ t=>.cons r t
 |_,_,i+1,.cons q t=>.cons q (Vals.set r i t)
theorem Vals.append:∀ {xs ys:List V}{us ws:List Value},Vals xs us→Vals ys ws→Vals (xs++ys) (us++ws)
 |_,_,_,_,.nil,s=>s
 |_,_,_,_,.cons r t,s=>.cons r (Vals.append t s)
theorem Vals.take:∀ {xs:List V}{us:List Value} (n:Nat),Vals xs us→Vals (xs.take n) (us.take n)
 |_,_,0,_=>.nil
 |_,_,_+1,.nil=>.nil
 |_,_,n+1,.cons r t=>.cons r (Vals.take n t)
theorem Vals.drop:∀ {xs:List V}{us:List Value} (n:Nat),Vals xs us→Vals (xs.drop n) (us.drop n)
 |_,_,0,r=>r
 |_,_,_+1,.nil=>.nil
 |_,_,n+1,.cons _ t=>Vals.drop n t
def RelO:Option V→Option Value→Prop
 |some v,some u=>RelV v u
 |none,none=>True
 |_,_=>False
def KV {κ:Type}:List (κ×V)→List (κ×Value)→Prop:=Paired fun (p:κ×V) (q:κ×Value)=>p.1=q.1∧RelV p.2 q.2
def kV:Key→V
 |.inl i=>.int i
 |.inr x=>.str x
inductive HO where
 /-- a list -/
 |lst (xs:List V)
 /-- a tuple (never changes) -/
 |tup (xs:List V)
 /-- a dict whose keys are ints and texts;one whose keys are tuples of ints and texts (the empty one is both) -/
 |dK (kvs:List (Key×V)) |dT (kvs:List (List Key×V))
 /-- a set of ints: its members,its size -/
 |set (S:Int→Bool) (n:Nat)
 /-- an instance of the class at C,its dict at dx,its attributes -/
 |ins (C dx:Addr) (fs:List (Str×V))
 /-- the dict of the instance at x -/
 |own (x:Addr)
 /-- the dict of an exception -/
 |xd (fs:List (Str×V))
 /-- a bound method,f of x -/
 |met (f x:Addr)
 /-- a range object lo,lo+1,.. below hi -/
 |rng (lo hi:Int)
 /-- a thing that is known to the object (the script;a dict while a loop walks it): read,never written while it is so -/
 |frz (o:Obj) (u:HO)
 /-- a code object's table -/
 |tbl (q:Str)
 /-- any other thing,by what is true of its one object (a def of one's own: SetO a S n:=HO.ext fun h=>..) -/
 |ext (φ:Heap→Prop)
abbrev Hp:=Addr→Option HO
def upd (H:Hp) (a:Addr) (o:HO):Hp:=fun b=>if b=a then some o else H b
theorem zc6 {H:Hp}{a:Addr}{o:HO}:upd H a o a=some o:=by unfold upd;rw [if_pos rfl]
theorem zd3 {H:Hp}{a b:Addr}{o:HO} (h:b≠a):upd H a o b=H b:=by unfold upd;rw [if_neg h]
theorem ne_of {H:Hp}{a b:Addr}{o u:HO} (h:H a=some o) (h':H b=some u) (d:o≠u):a≠b:=by
 intro e;subst e;rw [h]at h';exact d (Option.some.inj h')
theorem zk0 {H:Hp}{a b:Addr}{o:HO} (h:H a=some o) (h':H b=none):a≠b:=by
 intro e;subst e;rw [h]at h';cases h'
section
variable (P:Program) (w:World)
noncomputable def ObjOk (H:Hp) (h:Heap) (a:Addr):HO→Prop
 |.lst xs=>xs.length≤sizeLine∧∃(its:List Value) (n:Nat),Vals xs its∧h.get? a=some { cls:=.type "list",data:=.seq its.toArray n }
 |.tup xs=>xs.length≤sizeLine∧∃its:List Value,Vals xs its∧IsTup h a its.toArray
 |.dK kvs=>kvs.length≤sizeLine∧(a == sysModules)=false∧∃vs,KV kvs vs∧h.DictOf (zg6 P w) a vs
 |.dT kvs=>kvs.length≤sizeLine∧(a == sysModules)=false∧∃xs:List (List Key×Addr×Value),
   Paired (fun (p:List Key×V) (q:List Key×Addr×Value)=>p.1=q.1∧H q.2.1=some (.tup (p.1.map kV))∧RelV p.2 q.2.2) kvs xs ∧
   ∃o es ep,h.get? a=some o∧o.ExactDict∧o.data=.dict es ep∧es.toList=xs.map (entryOfKey (tupleKind (zg6 P w)))∧(xs.map (·.1)).Nodup
 |.set S n=>h.SetOf (intKind P w) a S n
 |.ins C dx fs=>H dx=some (.own a)∧fs.length≤1000∧dx≠a∧h.get? a=some (zbx0 C dx) ∧
   ∃mA,h.Ns1 dx mA∧(∀f,RelO (fs.lookup f) (mA f))∧PySem.Within mA (fs.map (·.1))
 |.own _ => ∃o,h.get? a=some o
 |.xd fs => ∃mA,h.Ns1 a mA∧∀f,RelO (fs.lookup f) (mA f)
 |.rng lo hi => ∃t u v,h.get? a=some { cls:=.type "range",data:=.fields #[.int lo t,.int hi u,.int 1 v] }
 |.frz o u=>h.get? a=some o∧ObjOk H h a u
 |.tbl q => ∃ps:Array Value,h.get? a=some { cls:=.none,data:=.fields ps }∧TriplesOk ps.toList∧∀pos cv,codeAmong pos ps.toList=some cv→∃(c:Addr) (oc:Obj) (vs:Array Value) (tk:Tok),cv=.ref c∧H c=some (.frz oc (.own 0))∧oc.data=.fields vs∧vs[1]?=some (.str q tk)
 |.met f x=>h.get? a=some (zbv6 (.ref f) (.ref x))
 |.ext φ=>φ h∧(∃o,h.get? a=some o)∧∀h1 h2:Heap,φ h1→(∀o,h1.get? a=some o→h2.get? a=some o)→φ h2
def HOk (H:Hp) (h:Heap):Prop := ∀a o,H a=some o→ObjOk P w H h a o
end
section
variable {P:Program}{w:World}{H H':Hp}{h h':Heap}{a:Addr}{o:HO}
theorem ObjOk.lt (x:ObjOk P w H h a o):a<h.objs.size:=by
 cases o with
 |lst xs=>obtain⟨_,_,_,_,e⟩:=x;exact zbj8 e
 |tup xs=>obtain⟨_,_,_,p⟩:=x;exact p.lt
 |dK kvs=>obtain⟨_,_,_,_,o,_,_,e,_⟩:=x;exact zbj8 e
 |dT kvs=>obtain⟨_,_,_,_,o,_,_,e,_⟩:=x;exact zbj8 e
 |set S n=>obtain⟨o,_,_,_,e,_⟩:=x;exact zbj8 e
 |ins C dx fs=>obtain⟨_,_,_,e,_⟩:=x;exact zbj8 e
 |own y=>obtain⟨_,e⟩:=x;exact zbj8 e
 |xd fs=>obtain⟨_,⟨_,_,_,e,_⟩,_⟩:=x;exact zbj8 e
 |rng lo hi=>obtain⟨_,_,_,e⟩:=x;exact zbj8 e
 |frz ob u=>obtain⟨e,_⟩:=x;exact zbj8 e
 |tbl q=>obtain⟨_,e,_⟩:=x;exact zbj8 e
 |met f y=>exact zbj8 (show h.get? a=some _ from x)
 |ext φ=>obtain⟨_,⟨_,e⟩,_⟩:=x;exact zbj8 e
theorem Paired.mapP {α β:Type}{F G:α→β→Prop}:∀ {l₁:List α}{l₂:List β},Paired F l₁ l₂→(∀a b,F a b→G a b)→Paired G l₁ l₂
 |_,_,.nil,_=>.nil
 |_,_,.cons r t,f=>.cons (f _ _ r) (Paired.mapP t f)
theorem ObjOk.stay (x:ObjOk P w H h a o) (k:∀b u,(b=a∨H b=some (.own a))→h.get? b=some u→h'.get? b=some u)
  (ho:∀b,H b=some (.own a)→H' b=some (.own a)) (ht:∀b xs,H b=some (.tup xs)→H' b=some (.tup xs)) (hz:∀b o u,H b=some (.frz o u)→H' b=some (.frz o u)):ObjOk P w H' h' a o:=by
 induction o with
 |lst xs=>obtain⟨z,its,n,r,e⟩:=x;exact⟨z,its,n,r,k _ _ (.inl rfl) e⟩
 |tup xs=>obtain⟨z,its,r,ob,e,c⟩:=x;exact⟨z,its,r,ob,k _ _ (.inl rfl) e,c⟩
 |dK kvs=>obtain⟨z,y,vs,r,ob,es,ep,e,c⟩:=x;exact⟨z,y,vs,r,ob,es,ep,k _ _ (.inl rfl) e,c⟩
 |dT kvs =>
  obtain⟨z,y,xs,r,ob,es,ep,e,c⟩:=x
  exact⟨z,y,xs,Paired.mapP r fun p q z=>⟨z.1,ht _ _ z.2.1,z.2.2⟩,ob,es,ep,k _ _ (.inl rfl) e,c⟩
 |set S n=>obtain⟨ob,es,ep,t,e,c⟩:=x;exact⟨ob,es,ep,t,k _ _ (.inl rfl) e,c⟩
 |ins C dx fs =>
  obtain⟨d,z,ne,e,mA,⟨od,es,ep,e2,c⟩,r⟩:=x
  exact⟨ho _ d,z,ne,k _ _ (.inl rfl) e,mA,⟨od,es,ep,k _ _ (.inr d) e2,c⟩,r⟩
 |own y=>obtain⟨ob,e⟩:=x;exact⟨ob,k _ _ (.inl rfl) e⟩
 |xd fs=>obtain⟨mA,⟨od,es,ep,e,c⟩,r⟩:=x;exact⟨mA,⟨od,es,ep,k _ _ (.inl rfl) e,c⟩,r⟩
 |rng lo hi=>obtain⟨t,u,v,e⟩:=x;exact⟨t,u,v,k _ _ (.inl rfl) e⟩
 |frz ob u ih=>obtain⟨e,q⟩:=x;exact⟨k _ _ (.inl rfl) e,ih q⟩
 |tbl q=>obtain⟨ps,e,t,r⟩:=x;exact⟨ps,k _ _ (.inl rfl) e,t,fun pos cv z=>let ⟨c,oc,vs,tk,a1,a2,a3⟩:=r pos cv z;⟨c,oc,vs,tk,a1,hz _ _ _ a2,a3⟩⟩
 |met f y =>
  have e:h.get? a=some (zbv6 (.ref f) (.ref y)):=x
  show h'.get? a=some (zbv6 (.ref f) (.ref y))
  exact k a _ (.inl rfl) e
 |ext φ=>obtain⟨p,⟨o,e⟩,st⟩:=x;exact⟨st _ _ p fun o q=>k _ _ (.inl rfl) q,⟨o,k _ _ (.inl rfl) e⟩,st⟩
theorem HOk.lt (x:HOk P w H h) (e:H a=some o):a<h.objs.size:=(x a o e).lt
theorem HOk.fresh (x:HOk P w H h) (e:h.objs.size≤a):H a=none:=by
 cases q:H a with
 |none=>rfl
 |some u=>exact absurd (zbk6 (x.lt q) e) (zbo6 _)
theorem HOk.kept (x:HOk P w H h) (k:∀b u,h.get? b=some u→h'.get? b=some u):HOk P w H h':=fun a o e =>
 (x a o e).stay (fun b u _ q=>k b u q) (fun _ q=>q) (fun _ _ q=>q) fun _ _ _ q=>q
theorem HOk.laid (x:HOk P w H h) (k:∀b u,h.get? b=some u→h'.get? b=some u) (hp:h.objs.size≤a) (new:ObjOk P w (upd H a o) h' a o):HOk P w (upd H a o) h':=fun b u e=>by
 have hn:=x.fresh hp
 by_cases hb:b=a
 ·subst hb;rw [zc6]at e;cases e;exact new
 ·rw [zd3 hb]at e
  exact (x b u e).stay (fun c v _ q=>k c v q) (fun c q=>by rw [zd3 (zk0 q hn)];exact q) (fun c xs q=>by rw [zd3 (zk0 q hn)];exact q) fun c o u q=>by rw [zd3 (zk0 q hn)];exact q
end
def Rd (H:Hp) (a:Addr) (u:HO):Prop:=H a=some u∨∃o,H a=some (.frz o u)
theorem Rd.ok {P:Program}{w:World}{H:Hp}{h:Heap}{a:Addr}{u:HO} (r:Rd H a u) (x:HOk P w H h):ObjOk P w H h a u:=by
 rcases r with r | ⟨o,r⟩
 ·exact x a u r
 ·obtain⟨_,q⟩:=x a _ r
  exact q
noncomputable def Mut:Option HO→Prop
 |some (.lst _)=>True
 |some (.dK _)=>True
 |some (.dT _)=>True
 |some (.set _ _)=>True
 |some (.ins _ _ _)=>True
 |some (.ext _)=>True
 |_=>False
section
variable {P:Program}{w:World}{H:Hp}{h h':Heap}{x e:Addr}{o':HO}
theorem HOk.write (ok:HOk P w H h) (mu:Mut (H x)) (he:e=x∨H e=some (.own x)) (k:∀b u,b≠e→h.get? b=some u→h'.get? b=some u) (heo:∃u,h'.get? e=some u)
  (new:ObjOk P w (upd H x o') h' x o'):HOk P w (upd H x o') h':=fun b u q=>by
 have nown:∀c y,H c=some (.own y)→c≠x:=fun c y r z=>by subst z;rw [r]at mu;exact mu
 have ntup:∀c xs,H c=some (.tup xs)→c≠x:=fun c xs r z=>by subst z;rw [r]at mu;exact mu
 by_cases hb:b=x
 ·subst hb;rw [zc6]at q;cases q;exact new
 ·rw [zd3 hb]at q
  by_cases hbe:b=e
  ·have q':H b=some (.own x):=by
    rcases he with z | z
    ·exact absurd (hbe.trans z) hb
    ·rw [hbe];exact z
   rw [q]at q';cases q'
   obtain⟨v,hv⟩:=heo
   exact⟨v,by rw [hbe];exact hv⟩
  ·refine (ok b u q).stay (fun c v hc r=>k c v ?_ r) (fun c r=>by rw [zd3 (nown c b r)];exact r) (fun c xs r=>by rw [zd3 (ntup c xs r)];exact r) fun c o u r=>by rw [zd3 (fun z=>by subst z;rw [r]at mu;exact mu)];exact r
   rcases hc with rfl | hc
   ·exact hbe
   ·rintro rfl
    rcases he with z | z
    ·exact nown c b hc z
    ·rw [hc]at z;cases z;exact hb rfl
end
structure Un (fs ex:List Addr) (H H':Hp) (h h':Heap):Prop where
 keep:∀b o,h.get? b=some o→H b=none→b∉fs→b∉ex→h'.get? b=some o
 slot:∀b o,h.get? b=some o→H b=none→b∈fs→b∉ex→∃sl,h'.get? b=some { o with slots:=sl }
 free:∀b o,h.get? b=some o→H b=none→b∉ex→H' b=none
 there:∀b o,h.get? b=some o→b∉ex→∃o',h'.get? b=some o'
 tups:∀b xs,H b=some (.tup xs)→H' b=some (.tup xs)
 frzs:∀b o u,H b=some (.frz o u)→H' b=some (.frz o u)
 tbls:∀b q,H b=some (.tbl q)→H' b=some (.tbl q)
section
variable {fs fs' ex ex':List Addr}{H H1 H2:Hp}{h h1 h2 h':Heap}{a x e:Addr}{o:HO}
theorem Un.any (u:Un fs ex H H1 h h1) {b:Addr}{ob:Obj} (q:h.get? b=some ob) (n:H b=none) (hx:b∉ex):∃sl,h1.get? b=some { ob with slots:=sl }:=by
 by_cases hb:b∈fs
 ·exact u.slot b ob q n hb hx
 ·exact⟨ob.slots,u.keep b ob q n hb hx⟩
theorem Un.trans (a:Un fs ex H H1 h h1) (b:Un fs ex H1 H2 h1 h2):Un fs ex H H2 h h2 where
 keep:=fun c ob q n hc hx=>b.keep c ob (a.keep c ob q n hc hx) (a.free c ob q n hx) hc hx
 slot:=fun c ob q n hc hx=>by
  obtain⟨sl,e1⟩:=a.slot c ob q n hc hx
  obtain⟨sl',e2⟩:=b.slot c _ e1 (a.free c ob q n hx) hc hx
  exact⟨sl',e2⟩
 free:=fun c ob q n hx=>by
  obtain⟨o',e1⟩:=a.there c ob q hx
  exact b.free c o' e1 (a.free c ob q n hx) hx
 there:=fun c ob q hx=>by
  obtain⟨o',e1⟩:=a.there c ob q hx
  exact b.there c o' e1 hx
 tups:=fun c xs q=>b.tups c xs (a.tups c xs q)
 frzs:=fun c ob xs q=>b.frzs c ob xs (a.frzs c ob xs q)
 tbls:=fun c q e=>b.tbls c q (a.tbls c q e)
theorem Un.kept (k:∀b u,h.get? b=some u→h'.get? b=some u):Un fs ex H H h h' :=
 ⟨fun b ob q _ _ _=>k b ob q,fun b ob q _ _ _=>⟨ob.slots,k b ob q⟩,fun _ _ _ n _=>n,fun b ob q _=>⟨ob,k b ob q⟩,fun _ _ q=>q,fun _ _ _ q=>q,fun _ _ q=>q⟩
theorem Un.refl:Un fs ex H H h h:=Un.kept fun _ _ q=>q
theorem Un.laid (k:∀b u,h.get? b=some u→h'.get? b=some u) (hp:h.objs.size≤a) (hn:H a=none):Un fs ex H (upd H a o) h h' where
 keep:=fun b u q _ _ _=>k b u q
 slot:=fun b u q _ _ _=>⟨u.slots,k b u q⟩
 free:=fun b u q n _=>by rw [zd3 (zbl3 (zbk6 (zbj8 q) hp))];exact n
 there:=fun b u q _=>⟨u,k b u q⟩
 tups:=fun b xs q=>by rw [zd3 (zk0 q hn)];exact q
 frzs:=fun b u xs q=>by rw [zd3 (zk0 q hn)];exact q
 tbls:=fun b ps q=>by rw [zd3 (zk0 q hn)];exact q
theorem Un.write (mu:Mut (H x)) (he:e=x∨H e=some (.own x)) (k:∀b u,b≠e→h.get? b=some u→h'.get? b=some u) (heo:∃u,h'.get? e=some u):Un fs ex H (upd H x o) h h':=by
 have hx:∀b,H b=none→b≠x:=fun b n z=>by subst z;rw [n]at mu;exact mu
 have hb:∀b,H b=none→b≠e:=fun b n z=>by
  subst z
  rcases he with r | r
  ·exact hx b n r
  ·rw [n]at r;cases r
 have hm:∀b u,H b=some u → ¬ Mut (some u)→b≠x:=fun b u q nm z=>by subst z;rw [q]at mu;exact nm mu
 refine⟨fun b u q n _ _=>k b u (hb b n) q,fun b u q n _ _=>⟨u.slots,k b u (hb b n) q⟩,fun b u q n _=>by rw [zd3 (hx b n)];exact n,fun b u q _=>?_,
  fun b xs q=>by rw [zd3 (hm b _ q fun z=>z)];exact q,fun b u xs q=>by rw [zd3 (hm b _ q fun z=>z)];exact q,fun b ps q=>by rw [zd3 (hm b _ q fun z=>z)];exact q⟩
 by_cases hbe:b=e
 ·subst hbe;exact heo
 ·exact⟨u,k b u hbe q⟩
end
def trk (h:Heap) (H:Hp):List Addr:=(zbm1 h.objs.size).filter fun a=>(H a).isSome
def hidT (h:Heap) (H:Hp):Heap:=PySem.W.hideAll h (trk h H)
theorem zbd4 (h:Heap) (H:Hp):(hidT h H).objs.size=h.objs.size:=PySem.W.hideAll_size _ _
theorem zv6 {h:Heap}{H:Hp}{b:Addr}{o:Obj} (e:h.get? b=some o) (n:H b=none):(hidT h H).get? b=some o :=
 PySem.W.hideAll_get _ e fun hm=>by
  have q:(H b).isSome=true:=(zbo2.mp hm).2
  rw [n]at q;simp at q
theorem of_hidT {h:Heap}{H:Hp}{b:Addr}{o:Obj} (e:(hidT h H).get? b=some o):h.get? b=some o∧H b=none:=by
 have e':h.get? b=some o:=PySem.W.of_hideAll (trk h H) e
 refine⟨e',?_⟩
 cases q:H b with
 |none=>rfl
 |some x =>
  have hm:b∈trk h H:=zbo2.mpr ⟨zbp4.mpr (zbj8 e'),by simp [q]⟩
  have z:(hidT h H).get? b=none:=PySem.W.hideAll_none (trk h H) hm
  rw [z]at e;cases e
noncomputable def allNews (g h:Heap) (L:Addr):List (Addr×Obj):=(zbm1 h.objs.size).filterMap fun a=>if a=L∨(g.get? a).isSome=true then none else (h.get? a).map fun o=>(a,o)
def rest (g h:Heap) (L d:Addr):List (Addr×Obj):=(allNews g h L).filter fun p=>decide (p.1≠d)
end L2
namespace L2
open PySem.Spec
structure BHeap extends Heap where
 tabs:List (Addr×Str)
instance:Coe BHeap Heap:=⟨BHeap.toHeap⟩
structure Mod (K:zbi5) (mg:Str→Option Value) (base:BHeap):Prop where
 kin:K.In base
 glob:base.Ns mainGlobals mg
 blt:∃mb,base.Ns builtinsNs mb∧∀x:Str,x≠"__name__"→mb x=bootBuiltins x
 nolimit:base.NoLimit
 bm:∃(bm:Addr) (ob:Obj),mg "__builtins__"=some (.ref bm)∧bm≠builtinsNs∧base.get? bm=some ob∧ob.cls=.type "module"∧ob.dict=some builtinsNs∧ob.data=.plain
structure Cx where
 prog:Program
 w:World
 K:zbi5
 mg:Str→Option Value
 base:BHeap
 A:Around
 N:List Str
 s₀:zbj7
 H₀:Hp
 env:Env
 outer:List Env
 stack:List Env
 ex:List Addr
 fn:Str→Bool
 calm:Bool
 pn:List (Addr×Obj)
 xe:Value→zbj7→Prop
def frs (l:List Env):List Addr:=l.filterMap (·.frame)
abbrev Cx.fs (X:Cx):List Addr:=frs X.outer
def Vis (sc:Scope) (x:Str):Prop:=sc.names.lookup x=some .local∨sc.names.lookup x=some .cell∨sc.names.lookup x=some .free
def Loc (sc:Scope) (x:Str):Prop:=sc.names.lookup x=some .local∨sc.names.lookup x=some .cell
noncomputable def Look (env:Env) (h:Heap) (m:Str→Option Value) (x:Str) (u:Value):Prop :=
 (env.kindOf x=some .local∧m x=some u)∨((env.kindOf x=some .cell∨env.kindOf x=some .free)∧∃c,env.cells.lookup x=some c∧h.IsCell c (some u))
structure Cx.Ok (X:Cx):Prop where
 mod:Mod X.K X.mg X.base
 kind:X.env.scope.kind=.function
 glob:X.env.globals=mainGlobals
 blt:X.env.builtins=builtinsNs
 above:X.s₀.heap.objs.size≤X.env.locals
 inj:∀x y c,X.env.cells.lookup x=some c→X.env.cells.lookup y=some c→x=y
 has:∀x,(X.env.kindOf x=some .cell∨X.env.kindOf x=some .free)→∃c,X.env.cells.lookup x=some c
 cab:∀x c,X.fn x=true→X.env.cells.lookup x=some c→X.s₀.heap.objs.size≤c
 hd:X.calm=true→X.A.handled=none
 frames:X.A.frames=some X.stack
 stk:X.stack=X.outer∨(X.stack=X.env::X.outer∧X.env.frame=some X.env.locals)
 exf:∀b∈X.ex,b≠X.env.locals∧∀x c,X.env.cells.lookup x=some c→c≠b
 bs:∀b o,X.base.get? b=some o→X.s₀.heap.get? b=some o∧X.H₀ b=none
 bsz:X.base.objs.size≤X.s₀.heap.objs.size
 noex:∀b o,X.base.get? b=some o→b∉X.ex
 exfs:∀b∈X.ex,b∉X.fs
 funs:X.s₀.heap.FunFrames X.base X.outer
 frf:∀b∈X.fs,X.H₀ b=none
 tabs:∀p∈X.base.tabs,X.H₀ p.1=some (.tbl p.2)
structure Inv (X:Cx) (pins:List (Addr×Obj)) (σ:List (Option V)) (H:Hp) (s:zbj7):Prop where
 ok:X.Ok
 os:s.os=X.s₀.os
 bare:AllBare s.gens
 base:Un X.fs X.ex X.H₀ H X.s₀.heap s.heap
 loc:∃m,s.heap.Ns X.env.locals m∧∀(i:Nat) (x:Str) (v:V),X.N[i]?=some x→σ[i]?=some (some v)→Vis X.env.scope x→∃u,RelV v u∧Look X.env s.heap m x u
 cell:∀x c,X.env.cells.lookup x=some c→∃v,s.heap.IsCell c v
 free:H X.env.locals=none
 freeC:∀x c,X.env.cells.lookup x=some c→H c=none
 pin:∀p∈X.pn++pins,s.heap.get? p.1=some p.2∧H p.1=none∧p.1≠X.env.locals∧p.1∉X.fs∧∀v,p.2.data≠.cell v
 hok:HOk X.prog X.w H s.heap
 len:σ.length=X.N.length
section
variable {X:Cx}{pins:List (Addr×Obj)}{σ:List (Option V)}{H H':Hp}{s:zbj7}{h':Heap}
theorem Cx.Ok.nofr (ok:X.Ok) {b:Addr}{o:Obj} (e:X.base.get? b=some o):b∉X.fs:=fun hb=>by
 have:=(ok.funs.mem hb).1
 rw [e]at this;cases this
theorem Inv.bs (I:Inv X pins σ H s):∀b o,X.base.get? b=some o→s.heap.get? b=some o∧H b=none:=fun b o e =>
 ⟨I.base.keep b o (I.ok.bs b o e).1 (I.ok.bs b o e).2 (I.ok.nofr e) (I.ok.noex b o e),I.base.free b o (I.ok.bs b o e).1 (I.ok.bs b o e).2 (I.ok.noex b o e)⟩
theorem Inv.bk (I:Inv X pins σ H s):∀b o,X.base.get? b=some o→s.heap.get? b=some o:=fun b o e=>(I.bs b o e).1
theorem Inv.mod (I:Inv X pins σ H s):Mod X.K X.mg X.base:=I.ok.mod
theorem Inv.kIn (I:Inv X pins σ H s):X.K.In s.heap:=I.ok.mod.kin.keeps I.bk
theorem Inv.lt (I:Inv X pins σ H s):X.env.locals<s.heap.objs.size:=let ⟨_,hn,_⟩:=I.loc;hn.lt
theorem Inv.sz (I:Inv X pins σ H s):X.s₀.heap.objs.size≤s.heap.objs.size:=zbn6 I.ok.above (zbs4 I.lt)
theorem Inv.nofs (I:Inv X pins σ H s) {a:Addr} (h:s.heap.objs.size≤a):a∉X.fs:=fun hb=>by
 obtain⟨_,o,ho,_⟩:=I.ok.funs.mem hb
 exact absurd (zbk6 (zbj8 ho) (zbn6 I.sz h)) (zbo6 _)
theorem Inv.cne (I:Inv X pins σ H s):∀x c,X.env.cells.lookup x=some c→c≠X.env.locals:=fun x c e z=>by
 obtain⟨v,o,ho,hd⟩:=I.cell x c e
 obtain⟨m,⟨o',es,ep,ho',hd',_⟩,_⟩:=I.loc
 rw [z,ho']at ho;cases ho;rw [hd']at hd;cases hd
theorem Inv.funs (I:Inv X pins σ H s):s.heap.FunFrames X.base X.outer:=by
 have all:∀(l:List Env),(∀b∈frs l,b∈X.fs)→X.s₀.heap.FunFrames X.base l→s.heap.FunFrames X.base l:=by
  intro l
  induction l with
  |nil=>intro _ _;trivial
  |cons env r ih =>
   intro hs hl
   obtain⟨hk,⟨L,o,hf,hn,ho,hd⟩,hr⟩:=hl
   have hL:L∈X.fs:=hs L (by unfold frs;rw [zbu0,hf];exact zbi9)
   obtain⟨sl,e⟩:=I.base.slot L o ho (I.ok.frf L hL) hL fun z=>I.ok.exfs L z hL
   exact⟨hk,⟨L,_,hf,hn,e,hd⟩,ih (fun b hb=>hs b (by unfold frs;rw [zbu0,hf];exact zbi6 _ hb)) hr⟩
 exact all X.outer (fun _ hb=>hb) I.ok.funs
theorem Inv.stack (I:Inv X pins σ H s):s.heap.FunFrames X.base X.stack:=by
 rcases I.ok.stk with e | ⟨e,hf⟩
 ·rw [e];exact I.funs
 ·rw [e]
  obtain⟨m,hn,_⟩:=I.loc
  refine .cons (by rw [I.ok.kind];decide) hf hn ?_ I.funs
  exact Heap.get?_none_of_le (zbn6 I.ok.bsz I.ok.above)
theorem Inv.stkSub (I:Inv X pins σ H s):∀b∈frs X.stack,b∈X.env.locals::X.fs:=fun b hb=>by
 rcases I.ok.stk with e | ⟨e,hf⟩
 ·rw [e]at hb;exact zbi6 _ hb
 ·rw [e]at hb
  unfold frs at hb
  rw [zbu0,hf]at hb
  exact hb
theorem Inv.stkFree (I:Inv X pins σ H s):∀b∈frs X.stack,H b=none:=fun b hb=>by
 rcases zbj4.mp (I.stkSub b hb) with e | hb
 ·rw [e];exact I.free
 ·obtain⟨_,o,ho,_⟩:=I.ok.funs.mem hb
  exact I.base.free b o ho (I.ok.frf b hb) fun z=>I.ok.exfs b z hb
theorem Inv.step {g':Array GenState}{t':Nat}{d':Drawn}{ch:List Addr} (I:Inv X pins σ H s)
  (hch:∀b∈ch,(b∈X.ex∨X.s₀.heap.objs.size≤b)∧b≠X.env.locals∧(∀x c,X.env.cells.lookup x=some c→c≠b)∧∀p∈X.pn++pins,p.1≠b)
  (keep:∀b o,b≠X.env.locals→b∉X.fs→b∉ch→s.heap.get? b=some o→H b=none→h'.get? b=some o)
  (slot:∀b o,b≠X.env.locals→b∈X.fs→b∉ch→s.heap.get? b=some o→H b=none→∃sl,h'.get? b=some { o with slots:=sl }) (free:∀b o,b∉ch→s.heap.get? b=some o→H b=none→H' b=none)
  (there:∀b o,b∉ch→s.heap.get? b=some o→∃o',h'.get? b=some o')
  (tups:∀b xs,H b=some (.tup xs)→H' b=some (.tup xs)) (frzs:∀b o u,H b=some (.frz o u)→H' b=some (.frz o u)) (tbls:∀b q,H b=some (.tbl q)→H' b=some (.tbl q))
  (ns:∀m,s.heap.Ns X.env.locals m→h'.Ns X.env.locals m) (hok:HOk X.prog X.w H' h') (hg:AllBare g') :
  Inv X pins σ H' { s with heap:=h',gens:=g',drawn:=d',toks:=t' }:=by
 have neL:∀b o,X.s₀.heap.get? b=some o→b≠X.env.locals:=fun b o e=>zbl3 (zbk6 (zbj8 e) I.ok.above)
 have neC:∀b o,X.s₀.heap.get? b=some o→b∉X.ex→b∉ch:=fun b o e hx hb=>by
  rcases (hch b hb).1 with z | z
  ·exact hx z
  ·exact absurd (zbk6 (zbj8 e) z) (zbo6 _)
 have cellK:∀x c,X.env.cells.lookup x=some c→∀v,s.heap.IsCell c v→h'.IsCell c v:=fun x c e v ⟨o,ho,hd⟩=>by
  have nch:c∉ch:=fun z=>(hch c z).2.2.1 x c e rfl
  by_cases hc:c∈X.fs
  ·obtain⟨sl,q⟩:=slot c o (I.cne x c e) hc nch ho (I.freeC x c e)
   exact⟨_,q,hd⟩
  ·exact⟨o,keep c o (I.cne x c e) hc nch ho (I.freeC x c e),hd⟩
 refine⟨I.ok,I.os,hg,⟨fun b o e n hb hx=>?_,fun b o e n hb hx=>?_,fun b o e n hx=>?_,fun b o e hx=>?_,fun b xs e=>tups b xs (I.base.tups b xs e),fun b o xs e=>frzs b o xs (I.base.frzs b o xs e),fun b ps e=>?_⟩,?_,fun x c e=>?_,?_,fun x c e=>?_,fun p hp=>?_,hok,I.len⟩
 ·exact keep b o (neL b o e) hb (neC b o e hx) (I.base.keep b o e n hb hx) (I.base.free b o e n hx)
 ·obtain⟨sl,e1⟩:=I.base.slot b o e n hb hx
  obtain⟨sl',e2⟩:=slot b _ (neL b o e) hb (neC b o e hx) e1 (I.base.free b o e n hx)
  exact⟨sl',e2⟩
 ·obtain⟨o',e1⟩:=I.base.there b o e hx
  exact free b o' (neC b o e hx) e1 (I.base.free b o e n hx)
 ·obtain⟨o',e1⟩:=I.base.there b o e hx
  exact there b o' (neC b o e hx) e1
 ·exact tbls b _ (I.base.tbls b ps e)
 ·obtain⟨m,hn,hl⟩:=I.loc
  refine⟨m,ns m hn,fun i x v e1 e2 e3=>?_⟩
  obtain⟨u,r,l⟩:=hl i x v e1 e2 e3
  refine⟨u,r,?_⟩
  rcases l with l | ⟨k,c,e,z⟩
  ·exact .inl l
  ·exact .inr ⟨k,c,e,cellK x c e _ z⟩
 ·obtain⟨v,z⟩:=I.cell x c e
  exact⟨v,cellK x c e v z⟩
 ·obtain⟨m,⟨o,_,_,ho,_⟩,_⟩:=I.loc
  exact free _ o (fun z=>(hch _ z).2.1 rfl) ho I.free
 ·obtain⟨v,o,ho,hd⟩:=I.cell x c e
  exact free c o (fun z=>(hch c z).2.2.1 x c e rfl) ho (I.freeC x c e)
 ·obtain⟨e,n,ne,nf,d⟩:=I.pin p hp
  have nch:p.1∉ch:=fun z=>(hch p.1 z).2.2.2 p hp rfl
  exact⟨keep p.1 p.2 ne nf nch e n,free p.1 p.2 nch e n,ne,nf,d⟩
theorem Inv.un {t':Nat} (I:Inv X pins σ H s) (u:Un X.fs [] H H' s.heap h') (hok:HOk X.prog X.w H' h'):Inv X pins σ H' { s with heap:=h',toks:=t' }:=by
 obtain⟨m,⟨o,es,ep,ho,r⟩,_⟩:=id I.loc
 obtain⟨sl,hL⟩:=u.any ho I.free (by simp)
 exact I.step (g':=s.gens) (d':=s.drawn) (ch:=[]) (fun _ z=>nomatch z) (fun b o _ hb _ e n=>u.keep b o e n hb (by simp)) (fun b o _ hb _ e n=>u.slot b o e n hb (by simp)) (fun b o _ e n=>u.free b o e n (by simp)) (fun b o _ e=>u.there b o e (by simp)) u.tups u.frzs u.tbls (fun m' hm=>by
  obtain⟨o',es',ep',ho',r'⟩:=hm
  rw [ho]at ho';cases ho'
  exact⟨_,es',ep',hL,r'⟩) hok I.bare
theorem Inv.call {g':Array GenState}{t':Nat}{d':Drawn}{ch:List Addr} (I:Inv X pins σ H s) (u:Un (frs X.stack) ch H H' s.heap h') (hok:HOk X.prog X.w H' h') (hg:AllBare g')
  (hch:∀b∈ch,(b∈X.ex∨X.s₀.heap.objs.size≤b)∧b≠X.env.locals∧(∀x c,X.env.cells.lookup x=some c→c≠b)∧∀p∈X.pn++pins,p.1≠b) :
  Inv X pins σ H' { s with heap:=h',gens:=g',drawn:=d',toks:=t' }:=by
 obtain⟨m,⟨o,es,ep,ho,r⟩,_⟩:=id I.loc
 obtain⟨sl,hL⟩:=u.any ho I.free fun z=>(hch _ z).2.1 rfl
 exact I.step (ch:=ch) hch (fun b o hL hb hc e n=>u.keep b o e n (fun z=>(zbj4.mp (I.stkSub b z)).elim hL hb) hc) (fun b o _ _ hc e n=>u.any e n hc) (fun b o hc e n=>u.free b o e n hc) (fun b o hc e=>u.there b o e hc) u.tups u.frzs u.tbls (fun m' hm=>by
  obtain⟨o',es',ep',ho',r'⟩:=hm
  rw [ho]at ho';cases ho'
  exact⟨_,es',ep',hL,r'⟩) hok hg
theorem Inv.turned {t':Nat}{it:Addr} (I:Inv X pins σ H s) (k:∀b o,b≠it→s.heap.get? b=some o→h'.get? b=some o) (hn:H it=none) (hL:it≠X.env.locals)
  (h1:it∈X.ex∨X.s₀.heap.objs.size≤it) (h2:∀x c,X.env.cells.lookup x=some c→c≠it) (h3:∀p∈X.pn++pins,p.1≠it):Inv X pins σ H { s with heap:=h',toks:=t' }:=by
 have nit:∀b u,H b=some u→b≠it:=fun b u e z=>by rw [z,hn]at e;cases e
 refine I.step (g':=s.gens) (d':=s.drawn) (ch:=[it]) (fun b hb=>?_) (fun b o _ _ hc e _=>k b o (fun z=>hc (by simp [z])) e) (fun b o _ _ hc e _=>⟨o.slots,k b o (fun z=>hc (by simp [z])) e⟩) (fun _ _ _ _ n=>n)
  (fun b o hc e=>⟨o,k b o (fun z=>hc (by simp [z])) e⟩) (fun _ _ e=>e) (fun _ _ _ e=>e) (fun _ _ e=>e) (fun m hm=>?_) (fun b u e=>?_) I.bare
 ·have e:b=it:=by simpa using hb
  subst e
  exact⟨h1,hL,h2,h3⟩
 ·obtain⟨o,es,ep,ho,r⟩:=hm
  exact⟨o,es,ep,k _ o (Ne.symm hL) ho,r⟩
 ·refine (I.hok b u e).stay (fun c v hc q=>k c v ?_ q) (fun _ q=>q) (fun _ _ q=>q) fun _ _ _ q=>q
  rcases hc with z | z
  ·rw [z];exact nit b u e
  ·exact nit c _ z
theorem Inv.tok (I:Inv X pins σ H s) (t:Nat):Inv X pins σ H { s with toks:=t }:=I.un (h':=s.heap) (t':=t) Un.refl I.hok
theorem Inv.kept {t':Nat} (I:Inv X pins σ H s) (k:∀b u,s.heap.get? b=some u→h'.get? b=some u):Inv X pins σ H { s with heap:=h',toks:=t' }:=I.un (Un.kept k) (I.hok.kept k)
theorem Inv.laid {a:Addr}{o:HO}{t':Nat} (I:Inv X pins σ H s) (k:∀b u,s.heap.get? b=some u→h'.get? b=some u) (hp:s.heap.objs.size≤a) (new:ObjOk X.prog X.w (upd H a o) h' a o) :
  Inv X pins σ (upd H a o) { s with heap:=h',toks:=t' }:=I.un (Un.laid k hp (I.hok.fresh hp)) (I.hok.laid k hp new)
theorem Inv.write {x e:Addr}{o:HO}{t':Nat} (I:Inv X pins σ H s) (mu:Mut (H x)) (he:e=x∨H e=some (.own x)) (k:∀b u,b≠e→s.heap.get? b=some u→h'.get? b=some u) (heo:∃u,h'.get? e=some u)
  (new:ObjOk X.prog X.w (upd H x o) h' x o):Inv X pins σ (upd H x o) { s with heap:=h',toks:=t' }:=I.un (Un.write mu he k heo) (I.hok.write mu he k heo new)
theorem Inv.pins_of {pins':List (Addr×Obj)} (I:Inv X pins σ H s) (h:∀p∈pins',s.heap.get? p.1=some p.2∧H p.1=none∧p.1≠X.env.locals∧p.1∉X.fs∧∀v,p.2.data≠.cell v):Inv X pins' σ H s :=
 ⟨I.ok,I.os,I.bare,I.base,I.loc,I.cell,I.free,I.freeC,fun p hp=>(zbj2.mp hp).elim (fun z=>I.pin p (zbi7 _ z)) (h p),I.hok,I.len⟩
theorem zar2 {N:List Str} (hN:N.Nodup) {i j:Nat}{x:Str} (a:N[i]?=some x) (b:N[j]?=some x):i=j:=by
 obtain⟨h1,e1⟩:=zbn0.mp a
 obtain⟨h2,e2⟩:=zbn0.mp b
 exact (List.getElem_inj hN).mp (e1.trans e2.symm)
theorem zag1 {M:Model}{A:Around}{E:Value→zbj7→Prop}{i:Nat}{x:Str}{v:V}{u:Value}{Q:Unit→zbj7→Prop} (I:Inv X pins σ H s) (hN:X.N.Nodup) (hi:X.N[i]?=some x) (hx:Loc X.env.scope x) (r:RelV v u)
  (h:∀s',Inv X pins (σ.set i (some v)) H s'→(∃a,Heap.SameBut a s.heap s'.heap∧(a=X.env.locals∨X.env.cells.lookup x=some a))→Q () s') (hf:X.fn x=true∨X.env.scope.names.lookup x=some .local:=by first | exact .inl rfl | exact .inr rfl | assumption):wpAny M A (storeName X.env x u) Q E s:=by
 obtain⟨m,hn,hl⟩:=id I.loc
 have hcls:(X.env.scope.kind == .class||(X.env.scope.kind == .module&&X.env.locals != X.env.globals))=false:=by rw [I.ok.kind];rfl
 have hiσ:i<σ.length:=by rw [I.len];exact (zbn0.mp hi).1
 have cne:=I.cne
 have tracked:∀ {a:Addr}{h':Heap},(∃o,s.heap.get? a=some o∧H a=none)→Heap.SameBut a s.heap h'→HOk X.prog X.w H h':=fun {a h'} ha hs b ob e=>by
  obtain⟨_,_,hfree⟩:=ha
  refine (I.hok b ob e).stay (fun c w' hc q=>(hs.2 c ?_).trans q) (fun _ q=>q) (fun _ _ q=>q) fun _ _ _ q=>q
  rintro rfl
  rcases hc with rfl | hc
  ·rw [hfree]at e;cases e
  ·rw [hfree]at hc;cases hc
 rcases hx with hk | hk
 ·refine wpAny_storeName_local hk hn (fun h' hn' hs=>?_) hcls
  obtain⟨oL,_,_,hoL,_⟩:=id hn
  refine h _ ⟨I.ok,I.os,I.bare,⟨fun b o e n hb hx=>?_,fun b o e n hb hx=>?_,I.base.free,fun b o e hx=>?_,I.base.tups,I.base.frzs,I.base.tbls⟩,⟨_,hn',fun j y v' e1 e2 e3=>?_⟩,fun y c e=>?_,I.free,I.freeC,fun p hp=>?_,tracked ⟨oL,hoL,I.free⟩ hs,by simpa using I.len⟩ ⟨_,hs,.inl rfl⟩
  ·exact (hs.2 b (zbl3 (zbk6 (zbj8 e) I.ok.above))).trans (I.base.keep b o e n hb hx)
  ·obtain⟨sl,e1⟩:=I.base.slot b o e n hb hx
   exact⟨sl,(hs.2 b (zbl3 (zbk6 (zbj8 e) I.ok.above))).trans e1⟩
  ·obtain⟨o',e1⟩:=I.base.there b o e hx
   exact⟨o',(hs.2 b (zbl3 (zbk6 (zbj8 e) I.ok.above))).trans e1⟩
  ·by_cases hj:j=i
   ·subst hj
    rw [hi]at e1;cases e1
    rw [zbq4 hiσ]at e2
    cases e2
    exact⟨u,r,.inl ⟨hk,by simp⟩⟩
   ·rw [zbp5 (Ne.symm hj)]at e2
    obtain⟨u',r',q⟩:=hl j y v' e1 e2 e3
    refine⟨u',r',?_⟩
    rcases q with ⟨k,e⟩ | ⟨k,c,e,z⟩
    ·refine .inl ⟨k,?_⟩
     have:y≠x:=fun e=>hj (zar2 hN e1 (e ▸ hi))
     simp [this,e]
    ·exact .inr ⟨k,c,e,z.sameBut hs (cne y c e)⟩
  ·obtain⟨w',z⟩:=I.cell y c e
   exact⟨w',z.sameBut hs (cne y c e)⟩
  ·obtain⟨e,n,ne,nf,d⟩:=I.pin p hp
   exact⟨(hs.2 p.1 ne).trans e,n,ne,nf,d⟩
 ·have hfn:X.fn x=true:=by
   rcases hf with z | z
   ·exact z
   ·rw [z]at hk;cases hk
  obtain⟨c,hc⟩:=I.ok.has x (.inl hk)
  obtain⟨w',z⟩:=I.cell x c hc
  refine wpAny_storeName_cell I.ok.kind hk hc z (fun h' hc' hs=>?_)
  obtain⟨oc,hoc,hocd⟩:=id z
  refine h { s with heap:=h' } ⟨I.ok,I.os,I.bare,⟨fun b o e n hb hx=>?_,fun b o e n hb hx=>?_,I.base.free,fun b o e hx=>?_,I.base.tups,I.base.frzs,I.base.tbls⟩,⟨m,hn.sameBut hs (Ne.symm (cne x c hc)),fun j y v' e1 e2 e3=>?_⟩,fun y c' e=>?_,I.free,I.freeC,fun p hp=>?_,tracked ⟨oc,hoc,I.freeC x c hc⟩ hs,by simpa using I.len⟩ ⟨c,hs,.inr hc⟩
  ·exact (hs.2 b (zbl3 (zbk6 (zbj8 e) (I.ok.cab x c hfn hc)))).trans (I.base.keep b o e n hb hx)
  ·obtain⟨sl,e1⟩:=I.base.slot b o e n hb hx
   exact⟨sl,(hs.2 b (zbl3 (zbk6 (zbj8 e) (I.ok.cab x c hfn hc)))).trans e1⟩
  ·obtain⟨o',e1⟩:=I.base.there b o e hx
   exact⟨o',(hs.2 b (zbl3 (zbk6 (zbj8 e) (I.ok.cab x c hfn hc)))).trans e1⟩
  ·by_cases hj:j=i
   ·subst hj
    rw [hi]at e1;cases e1
    rw [zbq4 hiσ]at e2
    cases e2
    exact⟨u,r,.inr ⟨.inl hk,c,hc,hc'⟩⟩
   ·rw [zbp5 (Ne.symm hj)]at e2
    obtain⟨u',r',q⟩:=hl j y v' e1 e2 e3
    refine⟨u',r',?_⟩
    rcases q with q | ⟨k,c',e,z'⟩
    ·exact .inl q
    ·refine .inr ⟨k,c',e,z'.sameBut hs ?_⟩
     rintro rfl
     exact hj (zar2 hN e1 (I.ok.inj _ _ _ e hc ▸ hi))
  ·by_cases hcc:c'=c
   ·subst hcc;exact⟨_,hc'⟩
   ·obtain⟨w2,z2⟩:=I.cell y c' e
    exact⟨w2,z2.sameBut hs hcc⟩
  ·obtain⟨e,n,ne,nf,d⟩:=I.pin p hp
   refine⟨(hs.2 p.1 ?_).trans e,n,ne,nf,d⟩
   intro q
   rw [q,hoc]at e
   have q':oc=p.2:=Option.some.inj e
   exact d w' (by rw [← q'];exact hocd)
theorem zap2 {M:Model}{A:Around}{E:Value→zbj7→Prop}{i:Nat}{x:Str}{v:V}{u:Value}{Q:Unit→zbj7→Prop} (I:Inv X pins σ H s) (hN:X.N.Nodup) (hi:X.N[i]?=some x) (hx:Loc X.env.scope x) (r:RelV v u)
  (h:∀s',Inv X pins (σ.set i (some v)) H s'→Q () s') (hf:X.fn x=true∨X.env.scope.names.lookup x=some .local:=by first | exact .inl rfl | exact .inr rfl | assumption):wpAny M A (storeName X.env x u) Q E s :=
 zag1 I hN hi hx r (fun s' I' _=>h s' I') hf
end
abbrev XK:=Value→Option Addr→Hp→Prop
abbrev St:=List (Option V)
abbrev VK:=V→Hp→Prop
abbrev TE:=St→Hp→VK→Prop
abbrev TT:=St→Hp→(Bool→Hp→Prop)→Prop
abbrev TA:=St→Hp→(List V→Hp→Prop)→Prop
structure Ends where
 nx:St→Hp→Prop
 rt:VK
 bk:St→Hp→Prop:=fun _ _=>False
 ct:St→Hp→Prop:=fun _ _=>False
abbrev TS:=Ends→St→Hp→Prop
def EP (X:Cx) (pins:List (Addr×Obj)) (σ:St) (Q:VK) (u:Value) (s':zbj7):Prop := ∃v H',Inv X pins σ H' s'∧RelV v u∧Q v H'
def TP (X:Cx) (pins:List (Addr×Obj)) (σ:St) (Q:Bool→Hp→Prop) (b:Bool) (s':zbj7):Prop := ∃H',Inv X pins σ H' s'∧Q b H'
noncomputable def AP (X:Cx) (pins:List (Addr×Obj)) (σ:St) (Q:List V→Hp→Prop) (us:List Value) (s':zbj7):Prop := ∃vs H',Inv X pins σ H' s'∧Vals vs us∧Q vs H'
noncomputable def SP (X:Cx) (pins:List (Addr×Obj)) (D:Ends) (f:Flow) (s':zbj7):Prop :=
 match f with
 |.next => ∃σ' H',Inv X pins σ' H' s'∧D.nx σ' H'
 |.brk => ∃σ' H',Inv X pins σ' H' s'∧D.bk σ' H'
 |.cont => ∃σ' H',Inv X pins σ' H' s'∧D.ct σ' H'
 |.ret u => ∃v σ' H',Inv X pins σ' H' s'∧RelV v u∧D.rt v H'
noncomputable def PE (X:Cx) (e:Expr) (t:TE):Prop :=
 ∀(pins:List (Addr×Obj)) (s:zbj7) (σ:St) (H:Hp) (Q:VK),Inv X pins σ H s→t σ H Q→wpAny (model X.prog X.w) X.A (eval e X.env) (EP X pins σ Q) X.xe s
noncomputable def PT (X:Cx) (e:Expr) (t:TT):Prop :=
 ∀(pins:List (Addr×Obj)) (s:zbj7) (σ:St) (H:Hp) (Q:Bool→Hp→Prop),Inv X pins σ H s→t σ H Q→wpAny (model X.prog X.w) X.A (isTrue e X.env (eval e X.env)) (TP X pins σ Q) X.xe s
noncomputable def PW (X:Cx) (e:Expr) (t:TT):Prop :=
 ∀(whole:Sem Value) (pins:List (Addr×Obj)) (s:zbj7) (σ:St) (H:Hp) (Q:Bool→Hp→Prop),Inv X pins σ H s→t σ H Q→wpAny (model X.prog X.w) X.A (isTrue e X.env whole) (TP X pins σ Q) X.xe s
theorem PW.pt {X:Cx}{e:Expr}{t:TT} (h:PW X e t):PT X e t:=h _
noncomputable def PA (X:Cx) (es:List Expr) (t:TA):Prop :=
 ∀(pos:Pos) (pins:List (Addr×Obj)) (s:zbj7) (σ:St) (H:Hp) (Q:List V→Hp→Prop),Inv X pins σ H s→t σ H Q→wpAny (model X.prog X.w) X.A (spliced (zbq3 pos (zbk2 es X.env))) (AP X pins σ Q) X.xe s
noncomputable def PS (X:Cx) (st:Stmt) (t:TS):Prop :=
 ∀(pins:List (Addr×Obj)) (s:zbj7) (σ:St) (H:Hp) (D:Ends),Inv X pins σ H s→t D σ H→wpAny (model X.prog X.w) X.A (exec st X.env) (SP X pins D) X.xe s
noncomputable def PSs (X:Cx) (st:List Stmt) (t:TS):Prop :=
 ∀(pins:List (Addr×Obj)) (s:zbj7) (σ:St) (H:Hp) (D:Ends),Inv X pins σ H s→t D σ H→wpAny (model X.prog X.w) X.A (execs st X.env) (SP X pins D) X.xe s
theorem thn {α:Type}{t:Sem α}{Q Q':α→zbj7→Prop}{M:Model}{A:Around}{E:Value→zbj7→Prop}{s:zbj7} (h:wpAny M A t Q E s) (hQ:∀a s,Q a s→Q' a s):wpAny M A t Q' E s:=wpAny_mono h hQ fun _ _ x=>x
end L2
namespace L2
open PySem.Spec
section
variable {X:Cx}
theorem bin {a b:Expr}{ta tb:TE} (ha:PE X a ta) (hb:PE X b tb) {pins:List (Addr×Obj)}{s:zbj7}{σ:St}{H:Hp}{R:V→V→Hp→Prop} (I:Inv X pins σ H s) (h:ta σ H fun x H1=>tb σ H1 fun y H2=>R x y H2)
  {α:Type}{Q:α→zbj7→Prop}{f:Value→Value→Sem α}
  (hf:∀v u s2 x y H2,Inv X pins σ H2 s2→RelV x v→RelV y u→R x y H2→wpAny (model X.prog X.w) X.A (f v u) Q X.xe s2) :
  wpAny (model X.prog X.w) X.A (eval a X.env) (fun v s₁=>wpAny (model X.prog X.w) X.A (eval b X.env) (fun u s₂=>wpAny (model X.prog X.w) X.A (f v u) Q X.xe s₂) X.xe s₁) X.xe s:=by
 refine thn (ha pins s σ H _ I h) fun v s1 ⟨x,H1,I1,r1,q1⟩=>?_
 refine thn (hb pins s1 σ H1 _ I1 q1) fun u s2 ⟨y,H2,I2,r2,q2⟩=>?_
 exact hf v u s2 x y H2 I2 r1 r2 q2
def tVar (i:Nat):TE:=fun σ H Q => ∃v,σ[i]?=some (some v)∧Q v H
def tC (v:V):TE:=fun _ H Q=>Q v H
theorem zo2 {i:Nat}{x:Str}{pos:Pos} (hN:X.N[i]?=some x) (hv:Vis X.env.scope x) (hd:(x ==("__debug__":Str))=false:=by decide) (hcd:(x ==("__classdict__":Str))=false:=by decide):PE X (.Name x pos) (tVar i):=by
 intro pins s σ H Q I h
 obtain⟨v,e,h⟩:=h
 obtain⟨m,hn,hl⟩:=I.loc
 obtain⟨u,r,l⟩:=hl i x v hN e hv
 have fin:EP X pins σ Q u s:=⟨v,H,I,r,h⟩
 rcases l with ⟨hk,hm⟩ | ⟨hk,c,hc,hcell⟩
 ·exact wpAny_Name (wpAny_loadName_local I.ok.kind hk hn hm fin) hd
 ·rcases hk with hk | hk
  ·exact wpAny_Name (wpAny_loadName_cell I.ok.kind hk hc hcell fin) hd
  ·exact wpAny_Name (wpAny_loadName_free I.ok.kind hk hc hcell fin hcd) hd
theorem pe_int {i j pos}:PE X (.Constant (.int i) j pos) (tC (.int i)):=fun _ _ _ H _ I h=>wpAny_Constant_int ⟨.int i,H,I.tok _,⟨_,rfl⟩,h⟩
theorem pe_bl {b j pos}:PE X (.Constant (.bool b) j pos) (tC (.bl b)):=fun _ _ _ H _ I h=>Constant_bool ⟨.bl b,H,I,rfl,h⟩
theorem pe_non {j pos}:PE X (.Constant .none j pos) (tC .non):=fun _ _ _ H _ I h=>Constant_none ⟨.non,H,I,rfl,h⟩
def Gl (X:Cx) (x:Str):Prop:=X.env.kindOf x=some .globalImplicit
theorem ld_glob {E:Value→zbj7→Prop}{pins:List (Addr×Obj)}{s:zbj7}{σ:St}{H:Hp}{x:Str}{u:Value}{pos:Pos}{Q:Value→zbj7→Prop} (I:Inv X pins σ H s) (hg:Gl X x) (hm:X.mg x=some u) (h:Q u s)
  (hd:(x ==("__debug__":Str))=false:=by decide):wpAny (model X.prog X.w) X.A (eval (.Name x pos) X.env) Q E s :=
 Calls.Name_function_global I.ok.kind hg (Calls.loadGlobal_global (by rw [I.ok.glob];exact I.mod.glob.keeps I.bk) hm h) hd
theorem zl9 {E:Value→zbj7→Prop}{pins:List (Addr×Obj)}{s:zbj7}{σ:St}{H:Hp}{x:Str}{u:Value}{pos:Pos}{Q:Value→zbj7→Prop} (I:Inv X pins σ H s) (hg:Gl X x) (hm:X.mg x=none) (hv:bootBuiltins x=some u) (h:Q u s)
  (hn:x≠"__name__":=by decide) (hd:(x ==("__debug__":Str))=false:=by decide):wpAny (model X.prog X.w) X.A (eval (.Name x pos) X.env) Q E s:=by
 obtain⟨mb,h1,h2⟩:=I.mod.blt
 exact Calls.Name_function_global I.ok.kind hg (Calls.loadGlobal_builtin (by rw [I.ok.glob];exact I.mod.glob.keeps I.bk) hm (by rw [I.ok.blt];exact h1.keeps I.bk) ((h2 x hn).trans hv) h) hd
theorem pe_bltn {x:Str}{v:V}{u:Value}{pos:Pos} (hg:Gl X x) (hm:X.mg x=none) (hv:bootBuiltins x=some u) (r:RelV v u) (hn:x≠"__name__":=by decide) (hd:(x ==("__debug__":Str))=false:=by decide):PE X (.Name x pos) (tC v) :=
 fun _ _ _ H _ I h=>zl9 I hg hm hv ⟨v,H,I,r,h⟩ hn hd
variable {a b:Expr}{ta tb:TE}{pos:Pos}
variable {tA tB':TT}{rest:List Expr}
def tAnd (t u:TT):TT:=fun σ H Q=>t σ H fun c H1=>if c=true then u σ H1 Q else Q false H1
def tOr (t u:TT):TT:=fun σ H Q=>t σ H fun c H1=>if c=true then Q true H1 else u σ H1 Q
def tNot (t:TT):TT:=fun σ H Q=>t σ H fun c H1=>Q (!c) H1
theorem pw_and1 (ha:PT X a tA):PW X (.BoolOp .And [a] pos) tA:=by
 intro wh pins s σ H Q I h
 refine isTrue_and (thn (ha pins s σ H Q I h) fun c s1 e=>?_)
 cases c with
 |true=>exact isTrue_and_nil e
 |false=>exact e
theorem pw_or1 (ha:PT X a tA):PW X (.BoolOp .Or [a] pos) tA:=by
 intro wh pins s σ H Q I h
 refine isTrue_or (thn (ha pins s σ H Q I h) fun c s1 e=>?_)
 cases c with
 |false=>exact isTrue_or_nil e
 |true=>exact e
theorem pw_and (ha:PT X a tA) (hb:PW X (.BoolOp .And (b::rest) pos) tB'):PW X (.BoolOp .And (a::b::rest) pos) (tAnd tA tB'):=by
 intro wh pins s σ H Q I h
 refine isTrue_and (thn (ha pins s σ H _ I h) fun c s1 ⟨H1,I1,q1⟩=>?_)
 cases c with
 |true=>exact hb wh pins s1 σ H1 Q I1 q1
 |false=>exact⟨H1,I1,q1⟩
theorem pw_or (ha:PT X a tA) (hb:PW X (.BoolOp .Or (b::rest) pos) tB'):PW X (.BoolOp .Or (a::b::rest) pos) (tOr tA tB'):=by
 intro wh pins s σ H Q I h
 refine isTrue_or (thn (ha pins s σ H _ I h) fun c s1 ⟨H1,I1,q1⟩=>?_)
 cases c with
 |true=>exact⟨H1,I1,q1⟩
 |false=>exact hb wh pins s1 σ H1 Q I1 q1
theorem pt_not (ha:PT X a tA):PT X (.UnaryOp .Not a pos) (tNot tA):=by
 intro pins s σ H Q I h
 exact isTrue_not (ha pins s σ H (fun c H1=>Q (!c) H1) I h)
def tOrV (ta tb:TE):TE:=fun σ H Q=>ta σ H fun x H1 => ∃c,x=.bl c∧if c=true then Q (.bl true) H1 else tb σ H1 Q
theorem pe_one {op}{t:TE} (h:PE X a t):PE X (.BoolOp op [a] pos) t:=fun pins s σ H Q I hw=>BoolOp_one (h pins s σ H Q I hw)
theorem pe_or (ha:PE X a ta) (hb:PE X (.BoolOp .Or (b::rest) pos) tb):PE X (.BoolOp .Or (a::b::rest) pos) (tOrV ta tb):=by
 intro pins s σ H Q I h
 refine BoolOp_or (thn (ha pins s σ H _ I h) fun v s1 ⟨x,H1,I1,r1,q1⟩=>?_)
 obtain⟨c,rfl,q1⟩:=q1
 cases r1
 refine wpAny_truthy_bool ?_
 cases c with
 |false=>exact hb pins s1 σ H1 Q I1 q1
 |true=>exact⟨.bl true,H1,I1,rfl,q1⟩
end
end L2
namespace L2
open PySem.Spec
noncomputable def SqL (K:zbi5) (H:Hp) (a:Addr) (xs:List V):Prop :=
 Rd H a (.lst xs) ∨
  ∃(o:Obj) (its:Array Value) (n:Nat),K.lookup a=some o∧o.cls=.type "list"∧o.dict=none∧o.data=.seq its n∧its.size≤sizeLine∧Vals xs its.toList
noncomputable def SqT (K:zbi5) (H:Hp) (a:Addr) (xs:List V):Prop :=
 Rd H a (.tup xs) ∨
  ∃(o:Obj) (its:Array Value) (n:Nat),K.lookup a=some o∧o.cls=.type "tuple"∧o.data=.seq its n∧its.size≤sizeLine∧Vals xs its.toList
noncomputable def absV:Value→Option V
 |.none=>some .non
 |.bool b=>some (.bl b)
 |.int i _=>some (.int i)
 |.str x _=>some (.str x)
 |.bytes b _=>some (.byt b)
 |.float b _=>some (.flt b)
 |.ref a=>some (.ref a)
 |.type n=>some (.ty n)
 |_=>none
theorem RelV.abs {x:V}{u:Value} (r:RelV x u):absV u=some x:=by
 cases x with
 |non=>cases r;rfl
 |bl _=>cases r;rfl
 |int _=>obtain⟨t,rfl⟩:=r;rfl
 |str _=>obtain⟨t,rfl⟩:=r;rfl
 |byt _=>obtain⟨t,rfl⟩:=r;rfl
 |flt _=>obtain⟨t,rfl⟩:=r;rfl
 |ref _=>cases r;rfl
 |ty _=>cases r;rfl
theorem RelV.inj {x y:V}{u:Value} (r:RelV x u) (q:RelV y u):x=y:=Option.some.inj (r.abs.symm.trans q.abs)
theorem Vals.inj:∀ {xs ys:List V}{us:List Value},Vals xs us→Vals ys us→xs=ys
 |_,_,_,.nil,.nil=>rfl
 |_,_,_,.cons r t,.cons r' t'=>by rw [r.inj r',Vals.inj t t']
section
variable {X:Cx}{pins:List (Addr×Obj)}{σ:St}{H:Hp}{s:zbj7}{a:Addr}{xs ys:List V}
theorem SqL.of {K:zbi5} (h:H a=some (.lst xs)):SqL K H a xs:=.inl (.inl h)
theorem SqT.of {K:zbi5} (h:H a=some (.tup xs)):SqT K H a xs:=.inl (.inl h)
theorem Inv.list (I:Inv X pins σ H s) (h:SqL X.K H a xs):∃its:List Value,Vals xs its∧PlainL s.heap a its.toArray∧xs.length≤sizeLine:=by
 rcases h with h | ⟨o,its,n,hk,hc,hd,hs,hz,r⟩
 ·obtain⟨z,its,n,r,e⟩:=h.ok I.hok
  exact⟨its,r,⟨_,n,e,rfl,rfl,rfl⟩,z⟩
 ·refine⟨its.toList,r,⟨o,n,I.kIn a o hk,hc,hd,by simpa using hs⟩,?_⟩
  have e:=r.length
  simp only [zbu1]at e
  lia
theorem Inv.tuple (I:Inv X pins σ H s) (h:SqT X.K H a xs):∃its:List Value,Vals xs its∧IsTup s.heap a its.toArray∧xs.length≤sizeLine:=by
 rcases h with h | ⟨o,its,n,hk,hc,hs,hz,r⟩
 ·obtain⟨z,its,r,p⟩:=h.ok I.hok
  exact⟨its,r,p,z⟩
 ·refine⟨its.toList,r,⟨o,I.kIn a o hk,hc,n,by simpa using hs⟩,?_⟩
  have e:=r.length
  simp only [zbu1]at e
  lia
theorem Inv.list_inj (I:Inv X pins σ H s) (h:SqL X.K H a xs) (h':SqL X.K H a ys):xs=ys:=by
 obtain⟨its,r,⟨o,n,e,_,_,d⟩,_⟩:=I.list h
 obtain⟨its',r',⟨o',n',e',_,_,d'⟩,_⟩:=I.list h'
 rw [e]at e';cases e'
 rw [d]at d'
 injection d' with d1 _
 have:its=its':=by simpa using congrArg Array.toList d1
 subst this
 exact r.inj r'
theorem Inv.tuple_inj (I:Inv X pins σ H s) (h:SqT X.K H a xs) (h':SqT X.K H a ys):xs=ys:=by
 obtain⟨its,r,⟨o,e,_,n,d⟩,_⟩:=I.tuple h
 obtain⟨its',r',⟨o',e',_,n',d'⟩,_⟩:=I.tuple h'
 rw [e]at e';cases e'
 rw [d]at d'
 injection d' with d1 _
 have:its=its':=by simpa using congrArg Array.toList d1
 subst this
 exact r.inj r'
end
abbrev Cx.wish (X:Cx) (E:Value→zbj7→Prop):Cx:={ X with xe:=E }
abbrev Cx.nox (X:Cx):Cx:=X.wish fun _ _=>False
theorem Cx.Ok.wish {X:Cx} (ok:X.Ok) (E:Value→zbj7→Prop):(X.wish E).Ok :=
 ⟨ok.mod,ok.kind,ok.glob,ok.blt,ok.above,ok.inj,ok.has,ok.cab,ok.hd,ok.frames,ok.stk,ok.exf,ok.bs,ok.bsz,ok.noex,ok.exfs,ok.funs,ok.frf,ok.tabs⟩
theorem Cx.Ok.unwish {X:Cx}{E:Value→zbj7→Prop} (ok:(X.wish E).Ok):X.Ok :=
 ⟨ok.mod,ok.kind,ok.glob,ok.blt,ok.above,ok.inj,ok.has,ok.cab,ok.hd,ok.frames,ok.stk,ok.exf,ok.bs,ok.bsz,ok.noex,ok.exfs,ok.funs,ok.frf,ok.tabs⟩
section
variable {X:Cx}{pins:List (Addr×Obj)}{σ:St}{H:Hp}{s:zbj7}{E:Value→zbj7→Prop}
theorem Inv.wish (I:Inv X pins σ H s) (E:Value→zbj7→Prop):Inv (X.wish E) pins σ H s:=⟨I.ok.wish E,I.os,I.bare,I.base,I.loc,I.cell,I.free,I.freeC,I.pin,I.hok,I.len⟩
theorem Inv.unwish (I:Inv (X.wish E) pins σ H s):Inv X pins σ H s:=⟨I.ok.unwish,I.os,I.bare,I.base,I.loc,I.cell,I.free,I.freeC,I.pin,I.hok,I.len⟩
theorem SP.unwish {D:Ends}{f:Flow}{s':zbj7} (h:SP (X.wish E) pins D f s'):SP X pins D f s':=by
 cases f with
 |next=>obtain⟨σ',H',I,q⟩:=h;exact⟨σ',H',I.unwish,q⟩
 |brk=>obtain⟨σ',H',I,q⟩:=h;exact⟨σ',H',I.unwish,q⟩
 |cont=>obtain⟨σ',H',I,q⟩:=h;exact⟨σ',H',I.unwish,q⟩
 |ret u=>obtain⟨v,σ',H',I,r,q⟩:=h;exact⟨v,σ',H',I.unwish,r,q⟩
theorem PSs.nox {st:List Stmt}{t:TS} (h:PSs X.nox st t):PSs X st t:=fun pins s σ H D I hw =>
 wpAny_mono (h pins s σ H D (I.wish _) hw) (fun _ _ q=>q.unwish) fun _ _ z=>False.elim z
end
section
variable {X:Cx}{st:Stmt}{rest:List Stmt}{t u:TS}{e:Expr}{te:TE}{pos:Pos}
def tNext:TS:=fun D σ H=>D.nx σ H
def tSeq (t u:TS):TS:=fun D σ H=>t { D with nx:=u D } σ H
theorem zal2:PSs X [] tNext:=fun _ _ σ H _ I h=>wpAny_execs_nil ⟨σ,H,I,h⟩
theorem zp7 (h1:PS X st t) (h2:PSs X rest u):PSs X (st::rest) (tSeq t u):=by
 intro pins s σ H D I h
 refine wpAny_execs_cons (thn (h1 pins s σ H { D with nx:=u D } I h) fun f s1 q=>?_)
 cases f with
 |next =>
  obtain⟨σ',H',I',q⟩:=q
  exact h2 pins s1 σ' H' D I' q
 |ret v=>exact q
 |brk=>exact q
 |cont=>exact q
theorem zad4 (h1:PS X st t):PSs X [st] t:=by
 intro pins s σ H D I h
 refine wpAny_execs_cons (thn (h1 pins s σ H D I h) fun f s1 q=>?_)
 cases f with
 |next=>exact wpAny_execs_nil q
 |ret v=>exact q
 |brk=>exact q
 |cont=>exact q
def tBreak:TS:=fun D σ H=>D.bk σ H
theorem ps_break:PS X (.Break pos) tBreak:=fun _ _ σ H _ I h=>wpAny_Break ⟨σ,H,I,h⟩
theorem Inv.quiet {pins:List (Addr×Obj)}{σ:St}{H:Hp}{s:zbj7} (I:Inv X pins σ H s):interactive X.env=false:=by simp [interactive,I.ok.kind]
def tDrop (te:TE):TS:=fun D σ H=>te σ H fun _ H1=>D.nx σ H1
theorem zad6 (he:PE X e te) (hs:swapsWith e none pos.line X.env=pure false:=by rfl):PS X (.Expr e pos) (tDrop te):=by
 intro pins s σ H D I h
 exact wpAny_Expr_any (thn (he pins s σ H _ I h) fun v s1 ⟨x,H1,I1,r1,q1⟩=>⟨σ,H1,I1,q1⟩) I.quiet hs
def tRet (te:TE):TS:=fun D σ H=>te σ H D.rt
theorem ps_ret (he:PE X e te):PS X (.Return (some e) pos) (tRet te):=by
 intro pins s σ H D I h
 exact wpAny_Return_some (thn (he pins s σ H _ I h) fun v s1 ⟨x,H1,I1,r1,q1⟩=>⟨x,σ,H1,I1,r1,q1⟩)
def tIfS (c:TT) (t u:TS):TS:=fun D σ H=>c σ H fun b H1=>if b=true then t D σ H1 else u D σ H1
theorem ps_if {c:Expr}{a b:List Stmt}{tc:TT} (hc:PT X c tc) (ha:PSs X a t) (hb:PSs X b u):PS X (.If c a b pos) (tIfS tc t u):=by
 intro pins s σ H D I h
 refine wpAny_If (thn (hc pins s σ H _ I h) fun d s1 ⟨H1,I1,q1⟩=>?_)
 cases d with
 |true=>exact ha pins s1 σ H1 D I1 q1
 |false=>exact hb pins s1 σ H1 D I1 q1
end
abbrev TG:=V→St→Hp→(St→Hp→Prop)→Prop
abbrev TGs:=List V→St→Hp→(St→Hp→Prop)→Prop
noncomputable def PG (X:Cx) (target:Expr) (t:TG):Prop :=
 ∀(pins:List (Addr×Obj)) (s:zbj7) (σ:St) (H:Hp) (v:V) (u:Value) (Q:St→Hp→Prop),Inv X pins σ H s→RelV v u→t v σ H Q →
  wpAny (model X.prog X.w) X.A (assign target X.env u) (fun _ s' => ∃σ' H',Inv X pins σ' H' s'∧Q σ' H') X.xe s
noncomputable def PGs (X:Cx) (ts:List Expr) (t:TGs):Prop :=
 ∀(pins:List (Addr×Obj)) (s:zbj7) (σ:St) (H:Hp) (vs:List V) (us:List Value) (Q:St→Hp→Prop),Inv X pins σ H s→Vals vs us→t vs σ H Q →
  wpAny (model X.prog X.w) X.A (assignInOrder ((assignEach ts X.env).map (·.2)) us) (fun _ s' => ∃σ' H',Inv X pins σ' H' s'∧Q σ' H') X.xe s
abbrev TSet:=V→V→V→Hp→(Hp→Prop)→Prop
noncomputable def PSet (X:Cx) (t:TSet):Prop :=
 ∀(pins:List (Addr×Obj)) (s:zbj7) (σ:St) (H:Hp) (o i v:V) (ov iv u:Value) (Q:Hp→Prop),Inv X pins σ H s→RelV o ov→RelV i iv→RelV v u→t o i v H Q →
  wpAny (model X.prog X.w) X.A (setItem ov iv u) (fun _ s' => ∃H',Inv X pins σ H' s'∧Q H') X.xe s
abbrev TIp:=V→V→Hp→VK→Prop
noncomputable def PIp (X:Cx) (op:Operator) (t:TIp):Prop :=
 ∀(pins:List (Addr×Obj)) (s:zbj7) (σ:St) (H:Hp) (x y:V) (v u:Value) (Q:VK),Inv X pins σ H s→RelV x v→RelV y u→t x y H Q →
  wpAny (model X.prog X.w) X.A (inplaceOp op v u) (EP X pins σ Q) X.xe s
section
variable {X:Cx}{pos:Pos}
def zbd7 (i:Nat):TG:=fun v σ H Q=>Q (σ.set i (some v)) H
theorem zb4 {i:Nat}{x:Str} (hN:X.N.Nodup) (hi:X.N[i]?=some x) (hx:Loc X.env.scope x) (hf:X.fn x=true∨X.env.scope.names.lookup x=some .local:=by first | exact .inl rfl | exact .inr rfl | assumption):PG X (.Name x pos) (zbd7 i):=by
 intro pins s σ H v u Q I r h
 exact wpAny_assign_Name (zap2 I hN hi hx r (fun s' I'=>⟨_,H,I',h⟩) hf)
def gNil:TGs:=fun vs σ H Q=>vs=[]∧Q σ H
def gCons (t:TG) (u:TGs):TGs:=fun vs σ H Q => ∃v r,vs=v::r∧t v σ H fun σ' H'=>u r σ' H' Q
theorem zf8:PGs X [] gNil:=by
 intro pins s σ H vs us Q I r h
 obtain⟨e,h⟩:=h
 subst e
 cases r
 exact assignInOrder_nil ⟨σ,H,I,h⟩
theorem zc1 {e:Expr}{es:List Expr}{t:TG}{u:TGs} (h1:PG X e t) (h2:PGs X es u)
  (hs:(assignEach (e::es) X.env).map (·.2)=assign e X.env ::(assignEach es X.env).map (·.2):=by rfl):PGs X (e::es) (gCons t u):=by
 intro pins s σ H vs us Q I r h
 obtain⟨v,vr,e1,h⟩:=h
 subst e1
 cases r with
 |cons r rr =>
  rw [hs]
  refine assignInOrder_cons (thn (h1 pins s σ H _ _ _ I r h) fun _ s1 ⟨σ1,H1,I1,q1⟩=>?_)
  exact h2 pins s1 σ1 H1 _ _ Q I1 rr q1
def gTup (K:zbi5) (n:Nat) (t:TGs):TG:=fun v σ H Q => ∃a xs,v=.ref a∧SqT K H a xs∧xs.length=n∧t xs σ H Q
theorem zj3 {es:List Expr}{k:Nat}{t:TGs}{n:Nat} (hc:X.calm=true) (h:PGs X es t)
  (hn:(assignEach es X.env).length=n:=by rfl) (hst:(assignEach es X.env).findIdx? (·.1)=none:=by rfl):PG X (.Tuple es k pos) (gTup X.K n t):=by
 intro pins s σ H v u Q I r hw
 obtain⟨a,xs,e1,hq,hl,hw⟩:=hw
 subst e1
 cases r
 obtain⟨its,rv,ht,hz⟩:=I.tuple hq
 refine assign_Tuple_tuple (I.ok.hd hc) ht (by simp [hn, ← hl,rv.length]) hst fun h' hx=>?_
 have I1:Inv X pins σ H { s with heap:=h' }:=I.kept (t':=s.toks) fun b o e=>hx b o (zbl3 (zbj8 e)) e
 exact h pins _ σ H xs _ Q I1 (by simpa using rv) hw
def gSub (to ti:TE) (t:TSet):TG:=fun v σ H Q=>to σ H fun o H1=>ti σ H1 fun i H2=>t o i v H2 fun H3=>Q σ H3
theorem pg_sub {o i:Expr}{to ti:TE}{t:TSet} (ho:PE X o to) (hi:PE X i ti) (hs:PSet X t)
  (ha:∀v,assign (.Subscript o i pos) X.env v=(do
   let ov ← holding [v] (eval o X.env)
   let iv ← holding [v,ov] (eval i X.env)
   standAt pos
   holding [v,ov,iv] (setItem ov iv v)
   release [v,ov,iv] []):=by intro _;rfl):PG X (.Subscript o i pos) (gSub to ti t):=by
 intro pins s σ H v u Q I r h
 rw [ha]
 refine zbi8 (wpAny_holding (thn (ho pins s σ H _ I h) fun ov s1 ⟨x,H1,I1,r1,q1⟩=>?_))
 refine zbi8 (wpAny_holding (thn (hi pins s1 σ H1 _ I1 q1) fun iv s2 ⟨y,H2,I2,r2,q2⟩=>?_))
 refine zbi8 (wpAny_standAt (zbi8 (wpAny_holding (thn (hs pins s2 σ H2 x y v ov iv u _ I2 r1 r2 r q2) fun _ s3 ⟨H3,I3,q3⟩=>?_))))
 exact wpAny_release ⟨σ,H3,I3,q3⟩
def tAsg (te:TE) (g:TG):TS:=fun D σ H=>te σ H fun x H1=>g x σ H1 D.nx
theorem zaz1 {tg e:Expr}{te:TE}{g:TG} (he:PE X e te) (hg:PG X tg g) (hs:swapsWithSole [tg] e pos.line X.env=pure false:=by rfl) (hw:swappedStores [tg] e X.env=pure none:=by rfl)
  (h1:(assignEach [tg] X.env).map (·.2)=[assign tg X.env]:=by rfl):PS X (.Assign [tg] e pos) (tAsg te g):=by
 intro pins s σ H D I h
 refine wpAny_Assign_stores (thn (he pins s σ H _ I h) fun v s1 ⟨x,H1,I1,r1,q1⟩=>?_) hs hw
 rw [h1]
 exact thn (hg pins s1 σ H1 x v _ I1 r1 q1) fun _ s2 q=>q
theorem zah0 {i:Nat}{x:Str}{e:Expr}{te:TE}{pos':Pos} (hN:X.N.Nodup) (hi:X.N[i]?=some x) (hx:Loc X.env.scope x) (he:PE X e te) (hs:swapsWith e (some (.Name x pos')) pos.line X.env=pure false:=by rfl) (hf:X.fn x=true∨X.env.scope.names.lookup x=some .local:=by first | exact .inl rfl | exact .inr rfl | assumption) :
  PS X (.Assign [.Name x pos'] e pos) (tAsg te (zbd7 i)):=by
 intro pins s σ H D I h
 refine wpAny_Assign_Name (thn (he pins s σ H _ I h) fun v s1 ⟨y,H1,I1,r1,q1⟩=>?_) hs
 exact zap2 I1 hN hi hx r1 (fun s2 I2=>⟨_,H1,I2,q1⟩) hf
noncomputable def tAugS (to ti te:TE) (tget:V→V→Hp→VK→Prop) (tip:TIp) (tset:TSet):TS:=fun D σ H=>to σ H fun o H1=>ti σ H1 fun i H2=>tget o i H2 fun x H3=>te σ H3 fun y H4=>tip x y H4 fun z H5=>tset o i z H5 fun H6=>D.nx σ H6
noncomputable def PGet (X:Cx) (t:V→V→Hp→VK→Prop):Prop :=
 ∀(pins:List (Addr×Obj)) (s:zbj7) (σ:St) (H:Hp) (o i:V) (ov iv:Value) (Q:VK),Inv X pins σ H s→RelV o ov→RelV i iv→t o i H Q →
  wpAny (model X.prog X.w) X.A (getItem ov iv) (EP X pins σ Q) X.xe s
theorem ps_augS {o i e:Expr}{to ti te:TE}{tget:V→V→Hp→VK→Prop}{tip:TIp}{tset:TSet}{op:Operator}{tpos:Pos} (ho:PE X o to) (hi:PE X i ti) (hg:PGet X tget) (he:PE X e te) (hp:PIp X op tip) (hs:PSet X tset)
  (ha:∀ov iv new,augStore i ov iv new=(do holding [new,ov,iv] (setItem ov iv new);release [new,ov,iv] [];pure .next):=by intros;rfl):PS X (.AugAssign (.Subscript o i tpos) op e pos) (tAugS to ti te tget tip tset):=by
 intro pins s σ H D I h
 refine wpAny_AugAssign_SubscriptAny (thn (ho pins s σ H _ I h) fun ov s1 ⟨x1,H1,I1,r1,q1⟩=>?_) ha
 refine thn (hi pins s1 σ H1 _ I1 q1) fun iv s2 ⟨x2,H2,I2,r2,q2⟩=>?_
 refine thn (hg pins s2 σ H2 x1 x2 ov iv _ I2 r1 r2 q2) fun old s3 ⟨x3,H3,I3,r3,q3⟩=>?_
 refine thn (he pins s3 σ H3 _ I3 q3) fun v s4 ⟨x4,H4,I4,r4,q4⟩=>?_
 refine thn (hp pins s4 σ H4 x3 x4 old v _ I4 r3 r4 q4) fun new s5 ⟨x5,H5,I5,r5,q5⟩=>?_
 exact thn (hs pins s5 σ H5 x1 x2 x5 ov iv new _ I5 r1 r2 r5 q5) fun _ s6 ⟨H6,I6,q6⟩=>⟨σ,H6,I6,q6⟩
def ipI (f:Int→Int→Int):TIp:=fun x y H Q => ∃i j,x=.int i∧y=.int j∧Q (.int (f i j)) H
theorem ip_sub:PIp X .Sub (ipI fun i j=>i - j):=by
 intro pins s σ H x y v u Q I r1 r2 h
 obtain⟨i,j,e1,e2,q⟩:=h
 subst e1;subst e2
 obtain⟨t,rfl⟩:=r1
 obtain⟨t',rfl⟩:=r2
 exact isub_int ⟨.int _,H,I.tok _,⟨_,rfl⟩,q⟩
end
structure It where
 go:Nat→Hp→Prop
 yld:Nat→Hp→V→Hp→Prop
 stop:Nat→Hp→Prop
noncomputable def FpOk (X:Cx) (pins:List (Addr×Obj)) (H:Hp) (b:Addr):Prop :=
 H b=none∧b≠X.env.locals∧b∉X.fs∧(b∈X.ex∨X.s₀.heap.objs.size≤b)∧(∀x c,X.env.cells.lookup x=some c→c≠b)∧∀p∈X.pn++pins,p.1≠b
theorem Inv.fpOk {X:Cx}{pins:List (Addr×Obj)}{σ:St}{H H':Hp}{s:zbj7}{b:Addr} (I:Inv X pins σ H s) (hb:s.heap.objs.size≤b) (hn:H' b=none):FpOk X pins H' b:=by
 refine⟨hn,zbr5 (zbk6 I.lt hb),I.nofs hb,.inr (zbn6 I.sz hb),fun x c e z=>?_,fun p hp z=>?_⟩
 ·obtain⟨v,q⟩:=I.cell x c e
  exact absurd (zbk6 q.lt (by rw [z];exact hb)) (zbo6 _)
 ·exact absurd (zbk6 (zbj8 (I.pin p hp).1) (by rw [z];exact hb)) (zbo6 _)
structure Turn (P:Program) (w:World) (K:zbi5) (tg:Expr) (J:It) (fp:List Addr) (it:Addr) (tn:Nat→Heap→Prop):Prop where
 mem:it∈fp
 obj:∀i h,tn i h→∀b∈fp,∃o,h.get? b=some o∧∀v,o.data≠.cell v
 keep:∀i h h',tn i h→(∀b∈fp,∀o,h.get? b=some o→h'.get? b=some o)→tn i h'
 item:∀(X:Cx),X.prog=P→X.w=w→X.K=K→X.calm=true→∀(i:Nat) (pins:List (Addr×Obj)) (s:zbj7) (σ:St) (H:Hp) (E:Value→zbj7→Prop),Inv X pins σ H s→(∀b∈fp,FpOk X pins H b)→tn i s.heap→J.go i H →
  wpAny (model P w) X.A (pyNext (.ref it)) (fun r s1 => ∃u,r=some u ∧
   wpAny (model P w) X.A (letOwnedTupleGo tg (.ref it) u) (fun _ s2 => ∃x H',Inv X pins σ H' s2∧RelV x u∧J.yld i H x H'∧tn (i+1) s2.heap∧∀b∈fp,H' b=none) E s1) E s
 done:∀(X:Cx),X.prog=P→X.w=w→X.K=K→X.calm=true→∀(i:Nat) (pins:List (Addr×Obj)) (s:zbj7) (σ:St) (H:Hp) (E:Value→zbj7→Prop),Inv X pins σ H s→(∀b∈fp,FpOk X pins H b)→tn i s.heap→J.stop i H →
  wpAny (model P w) X.A (pyNext (.ref it)) (fun r s1=>r=none∧Inv X pins σ H s1) E s
 self:∀(A:Around) (i:Nat) (s:zbj7) (Q:Value→zbj7→Prop) (E:Value→zbj7→Prop),tn i s.heap→Q (.ref it) s→wpAny (model P w) A (pyIter (.ref it)) Q E s
abbrev TI:=St→Hp→(It→Hp→Prop)→Prop
noncomputable def PIE (X:Cx) (pins:List (Addr×Obj)) (σ:St) (tg:Expr) (R:It→Hp→Prop) (itv:Value) (s2:zbj7):Prop :=
 ∃(it:Addr) (fp:List Addr) (tn:Nat→Heap→Prop) (J:It) (H':Hp),itv=.ref it∧Inv X pins σ H' s2∧Turn X.prog X.w X.K tg J fp it tn∧tn 0 s2.heap∧(∀b∈fp,FpOk X pins H' b)∧R J H'
noncomputable def PI (X:Cx) (tg iter:Expr) (wi:TI):Prop :=
 ∀(pins:List (Addr×Obj)) (s:zbj7) (σ:St) (H:Hp) (R:It→Hp→Prop),Inv X pins σ H s→wi σ H R →
  wpAny (model X.prog X.w) X.A (eval iter X.env) (fun v s1=>wpAny (model X.prog X.w) X.A (pyIter v) (PIE X pins σ tg R) X.xe s1) X.xe s
theorem go_of {M:Model}{A:Around}{E:Value→zbj7→Prop}{s:zbj7}{tg:Expr}{it:Addr}{u:Value}{o:Obj}{n:String}{vs:Array Value}{Q:Unit→zbj7→Prop} (ho:s.heap.get? it=some o) (hc:o.cls=.type n) (hd:o.data=.fields vs)
  (hn:["enumerate", "zip", "dict_itemiterator", "dict_reverseitemiterator", "odict_iterator", "itertools.zip_longest", "itertools.pairwise"].contains n=false) (hQ:Q () s):wpAny M A (letOwnedTupleGo tg (.ref it) u) Q E s:=by
 unfold letOwnedTupleGo
 cases tg<;>first
  |exact zbj5 hQ
  |(cases u<;>first
    |exact zbj5 hQ
    |(refine zbi8 (wpAny_load ho ?_)
      rw [hc,hd]
      show wpAny M A (if (["enumerate", "zip", "dict_itemiterator", "dict_reverseitemiterator", "odict_iterator", "itertools.zip_longest", "itertools.pairwise"].contains n&&vs[0]? == some (rawInt _))=true then _ else _) Q E s
      rw [if_neg (by intro h;rw [hn,Bool.false_and]at h;cases h)]
      exact zbj5 hQ))
noncomputable def Itl (K:zbi5) (a:Addr):It :=
 ⟨fun i H => ∃xs x,SqL K H a xs∧xs[i]?=some x,fun i H x H'=>H'=H∧∀xs,SqL K H a xs→xs[i]?=some x,fun i H => ∃xs,SqL K H a xs∧xs.length≤i⟩
def Itr (lo:Int) (n:Nat):It:=⟨fun i _=>i<n,fun i H x H'=>H'=H∧x=.int (lo+i),fun i _=>n≤i⟩
theorem zaw9 {P:Program}{w:World}{K:zbi5}{tg:Expr} (a it:Addr):Turn P w K tg (Itl K a) [it] it (fun i h=>h.IsListIter it a i) where
 mem:=by simp
 obj:=fun i h st b hb=>by
  have e:b=it:=by simpa using hb
  subst e
  obtain⟨o,e,c,d⟩:=st
  exact⟨o,e,fun v z=>by rw [d]at z;cases z⟩
 keep:=fun i h h' st k=>st.at fun o e=>k it (by simp) o e
 item:=by
  intro X hP hw hK hc i pins s σ H E I hf st hg
  subst hP hw hK
  obtain⟨xs,x,hq,hx⟩:=hg
  obtain⟨its,rv,p,hz⟩:=I.list hq
  obtain⟨u,hu,ru⟩:=rv.get hx
  obtain⟨f0,f1,f2,f3,f4,f5⟩:=hf it (by simp)
  refine wpAny_pyNext_list_item st p.isList (x:=u) (by simpa using hu) fun h' st' sb=>?_
  have I1:Inv X pins σ H { s with heap:=h' }:=I.turned (t':=s.toks) (fun b o hb e=>(sb.2 b hb).trans e) f0 f1 f3 f4 f5
  obtain⟨o,e,c,d⟩:=id st'
  exact⟨u,rfl,go_of (s:={ s with heap:=h' }) e c d (by decide) ⟨x,H,I1,ru,⟨rfl,fun ys hy=>by rw [I.list_inj hy hq];exact hx⟩,st',fun b hb=>(hf b hb).1⟩⟩
 done:=by
  intro X hP hw hK hc i pins s σ H E I hf st hg
  subst hP hw hK
  obtain⟨xs,hq,hx⟩:=hg
  obtain⟨its,rv,p,hz⟩:=I.list hq
  obtain⟨f0,f1,f2,f3,f4,f5⟩:=hf it (by simp)
  have hl:=rv.length
  exact wpAny_pyNext_list_end (I.ok.hd hc) st p.isList (by simp;lia) fun h' eb=>⟨rfl,I.turned (t':=s.toks) (fun b o hb e=>eb b o hb e) f0 f1 f3 f4 f5⟩
 self:=fun _ _ _ _ _ st h=>wpAny_pyIter_listiter st h
theorem zat2 {P:Program}{w:World}{K:zbi5}{tg:Expr} (it:Addr) (lo:Int) (n:Nat):Turn P w K tg (Itr lo n) [it] it (fun i h=>IsRangeIter h it (lo+(i:Nat)*1) ((n:Int) - (i:Nat)) 1) where
 mem:=by simp
 obj:=fun i h st b hb=>by
  have e:b=it:=by simpa using hb
  subst e
  exact⟨_,st,fun v z=>by
   have z':Data.fields _=Data.cell v:=z
   cases z'⟩
 keep:=fun i h h' st k=>k it (by simp) _ st
 item:=by
  intro X hP hw hK hc i pins s σ H E I hf st hg
  subst hP hw hK
  obtain⟨f0,f1,f2,f3,f4,f5⟩:=hf it (by simp)
  have W:=Walks.range (prog:=X.prog) (w:=X.w) (I.ok.hd hc) it lo 1 n
  refine W.item i s _ _ hg st fun v h' tk hv st' kk=>?_
  obtain⟨t,rfl⟩:=hv
  have I1:Inv X pins σ H { s with heap:=h',toks:=tk }:=I.turned (fun b o hb e=>kk b o (by simpa using hb) e) f0 f1 f3 f4 f5
  refine⟨_,rfl,go_of (s:={ s with heap:=h',toks:=tk }) (n := "range_iterator") st' rfl rfl (by decide) ⟨.int (lo+i),H,I1,⟨t,?_⟩,⟨rfl,rfl⟩,st',fun b hb=>(hf b hb).1⟩⟩
  rw [Int.mul_one]
 done:=by
  intro X hP hw hK hc i pins s σ H E I hf st hg
  subst hP hw hK
  obtain⟨f0,f1,f2,f3,f4,f5⟩:=hf it (by simp)
  exact wpAny_pyNext_range_end (I.ok.hd hc) st (by have:n≤i:=hg;lia) fun h' eb=>⟨rfl,I.turned (t':=s.toks) (fun b o hb e=>eb b o hb e) f0 f1 f3 f4 f5⟩
 self:=fun _ _ _ _ _ st h=>wpAny_pyIter_rangeiter st h
end L2
namespace L2
open PySem.Spec
section
variable {X:Cx}{tg:Expr}
def iList (K:zbi5) (tl:TE):TI:=fun σ H R=>tl σ H fun x H1 => ∃a,x=.ref a∧(∃xs,SqL K H1 a xs)∧R (Itl K a) H1
theorem zba0 {l:Expr}{tl:TE} (hl:PE X l tl):PI X tg l (iList X.K tl):=by
 intro pins s σ H R I h
 refine thn (hl pins s σ H _ I h) fun v s1 ⟨x,H1,I1,r1,q1⟩=>?_
 obtain⟨a,e,⟨xs,hq⟩,q⟩:=q1
 subst e
 cases r1
 obtain⟨its,rv,p,hz⟩:=I1.list hq
 refine wpAny_pyIter_list p.isList ?_
 refine⟨s1.heap.objs.size,[s1.heap.objs.size],_,_,H1,rfl,I1.kept (t':=s1.toks) fun b o e=>zbj0 _ e,zaw9 a _,⟨_,zbj9 _ rfl,rfl,rfl⟩,fun b hb=>?_,q⟩
 have e:b=s1.heap.objs.size:=by simpa using hb
 subst e
 exact I1.fpOk (zbk1 _) (I1.hok.fresh (zbk1 _))
theorem zaq1 {pins:List (Addr×Obj)}{σ:St}{H:Hp}{s:zbj7}{R:It→Hp→Prop}{E:Value→zbj7→Prop}{lo hi:Int}{t u v:Tok}{tk:Nat} (I:Inv X pins σ H s) (h1 : -(2 ^ 62)≤lo) (h2:lo<2 ^ 62) (h3 : -(2 ^ 62)≤hi) (h4:hi<2 ^ 62)
  (q:R (Itr lo (hi - lo).toNat) H):wpAny (model X.prog X.w) X.A (pyIter (.ref s.heap.objs.size)) (PIE X pins σ tg R) E { s with heap:=s.heap.push { cls:=.type "range",data:=.fields #[.int lo t,.int hi u,.int 1 v] },toks:=tk }:=by
 refine wpAny_pyIter_range (IsRange.new ..) (small_one h1 h2 h3 h4) ?_
 have I1:Inv X pins σ H { s with heap:=s.heap.push { cls:=.type "range",data:=.fields #[.int lo t,.int hi u,.int 1 v] },toks:=tk }:=I.kept fun b o e=>zbj0 _ e
 refine⟨(s.heap.push { cls:=.type "range",data:=.fields #[.int lo t,.int hi u,.int 1 v] }).objs.size,[(s.heap.push { cls:=.type "range",data:=.fields #[.int lo t,.int hi u,.int 1 v] }).objs.size],_,_,H,rfl,
  I1.kept (t':=tk) fun b o e=>zbj0 _ e,zat2 _ lo (hi - lo).toNat,?_,fun b hb=>?_,q⟩
 ·have e1:lo+((0:Nat):Int)*1=lo:=by simp
  have e2:(((hi - lo).toNat:Nat):Int) - ((0:Nat):Int)=Builtin.Range.rangeSize lo hi 1:=by rw [rangeSize_one];split<;>lia
  show IsRangeIter _ _ (lo+((0:Nat):Int)*1) ((((hi - lo).toNat:Nat):Int) - ((0:Nat):Int)) 1
  rw [e1,e2]
  exact zbj9 _ rfl
 ·have e:b=(s.heap.push { cls:=.type "range",data:=.fields #[.int lo t,.int hi u,.int 1 v] }).objs.size:=by simpa using hb
  subst e
  exact I1.fpOk (zbk1 _) (I1.hok.fresh (zbk1 _))
def iRng1 (ta:TA):TI:=fun σ H R=>ta σ H fun vs H1 => ∃j:Int,vs=[.int j] ∧ -(2 ^ 62)≤j∧j<2 ^ 62∧R (Itr 0 j.toNat) H1
noncomputable def iRng2 (ta:TA):TI:=fun σ H R=>ta σ H fun vs H1 => ∃i j:Int,vs=[.int i,.int j]∧(-(2 ^ 62)≤i∧i<2 ^ 62 ∧ -(2 ^ 62)≤j∧j<2 ^ 62)∧R (Itr i (j - i).toNat) H1
theorem zah2 {a:Expr}{ta:TA}{p pos:Pos} (hg:Gl X "range") (hm:X.mg "range"=none) (ha:PA X [a] ta) (hs:zbk2 [a] X.env=[(false,eval a X.env)]:=by rfl):PI X tg (.Call (.Name "range" p) [a] [] pos) (iRng1 ta):=by
 intro pins s σ H R I h
 refine Call_ (zl9 I hg hm boot_range (PyProof.Rows.callWith_type1 (thn (ha pos pins s σ H _ I h) fun us s1 ⟨vs,H1,I1,r1,q1⟩=>?_) hs rfl))
 obtain⟨j,e,q1,q2,q⟩:=q1
 subst e
 cases r1 with
 |cons r rr =>
  cases rr
  obtain⟨t,rfl⟩:=r
  exact call_range_1 (zaq1 I1 (by lia) (by lia) q1 q2 (by simpa using q))
theorem zaz9 {a b:Expr}{ta:TA}{p pos:Pos} (hg:Gl X "range") (hm:X.mg "range"=none) (ha:PA X [a,b] ta) (hs:zbk2 [a,b] X.env=[(false,eval a X.env),(false,eval b X.env)]:=by rfl) (hs2:zbk2 [b] X.env=[(false,eval b X.env)]:=by rfl) :
  PI X tg (.Call (.Name "range" p) [a,b] [] pos) (iRng2 ta):=by
 intro pins s σ H R I h
 refine Call_ (zl9 I hg hm boot_range (PyProof.Rows.callWith_type1 (thn (ha pos pins s σ H _ I h) fun us s1 ⟨vs,H1,I1,r1,q1⟩=>?_) (by rw [hs,hs2]) (by rw [hs2];rfl)))
 obtain⟨i,j,e,⟨q1,q2,q3,q4⟩,q⟩:=q1
 subst e
 cases r1 with
 |cons r rr =>
  cases rr with
  |cons r' rr =>
   cases rr
   obtain⟨t,rfl⟩:=r
   obtain⟨t',rfl⟩:=r'
   exact call_range_2 (zaq1 I1 q1 q2 q3 q4 q)
noncomputable def tFor (wi:TI) (g:TG) (tb:TS):TS:=fun D σ H=>wi σ H fun J H1 => ∃W:Nat→Nat→St→Hp→Prop,(∃m,W 0 m σ H1)∧∀i m σ H,W i m σ H →
 (J.stop i H∧D.nx σ H)∨(J.go i H∧∃N:St→Hp→Prop,(∀σ' H',N σ' H'→∃m',m' < m∧W (i+1) m' σ' H')∧∀x H',J.yld i H x H'→g x σ H' fun σ2 H2=>tb { D with nx:=N,ct:=N,bk:=D.nx } σ2 H2)
def zu4 (fp:List Addr) (h:Heap):List (Addr×Obj):=fp.filterMap fun b=>(h.get? b).map fun o=>(b,o)
theorem zk1 {fp:List Addr}{h:Heap}{b:Addr}{o:Obj} (hb:b∈fp) (e:h.get? b=some o):(b,o)∈zu4 fp h:=zbu8.mpr ⟨b,hb,by rw [e];rfl⟩
theorem zbb0 {fp:List Addr}{h:Heap}{p:Addr×Obj} (hp:p∈zu4 fp h):p.1∈fp∧h.get? p.1=some p.2:=by
 obtain⟨b,hb,e⟩:=zbu8.mp hp
 cases q:h.get? b with
 |none=>rw [q]at e;cases e
 |some o =>
  rw [q]at e
  have e':(b,o)=p:=Option.some.inj e
  subst e'
  exact⟨hb,q⟩
theorem Inv.pinned {pins:List (Addr×Obj)}{σ:St}{H:Hp}{s:zbj7}{fp:List Addr} (I:Inv X pins σ H s) (hf:∀b∈fp,FpOk X pins H b) (ho:∀b∈fp,∃o,s.heap.get? b=some o∧∀v,o.data≠.cell v):Inv X (pins++zu4 fp s.heap) σ H s :=
 I.pins_of fun p hp=>(zbj2.mp hp).elim (fun z=>I.pin p (zbi4 _ z)) fun z=>by
  obtain⟨hb,e⟩:=zbb0 z
  obtain⟨f0,f1,f2,_⟩:=hf p.1 hb
  obtain⟨o,e',d⟩:=ho p.1 hb
  rw [e]at e';cases e'
  exact⟨e,f0,f1,f2,d⟩
theorem Inv.unpinned {pins pl:List (Addr×Obj)}{σ:St}{H:Hp}{s:zbj7} (I:Inv X (pins++pl) σ H s):Inv X pins σ H s:=I.pins_of fun p hp=>I.pin p (zbi4 _ (zbi7 _ hp))
theorem zaq5 {iter:Expr}{body:List Stmt}{wi:TI}{g:TG}{tb:TS}{pos:Pos} (hp:PassesOwn (model X.prog X.w) X.A X.env X.xe) (hc:X.calm=true) (hi:PI X tg iter wi) (hg:PG X tg g) (hb:PSs X body tb)
  (hs:∀x,foldedSetIterable iter X.env x=pure x:=by intro _;rfl):PS X (.For tg iter body [] pos) (tFor wi g tb):=by
 intro pins s σ H D I h
 refine wpAny_For (thn (hi pins s σ H _ I h) fun v s1 h1=>thn h1 fun itv s2 h2=>?_) hs
 obtain⟨it,fp,tn,J,H2,e,I2,T,st2,f2,W,⟨m0,w0⟩,turn⟩:=h2
 subst e
 -- what stays true of the iterator's objects through the loop
 have stat:∀ {H':Hp},(∀b∈fp,H' b=none)→∀b∈fp,FpOk X pins H' b:=fun hn b hb=>⟨hn b hb,(f2 b hb).2⟩
 refine codeAny_forLoop_any (fun n s' => ∃i σ' H',Inv X pins σ' H' s'∧tn i s'.heap∧(∀b∈fp,H' b=none)∧W i n σ' H') ?_ m0 ⟨0,σ,H2,I2,st2,fun b hb=>(f2 b hb).1,w0⟩
 rintro n s3 ⟨i,σ3,H3,I3,st3,fr3,w3⟩
 rcases turn i n σ3 H3 w3 with ⟨stop,qn⟩ | ⟨go,N,hN,step⟩
 ·refine wpAny_passesOwn hp (thn (T.done X rfl rfl rfl hc i pins s3 σ3 H3 X.xe I3 (stat fr3) st3 stop) fun r s4 ⟨hr,I4⟩=>?_)
  subst hr
  exact wpAny_execs_nil ⟨σ3,H3,I4,qn⟩
 ·refine wpAny_passesOwn hp (thn (T.item X rfl rfl rfl hc i pins s3 σ3 H3 X.xe I3 (stat fr3) st3 go) fun r s4 ⟨u,hr,h4⟩=>?_)
  subst hr
  refine wpAny_passesOwn hp (thn h4 fun _ s5 ⟨x,H5,I5,r5,y5,st5,fr5⟩=>?_)
  have I5':=I5.pinned (stat fr5) (T.obj _ _ st5)
  refine wpAny_passesOwn hp (thn (hg _ s5 σ3 H5 x u _ I5' r5 (step x H5 y5)) fun _ s6 ⟨σ6,H6,I6,q6⟩=>?_)
  refine wpAny_passesOwn hp (thn (hb _ s6 σ6 H6 _ I6 q6) fun f s7 q7=>?_)
  have again:∀ {σ7:St}{H7:Hp},Inv X (pins++zu4 fp s5.heap) σ7 H7 s7→N σ7 H7→∃m,m<n∧∃i σ' H',Inv X pins σ' H' s7∧tn i s7.heap∧(∀b∈fp,H' b=none)∧W i m σ' H':=fun {σ7 H7} I7 n7=>by
   obtain⟨m',hm,w7⟩:=hN σ7 H7 n7
   refine⟨m',hm,i+1,σ7,H7,I7.unpinned,T.keep _ _ _ st5 fun b hb o e=>(I7.pin (b,o) (zbi4 _ (zbi4 _ (zk1 hb e)))).1,fun b hb=>?_,w7⟩
   obtain⟨o,e,d⟩:=T.obj _ _ st5 b hb
   exact (I7.pin (b,o) (zbi4 _ (zbi4 _ (zk1 hb e)))).2.1
  cases f with
  |next=>obtain⟨σ7,H7,I7,n7⟩:=q7;exact again I7 n7
  |cont=>obtain⟨σ7,H7,I7,n7⟩:=q7;exact again I7 n7
  |brk=>obtain⟨σ7,H7,I7,q7⟩:=q7;exact⟨σ7,H7,I7.unpinned,q7⟩
  |ret v=>obtain⟨x7,σ7,H7,I7,r7,q7⟩:=q7;exact⟨x7,σ7,H7,I7.unpinned,r7,q7⟩
end
end L2
namespace L2
open PySem.Spec
abbrev R2:=V→V→Hp→VK→Prop
noncomputable def OpR (X:Cx) (f:Value→Value→Sem Value) (r:R2):Prop :=
 ∀(pins:List (Addr×Obj)) (s:zbj7) (σ:St) (H:Hp) (x y:V) (v u:Value) (Q:VK),Inv X pins σ H s→RelV x v→RelV y u→r x y H Q →
  wpAny (model X.prog X.w) X.A (f v u) (EP X pins σ Q) X.xe s
noncomputable def UnR (X:Cx) (f:Value→Sem Value) (r:V→Hp→VK→Prop):Prop :=
 ∀(pins:List (Addr×Obj)) (s:zbj7) (σ:St) (H:Hp) (x:V) (v:Value) (Q:VK),Inv X pins σ H s→RelV x v→r x H Q →
  wpAny (model X.prog X.w) X.A (f v) (EP X pins σ Q) X.xe s
noncomputable def zn7 (X:Cx) (f:Value) (r:List V→Hp→VK→Prop):Prop :=
 ∀(pins:List (Addr×Obj)) (s:zbj7) (σ:St) (H:Hp) (xs:List V) (us:List Value) (Q:VK),Inv X pins σ H s→Vals xs us→r xs H Q →
  wpAny (model X.prog X.w) X.A (call f us) (EP X pins σ Q) X.xe s
noncomputable def TruR (X:Cx) (r:V→Hp→(Bool→Hp→Prop)→Prop):Prop :=
 ∀(pins:List (Addr×Obj)) (s:zbj7) (σ:St) (H:Hp) (x:V) (v:Value) (Q:Bool→Hp→Prop),Inv X pins σ H s→RelV x v→r x H Q →
  wpAny (model X.prog X.w) X.A (truthy v) (TP X pins σ Q) X.xe s
def tOp (r:R2) (ta tb:TE):TE:=fun σ H Q=>ta σ H fun x H1=>tb σ H1 fun y H2=>r x y H2 Q
def tUn (r:V→Hp→VK→Prop) (ta:TE):TE:=fun σ H Q=>ta σ H fun x H1=>r x H1 Q
def rI (C:Int→Int→Prop) (g:Int→Int→V):R2:=fun x y H Q => ∃i j,x=.int i∧y=.int j∧C i j∧Q (g i j) H
def rI0 (g:Int→Int→V):R2:=fun x y H Q => ∃i j,x=.int i∧y=.int j∧Q (g i j) H
def rU (g:Int→V):V→Hp→VK→Prop:=fun x H Q => ∃i,x=.int i∧Q (g i) H
section
variable {X:Cx}{a b c:Expr}{ta tb tc:TE}{pos:Pos}
theorem binT (ha:PE X a ta) (hb:PE X b tb) {pins:List (Addr×Obj)}{s:zbj7}{σ:St}{H:Hp}{R:V→V→Hp→Prop} (I:Inv X pins σ H s)
  (h:ta σ H fun x H1=>tb σ H1 fun y H2=>R x y H2) {Q:Value→zbj7→Prop}{f:Value→Value→Sem Value}
  (hf:∀v u s2 x y H2,Inv X pins σ H2 s2→RelV x v→RelV y u→R x y H2→wpAny (model X.prog X.w) X.A (f v u) Q X.xe s2) :
  wpAny (model X.prog X.w) X.A (eval a X.env) (fun v s₁=>wpAny (model X.prog X.w) X.A (eval b X.env) (fun u s₂=>wpAny (model X.prog X.w) X.A (f v u) Q X.xe s₂) X.xe s₁) X.xe s:=by
 refine thn (ha pins s σ H _ I h) fun v s1 ⟨x,H1,I1,r1,q1⟩=>?_
 refine thn (hb pins s1 σ H1 _ I1 q1) fun u s2 ⟨y,H2,I2,r2,q2⟩=>?_
 exact hf v u s2 x y H2 I2 r1 r2 q2
theorem pe_un {op:UnaryOp}{r:V→Hp→VK→Prop} (ho:UnR X (unaryOp op) r) (ha:PE X a ta):PE X (.UnaryOp op a pos) (tUn r ta):=by
 intro pins s σ H Q I h
 exact UnaryOp_ (thn (ha pins s σ H _ I h) fun v s1 ⟨x,H1,I1,r1,q1⟩=>ho pins s1 σ H1 x v Q I1 r1 q1)
theorem opI {f:Value→Value→Sem Value}{C:Int→Int→Prop}{g:Int→Int→Int}
  (rule:∀(i j:Int) (t u:Tok) (s:zbj7) (Q:Value→zbj7→Prop) (E:Value→zbj7→Prop),C i j→Q (.int (g i j) s.toks) { s with toks:=s.toks+1 }→wpAny (model X.prog X.w) X.A (f (.int i t) (.int j u)) Q E s) :
  OpR X f (rI C fun i j=>.int (g i j)):=by
 intro pins s σ H x y v u Q I rx ry h
 obtain⟨i,j,rfl,rfl,hc,q⟩:=h
 obtain⟨t,rfl⟩:=rx
 obtain⟨t',rfl⟩:=ry
 exact rule i j t t' s _ _ hc ⟨.int (g i j),H,I.tok _,⟨_,rfl⟩,q⟩
theorem opI0 {f:Value→Value→Sem Value}{g:Int→Int→Int}
  (rule:∀(i j:Int) (t u:Tok) (s:zbj7) (Q:Value→zbj7→Prop) (E:Value→zbj7→Prop),Q (.int (g i j) s.toks) { s with toks:=s.toks+1 }→wpAny (model X.prog X.w) X.A (f (.int i t) (.int j u)) Q E s) :
  OpR X f (rI0 fun i j=>.int (g i j)):=by
 intro pins s σ H x y v u Q I rx ry h
 obtain⟨i,j,rfl,rfl,q⟩:=h
 obtain⟨t,rfl⟩:=rx
 obtain⟨t',rfl⟩:=ry
 exact rule i j t t' s _ _ ⟨.int (g i j),H,I.tok _,⟨_,rfl⟩,q⟩
theorem opB0 {f:Value→Value→Sem Value}{g:Int→Int→Bool}
  (rule:∀(i j:Int) (t u:Tok) (s:zbj7) (Q:Value→zbj7→Prop) (E:Value→zbj7→Prop),Q (.bool (g i j)) s→wpAny (model X.prog X.w) X.A (f (.int i t) (.int j u)) Q E s) :
  OpR X f (rI0 fun i j=>.bl (g i j)):=by
 intro pins s σ H x y v u Q I rx ry h
 obtain⟨i,j,rfl,rfl,q⟩:=h
 obtain⟨t,rfl⟩:=rx
 obtain⟨t',rfl⟩:=ry
 exact rule i j t t' s _ _ ⟨.bl (g i j),H,I,rfl,q⟩
def CPow (i j:Int):Prop:=0≤j∧j≤1000000∧i.natAbs<2 ^ 64
theorem zat1 (k:Nat):(0:Int)≤2 ^ k:=by
 rw [two_pow_cast]
 exact Int.natCast_nonneg _
theorem op_add:OpR X (binaryOp .Add) (rI0 fun i j=>.int (i+j)):=opI0 fun _ _ _ _ _ _ _ q=>add_int q
theorem op_sub:OpR X (binaryOp .Sub) (rI0 fun i j=>.int (i - j)):=opI0 fun _ _ _ _ _ _ _ q=>sub_int q
theorem op_modN:OpR X (binaryOp .Mod) (rI (fun _ j=>j≠0) fun i j=>.int (i.fmod j)):=opI fun _ _ _ _ _ _ _ hc q=>mod_int' hc q
theorem op_pow:OpR X (binaryOp .Pow) (rI CPow fun i j=>.int (i ^ j.toNat)):=opI fun _ _ _ _ _ _ _ hc q=>pow_int_small hc.1 hc.2.1 hc.2.2 q
theorem op_shl:OpR X (binaryOp .LShift) (rI CPow fun i j=>.int (i*2 ^ j.toNat)):=opI fun _ _ _ _ _ _ _ hc q=>lshift_int_small hc.1 hc.2.1 hc.2.2 q
theorem op_shr:OpR X (binaryOp .RShift) (rI (fun _ j=>0≤j) fun i j=>.int (i / 2 ^ j.toNat)):=opI fun i j _ _ _ _ _ hc q =>
 rshift_int hc (by rw [zbq8 i (zat1 _)];exact q)
theorem op_and:OpR X (binaryOp .BitAnd) (rI0 fun i j=>.int (Builtin.bitAnd i j)):=opI0 fun _ _ _ _ _ _ _ q=>and_int q
theorem unI {f:Value→Sem Value}{g:Int→Int}
  (rule:∀(i:Int) (t:Tok) (s:zbj7) (Q:Value→zbj7→Prop) (E:Value→zbj7→Prop),Q (.int (g i) s.toks) { s with toks:=s.toks+1 }→wpAny (model X.prog X.w) X.A (f (.int i t)) Q E s) :
  UnR X f (rU fun i=>.int (g i)):=by
 intro pins s σ H x v Q I rx h
 obtain⟨i,rfl,q⟩:=h
 obtain⟨t,rfl⟩:=rx
 exact rule i t s _ _ ⟨.int (g i),H,I.tok _,⟨_,rfl⟩,q⟩
theorem un_neg:UnR X (unaryOp .USub) (rU fun i=>.int (-i)):=unI fun _ _ _ _ _ q=>neg_int q
end
noncomputable def scal:V→V→Bool
 |.non,.non=>true | .non,.int _=>true | .int _,.non=>true | .non,.bl _=>true | .bl _,.non=>true | .non,.str _=>true | .str _,.non=>true
 |.int _,.int _=>true | .bl _,.bl _=>true | .str _,.str _=>true | .byt _,.byt _=>true
 |.int _,.str _=>true | .str _,.int _=>true | .bl _,.str _=>true | .str _,.bl _=>true
 |_,_=>false
def rEq:R2:=fun x y H Q=>scal x y=true∧Q (.bl (decide (x=y))) H
def rNe:R2:=fun x y H Q=>scal x y=true∧Q (.bl (!decide (x=y))) H
theorem zbe4 {i j:Int}:decide (V.int i=V.int j)=(i == j):=by
 rw [zbp1]
 simp
theorem dec_bl {i j:Bool}:decide (V.bl i=V.bl j)=(i == j):=by
 rw [zbp1]
 simp
theorem zbe3 {i j:Str}:decide (V.str i=V.str j)=(i == j):=by
 rw [zbp1]
 simp
theorem zbe5 {i j:Array UInt8}:decide (V.byt i=V.byt j)=(i.toList == j.toList):=by
 rw [zbp1]
 cases i
 cases j
 simp
section
variable {X:Cx}{a b c:Expr}{ta tb tc:TE}{pos:Pos}
theorem zd7 {pins:List (Addr×Obj)}{σ:St}{H:Hp}{s:zbj7}{Q:VK}{k k':Bool} (I:Inv X pins σ H s) (q:Q (.bl k) H) (e:k=k'):EP X pins σ Q (.bool k') s:=by
 subst e
 exact⟨.bl k,H,I,rfl,q⟩
theorem op_eq:OpR X (compareOp .Eq) rEq:=by
 intro pins s σ H x y v u Q I rx ry h
 obtain⟨hs,q⟩:=h
 cases x with
 |non =>
  cases rx
  cases y with
  |non=>cases ry;exact PySem.EqNone.eq_none_none (zd7 I q (by simp))
  |bl j=>cases ry;exact PySem.EqNone.eq_none_bool (zd7 I q (by simp))
  |int j=>obtain⟨t',rfl⟩:=ry;exact PySem.EqNone.eq_none_int (zd7 I q (by simp))
  |str j=>obtain⟨t',rfl⟩:=ry;exact PySem.EqNone.eq_none_str (zd7 I q (by simp))
  |_=>exact absurd (show false=true from hs) zbk4
 |bl i =>
  cases rx
  cases y with
  |non=>cases ry;exact PySem.EqNone.eq_bool_none (zd7 I q (by simp))
  |bl j=>cases ry;exact eq_bool (zd7 I q dec_bl)
  |str j=>obtain⟨t',rfl⟩:=ry;exact PySem.EqMixed.eq_bool_str (zd7 I q (by simp))
  |_=>exact absurd (show false=true from hs) zbk4
 |int i =>
  obtain⟨t,rfl⟩:=rx
  cases y with
  |non=>cases ry;exact PySem.EqNone.eq_int_none (zd7 I q (by simp))
  |int j=>obtain⟨t',rfl⟩:=ry;exact eq_int (zd7 I q zbe4)
  |str j=>obtain⟨t',rfl⟩:=ry;exact PySem.EqMixed.eq_int_str (zd7 I q (by simp))
  |_=>exact absurd (show false=true from hs) zbk4
 |str i =>
  obtain⟨t,rfl⟩:=rx
  cases y with
  |non=>cases ry;exact PySem.EqNone.eq_str_none (zd7 I q (by simp))
  |bl j=>cases ry;exact PySem.EqMixed.eq_str_bool (zd7 I q (by simp))
  |int j=>obtain⟨t',rfl⟩:=ry;exact PySem.EqMixed.eq_str_int (zd7 I q (by simp))
  |str j=>obtain⟨t',rfl⟩:=ry;exact eq_str (zd7 I q zbe3)
  |_=>exact absurd (show false=true from hs) zbk4
 |byt i =>
  obtain⟨t,rfl⟩:=rx
  cases y with
  |byt j=>obtain⟨t',rfl⟩:=ry;exact PySem.W.eq_bytes (zd7 I q zbe5)
  |_=>exact absurd (show false=true from hs) zbk4
 |_=>cases y<;>exact absurd (show false=true from hs) zbk4
theorem op_ne:OpR X (compareOp .NotEq) rNe:=by
 intro pins s σ H x y v u Q I rx ry h
 obtain⟨hs,q⟩:=h
 cases x with
 |non =>
  cases rx
  cases y with
  |non=>cases ry;exact PySem.EqNone.ne_none_none (zd7 I q (by simp))
  |bl j=>cases ry;exact PySem.EqNone.ne_none_bool (zd7 I q (by simp))
  |int j=>obtain⟨t',rfl⟩:=ry;exact PySem.EqNone.ne_none_int (zd7 I q (by simp))
  |str j=>obtain⟨t',rfl⟩:=ry;exact PySem.EqNone.ne_none_str (zd7 I q (by simp))
  |_=>exact absurd (show false=true from hs) zbk4
 |bl i =>
  cases rx
  cases y with
  |non=>cases ry;exact PySem.EqNone.ne_bool_none (zd7 I q (by simp))
  |bl j=>cases ry;exact ne_bool (zd7 I q (congrArg not dec_bl))
  |str j=>obtain⟨t',rfl⟩:=ry;exact PySem.EqMixed.ne_bool_str (zd7 I q (by simp))
  |_=>exact absurd (show false=true from hs) zbk4
 |int i =>
  obtain⟨t,rfl⟩:=rx
  cases y with
  |non=>cases ry;exact PySem.EqNone.ne_int_none (zd7 I q (by simp))
  |int j=>obtain⟨t',rfl⟩:=ry;exact ne_int (zd7 I q (congrArg not zbe4))
  |str j=>obtain⟨t',rfl⟩:=ry;exact PySem.EqMixed.ne_int_str (zd7 I q (by simp))
  |_=>exact absurd (show false=true from hs) zbk4
 |str i =>
  obtain⟨t,rfl⟩:=rx
  cases y with
  |non=>cases ry;exact PySem.EqNone.ne_str_none (zd7 I q (by simp))
  |bl j=>cases ry;exact PySem.EqMixed.ne_str_bool (zd7 I q (by simp))
  |int j=>obtain⟨t',rfl⟩:=ry;exact PySem.EqMixed.ne_str_int (zd7 I q (by simp))
  |str j=>obtain⟨t',rfl⟩:=ry;exact ne_str (zd7 I q (congrArg not zbe3))
  |_=>exact absurd (show false=true from hs) zbk4
 |byt i =>
  obtain⟨t,rfl⟩:=rx
  cases y with
  |byt j=>obtain⟨t',rfl⟩:=ry;exact PySem.W.ne_bytes (zd7 I q (congrArg not zbe5))
  |_=>exact absurd (show false=true from hs) zbk4
 |_=>cases y<;>exact absurd (show false=true from hs) zbk4
theorem op_lt:OpR X (compareOp .Lt) (rI0 fun i j=>.bl (decide (i<j))):=opB0 fun _ _ _ _ _ _ _ q=>lt_int q
theorem op_le:OpR X (compareOp .LtE) (rI0 fun i j=>.bl (decide (i≤j))):=opB0 fun _ _ _ _ _ _ _ q=>le_int q
theorem op_gt:OpR X (compareOp .Gt) (rI0 fun i j=>.bl (decide (j<i))):=opB0 fun _ _ _ _ _ _ _ q=>gt_int q
theorem op_ge:OpR X (compareOp .GtE) (rI0 fun i j=>.bl (decide (j≤i))):=opB0 fun _ _ _ _ _ _ _ q=>ge_int q
theorem op_isN:OpR X (compareOp .Is) (fun x y H Q=>y=.non∧Q (.bl (decide (x=.non))) H):=by
 intro pins s σ H x y v u Q I rx ry h
 obtain⟨rfl,q⟩:=h
 cases ry
 refine is_none_gen (zd7 I q ?_)
 cases x<;>first
  |(cases rx;rfl)
  |(obtain⟨t,rfl⟩:=rx;rfl)
theorem nomark (b:Expr) {op:CmpOp} (h:op≠.In:=by decide) (h2:op≠.NotIn:=by decide):behindInMarks op b=false:=by
 have e1:(op == CmpOp.In)=false:=by cases op<;>first | rfl | exact absurd rfl h
 have e2:(op == CmpOp.NotIn)=false:=by cases op<;>first | rfl | exact absurd rfl h2
 cases b<;>simp [behindInMarks,e1,e2]
noncomputable def TruV (K:zbi5) (x:V) (H:Hp) (k:Bool):Prop :=
 match x with
 |.non=>k=false
 |.bl b=>k=b
 |.int i=>k=(i != 0)
 |.str y=>y.length≤sizeLine∧k=((y.length:Int) != 0)
 |.byt y=>y.size≤sizeLine∧k=((y.size:Int) != 0)
 |.ref p=>(∃xs,SqL K H p xs∧k=!xs.isEmpty)∨(∃xs,SqT K H p xs∧k=!xs.isEmpty)∨∃kvs,H p=some (.dK kvs)∧k=!kvs.isEmpty
 |_=>False
theorem zav4 {κ:Type}{kvs:List (κ×V)}{vs:List (κ×Value)} (r:KV kvs vs):(!vs.isEmpty)=!kvs.isEmpty:=by
 cases r<;>rfl
theorem zab6 {xs:List V}{its:List Value} (r:Vals xs its):(!its.toArray.isEmpty)=!xs.isEmpty:=by
 cases r<;>simp
theorem zab4:(sizeLine:Nat)<2 ^ 63:=by rw [sizeLine_eq];decide
theorem tru_ok:TruR X (fun x H Q => ∃k,TruV X.K x H k∧Q k H):=by
 intro pins s σ H x v Q I rx h
 obtain⟨k,e,q⟩:=h
 have hl:=zab4
 have hs:sizeLine=16777216:=sizeLine_eq
 cases x with
 |non =>
  cases rx
  have e':k=false:=e
  subst e'
  exact truthy_none ⟨H,I,q⟩
 |bl b =>
  cases rx
  have e':k=b:=e
  subst e'
  exact wpAny_truthy_bool ⟨H,I,q⟩
 |int i =>
  obtain⟨t,rfl⟩:=rx
  have e':k=(i != 0):=e
  subst e'
  exact PySem.P.truthy_int ⟨H,I,q⟩
 |str y =>
  obtain⟨t,rfl⟩:=rx
  obtain⟨hy,e'⟩:y.length≤sizeLine∧k=((y.length:Int) != 0):=e
  subst e'
  exact PySem.P.truthy_str (by lia) ⟨H,I.tok _,q⟩
 |byt y =>
  obtain⟨t,rfl⟩:=rx
  obtain⟨hy,e'⟩:y.size≤sizeLine∧k=((y.size:Int) != 0):=e
  subst e'
  exact PySem.W.truthy_bytes (by lia) ⟨H,I.tok _,q⟩
 |ref p =>
  cases rx
  have e':(∃xs,SqL X.K H p xs∧k=!xs.isEmpty)∨(∃xs,SqT X.K H p xs∧k=!xs.isEmpty)∨∃kvs,H p=some (.dK kvs)∧k=!kvs.isEmpty:=e
  rcases e' with ⟨xs,hx,e'⟩ | ⟨xs,hx,e'⟩ | ⟨kvs,hx,e'⟩
  ·subst e'
   obtain⟨its,r,pl,hz⟩:=I.list hx
   have hlen:=r.length
   exact wpAny_truthy_list pl.isList (by simp only [zbk0];lia) ⟨H,I.tok _,by rw [zab6 r];exact q⟩
  ·subst e'
   obtain⟨its,r,pl,hz⟩:=I.tuple hx
   have hlen:=r.length
   exact truthy_tuple pl (by simp only [zbk0];lia) ⟨H,I.tok _,by rw [zab6 r];exact q⟩
  ·subst e'
   obtain⟨hz,hS,vs,r,m⟩:kvs.length≤sizeLine∧(p == sysModules)=false∧∃vs,KV kvs vs∧s.heap.DictOf (zg6 X.prog X.w) p vs:=I.hok p _ hx
   have hlen:kvs.length=vs.length:=Paired.length r
   exact wpAny_truthy_dict hS m (by lia) ⟨H,I.tok _,by rw [zav4 r];exact q⟩
 |_=>exact (show False from e).elim
theorem pt_truth (ha:PE X a ta) (he:∀whole,isTrue a X.env whole=(do let v ← whole;standAt a.pos;holding [v] (truthy v))) :
  PT X a (fun σ H Q=>ta σ H fun x H' => ∃k,TruV X.K x H' k∧Q k H'):=by
 intro pins s σ H Q I h
 exact isTrue_plain (thn (ha pins s σ H _ I h) fun v s1 ⟨x,H1,I1,r1,q1⟩=>tru_ok pins s1 σ H1 x v Q I1 r1 q1) (he _)
theorem zz7 {x:V}{us:List Value} (r:Vals [x] us):∃u,us=[u]∧RelV x u:=by
 cases r with
 |cons r1 r2=>cases r2;exact⟨_,rfl,r1⟩
theorem vals2 {x y:V}{us:List Value} (r:Vals [x,y] us):∃u w',us=[u,w']∧RelV x u∧RelV y w':=by
 cases r with
 |cons r1 r2 =>
  cases r2 with
  |cons r3 r4=>cases r4;exact⟨_,_,rfl,r1,r3⟩
theorem zbg9 (hc:X.calm=true):zn7 X (.builtin "max") (fun xs H Q => ∃i j,xs=[.int i,.int j]∧Q (.int (if j > i then j else i)) H):=by
 intro pins s σ H xs us Q I r h
 obtain⟨i,j,rfl,q⟩:=h
 obtain⟨u,w',rfl,⟨t,rfl⟩,⟨t',rfl⟩⟩:=vals2 r
 refine max_two_ints (I.ok.hd hc) fun h' tk k=>⟨_,H,I.kept k,?_,q⟩
 by_cases hj:j > i
 ·rw [if_pos hj,if_pos hj];exact⟨_,rfl⟩
 ·rw [if_neg hj,if_neg hj];exact⟨_,rfl⟩
theorem zbg7 (hc:X.calm=true):zn7 X (.builtin "min") (fun xs H Q => ∃i j,xs=[.int i,.int j]∧Q (.int (if j<i then j else i)) H):=by
 intro pins s σ H xs us Q I r h
 obtain⟨i,j,rfl,q⟩:=h
 obtain⟨u,w',rfl,⟨t,rfl⟩,⟨t',rfl⟩⟩:=vals2 r
 refine min_two_ints (I.ok.hd hc) fun h' tk k=>⟨_,H,I.kept k,?_,q⟩
 by_cases hj:j<i
 ·rw [if_pos hj,if_pos hj];exact⟨_,rfl⟩
 ·rw [if_neg hj,if_neg hj];exact⟨_,rfl⟩
end
end L2
namespace L2
open PySem.Spec
structure ObjM (h:Heap) (x dx C:Addr) (mA:Str→Option Value):Prop where
 obj:h.get? x=some (zbx0 C dx)
 ns:h.Ns1 dx mA
 ne:dx≠x
theorem zbc0 {h:Heap}{dx:Addr}{mA:Str→Option Value} (n:h.Ns1 dx mA):∃od,h.get? dx=some od∧∀name,zbx7 name od=some (mA name):=by
 obtain⟨o,es,ep,ho,hd,hk,_,hm⟩:=n
 refine⟨o,ho,fun name=>?_⟩
 have e:=hm name
 unfold nsFind findBy at e
 rw [← Array.find?_toList]at e
 unfold zbx7
 rw [hd]
 dsimp only
 split
 ·rename_i y q
  rw [q]at e
  exact congrArg some e
 ·rename_i q
  rw [q]at e
  have a:es.toList.any (·.refKey)=false:=by
   rw [zbv7]
   intro y hy
   obtain⟨z,t,hkey⟩:=hk y (Array.mem_toList_iff.mp hy)
   simp [DictEntry.refKey,hkey]
  have a' : ¬ es.toList.any (·.refKey)=true:=by rw [a];exact zbk4
  rw [if_neg a']
  exact congrArg some e
theorem ObjM.look {h:Heap}{x dx C:Addr}{mA:Str→Option Value} (I:ObjM h x dx C mA):∃od,PySem.W.InstAt h x (zbx0 C dx) C (some od)∧∀name,zbx7 name od=some (mA name) :=
 let ⟨od,ho,hl⟩:=zbc0 I.ns
 ⟨od,⟨I.obj,rfl,rfl,ho⟩,hl⟩
section
variable {prog:Program}{w:World}{A:Around}{E:Value→zbj7→Prop}{s:zbj7}{K:zbi5}{x dx C f:Addr}{mA:Str→Option Value}{name:Str}{v:Value}
theorem get_map {expr:Bool}{Q:Value→zbj7→Prop} (X:K.In s.heap) (I:ObjM s.heap x dx C mA) (hg:zbz5 K C name=true) (hh:zby8 K C=true)
  (ha:zbr8 K (.ref C) name=some none) (hv:mA name=some v) (hv':PySem.W.handedIn v=true) (h:Q v { s with toks:=s.toks+1 }) :
  wpAny (model prog w) A (getAttr (.ref x) name expr) Q E s:=by
 obtain⟨od,J,hl⟩:=I.look
 exact PySem.W.get_value X J (PySem.W.plainGet_of hg).1 (PySem.W.findObj_own hh ha rfl (by rw [hl,hv])) hv' h
end
structure Cls (K:zbi5) (C:Addr):Prop where
 pg:zbz5 K C Str.empty=true
 hd:zby8 K C=true
 po:PySem.W.plainOver K C=true
 sa:zbr8 K (.ref C) "__setattr__"=some (some (.builtin "object.__setattr__"))
structure Con (K:zbi5) (C:Addr) (f:Str) (v:V) (u:Value):Prop where
 at_:zbr8 K (.ref C) f=some (some u)
 rel:RelV v u
 get:zby9 K u "__get__"=some none
 cp:PySem.W.copiedNames.contains f=false
structure Meth (K:zbi5) (C:Addr) (m:Str) (f:Addr):Prop where
 at_:zbr8 K (.ref C) m=some (some (.ref f))
 fn:PySem.W.isFn K (.ref f)=true
 kp:zbo3 K (.ref f)=true
section
variable {X:Cx}{pins:List (Addr×Obj)}{σ:St}{H:Hp}{s:zbj7}{A:Around}{E:Value→zbj7→Prop}{Q:Value→zbj7→Prop}{c:Value}{b:Bool}
inductive TyOf (K:zbi5) (H:Hp):V→Value→Prop where
 |non:TyOf K H .non (.type "NoneType")
 |bl (x:Bool):TyOf K H (.bl x) (.type "bool")
 |int (i:Int):TyOf K H (.int i) (.type "int")
 |str (x:Str):TyOf K H (.str x) (.type "str")
 |flt (x:UInt64):TyOf K H (.flt x) (.type "float")
 |lst {a:Addr}{xs:List V} (e:H a=some (.lst xs)):TyOf K H (.ref a) (.type "list")
 |frz {a:Addr}{o:Obj}{xs:List V} (e:H a=some (.frz o (.lst xs))):TyOf K H (.ref a) (.type "list")
 |tup {a:Addr}{xs:List V} (e:H a=some (.tup xs)):TyOf K H (.ref a) (.type "tuple")
 |dK {a:Addr}{kvs:List (Key×V)} (e:H a=some (.dK kvs)):TyOf K H (.ref a) (.type "dict")
 |dT {a:Addr}{kvs:List (List Key×V)} (e:H a=some (.dT kvs)):TyOf K H (.ref a) (.type "dict")
 |ins {a C dx:Addr}{fs:List (Str×V)} (e:H a=some (.ins C dx fs)) (cl:Cls K C) (ha:zbr8 K (.ref C) "__class__"=some (some (.builtin "object.__class__")))
   (hn:zby9 K (.builtin "object.__class__") "__get__"=some (some (.builtin "getset_descriptor.__get__"))) (htk:PySem.W.takesIn K (.builtin "object.__class__")=some true)
   (hm:PySem.W.mroIn K C (.type "object")=some true):TyOf K H (.ref a) (.ref C)
end
end L2
namespace L2
open PySem.Spec
structure Room (k:Nat) (A:Around):Prop where
 hd:A.handled=none
 dp:A.depth+3*k+5<recursionLimit
 un:A.units+16*k+200<cLine
theorem Room.mono {j k:Nat}{A:Around} (r:Room k A) (h:j≤k):Room j A:=⟨r.hd,by have:=r.dp;lia,by have:=r.un;lia⟩
theorem Room.deeper {k:Nat}{A:Around} (r:Room (k+1) A) (env:Env):Room k (A.deeper env) :=
 ⟨r.hd,by have:=r.dp;show A.depth+1+3*k+5<_;lia,by have:=r.un;show A.units+3+16*k+200<_;lia⟩
theorem Room.depth {k:Nat}{A:Around} (r:Room k A):A.depth<recursionLimit:=by have:=r.dp;lia
theorem Room.units {k:Nat}{A:Around} (r:Room k A):A.units+64<cLine:=by have:=r.un;lia
def tNil:TA:=fun _ H Q=>Q [] H
def tCons (ta:TE) (tr:TA):TA:=fun σ H Q=>ta σ H fun x H1=>tr σ H1 fun xs H2=>Q (x::xs) H2
section
variable {X:Cx}{e:Expr}{es:List Expr}{te:TE}{t:TA}{pos:Pos}
theorem zn9:PA X [] tNil:=fun _ _ _ _ H Q I h=>Calls.spliced_nil ⟨[],H,I,.nil,h⟩
theorem zf9 (ha:PE X e te) (hr:PA X es t) (hs:zbk2 (e::es) X.env=(false,eval e X.env)::zbk2 es X.env:=by rfl):PA X (e::es) (tCons te t):=by
 intro pos pins s σ H Q I h
 rw [hs]
 show wpAny _ _ (spliced ((false,eval e X.env)::zbq3 pos (zbk2 es X.env))) _ _ s
 refine Calls.spliced_cons (thn (ha pins s σ H _ I h) fun u s1 ⟨x,H1,I1,r1,q1⟩=>?_)
 exact thn (hr pos pins s1 σ H1 _ I1 q1) fun us s2 ⟨xs,H2,I2,r2,q2⟩=>⟨x::xs,H2,I2,.cons r1 r2,q2⟩
def tTup (t:TA):TE:=fun σ H Q=>t σ H fun xs H1=>xs.length≤sizeLine∧∀p,H1 p=none→Q (.ref p) (upd H1 p (.tup xs))
def tLst (t:TA):TE:=fun σ H Q=>t σ H fun xs H1=>xs.length≤sizeLine∧∀p,H1 p=none→Q (.ref p) (upd H1 p (.lst xs))
theorem pe_tup {x1} (h:PA X es t):PE X (.Tuple es x1 pos) (tTup t):=by
 intro pins s σ H Q I hq
 refine wpAny_Tuple_spliced (thn (h pos pins s σ H _ I hq) fun us s1 ⟨xs,H1,I1,r,z,q⟩=>⟨by rw [← r.length];exact z,?_⟩)
 have hf:H1 s1.heap.objs.size=none:=I1.hok.fresh (zbk1 _)
 refine⟨.ref s1.heap.objs.size,upd H1 s1.heap.objs.size (.tup xs),I1.laid (t':=s1.toks) (fun b u e=>zbj0 _ e) (zbk1 _) ?_,rfl,q _ hf⟩
 exact⟨z,us,r,⟨_,zbj9 _ rfl,rfl,_,rfl⟩⟩
theorem pe_lst (h:PA X es t):PE X (.List es pos) (tLst t):=by
 intro pins s σ H Q I hq
 refine wpAny_List_spliced (thn (h pos pins s σ H _ I hq) fun us s1 ⟨xs,H1,I1,r,z,q⟩=>⟨by rw [← r.length];exact z,?_⟩)
 have hf:H1 s1.heap.objs.size=none:=I1.hok.fresh (zbk1 _)
 refine⟨.ref s1.heap.objs.size,upd H1 s1.heap.objs.size (.lst xs),I1.laid (t':=s1.toks) (fun b u e=>zbj0 _ e) (zbk1 _) ?_,rfl,q _ hf⟩
 exact⟨z,us,0,r,zbj9 _ rfl⟩
end
abbrev Sp:=List V→Hp→VK→XK→Prop
abbrev CXT:=List Env→Hp→zbj7→XK→Value→zbj7→Prop
structure Env0 (P:Program) (w:World) (K:zbi5) (mg:Str→Option Value) (base:BHeap) (A:Around) (outer:List Env) (s:zbj7) (H:Hp):Prop where
 frames:A.frames=some outer
 mod:Mod K mg base
 bs:∀b o,base.get? b=some o→s.heap.get? b=some o∧H b=none
 bsz:base.objs.size≤s.heap.objs.size
 funs:s.heap.FunFrames base outer
 frf:∀b∈frs outer,H b=none
 hok:HOk P w H s.heap
 bare:AllBare s.gens
 tabs:∀p∈base.tabs,H p.1=some (.tbl p.2)
noncomputable def CE (outer:List Env) (P:Program) (w:World) (H:Hp) (s:zbj7) (Q:VK) (u:Value) (s':zbj7):Prop :=
 ∃v H',s'.os=s.os∧AllBare s'.gens∧Un (frs outer) [] H H' s.heap s'.heap∧HOk P w H' s'.heap∧RelV v u∧Q v H'
noncomputable def CR (CX:CXT) (outer:List Env) (P:Program) (w:World) (H:Hp) (s:zbj7) (Q:VK) (E:XK) (r:Result) (s':zbj7):Prop :=
 match r with
 |.ok (.ret u)=>CE outer P w H s Q u s'
 |.ok _=>False
 |.error e=>CX outer H s E e s'
structure FnOk (P:Program) (w:World) (K:zbi5) (mg:Str→Option Value) (base:BHeap) (CX:CXT) (k:Nat) (f:Addr) (fd:FuncData) (ps:List Str) (sp:Sp):Prop where
 len:∀vs H Q E,sp vs H Q E→vs.length=ps.length
 run:∀(A:Around) (outer:List Env) (s:zbj7) (H:Hp) (args:Args) (us:List Value) (vs:List V) (Q:VK) (E:XK),Room k A→Env0 P w K mg base A outer s H→BindsTo s fd args (ps.zip us)→Vals vs us→sp vs H Q E →
  codeAny (model P w) A (.call (.ref f) args) (CR CX outer P w H s Q E) s
theorem FnOk.imp {P:Program}{w:World}{K:zbi5}{mg:Str→Option Value}{base:BHeap}{CX:CXT}{k:Nat}{f:Addr}{fd:FuncData}{ps:List Str}{sp sp':Sp} (F:FnOk P w K mg base CX k f fd ps sp)
  (h:∀vs H Q E,sp' vs H Q E→sp vs H Q E):FnOk P w K mg base CX k f fd ps sp' :=
 ⟨fun vs H Q E q=>F.len vs H Q E (h _ _ _ _ q),fun A outer s H args us vs Q E hr he hb hv hs=>F.run A outer s H args us vs Q E hr he hb hv (h _ _ _ _ hs)⟩
section
variable {X:Cx}{pins:List (Addr×Obj)}{σ:St}{H:Hp}{s s':zbj7}
theorem Inv.env0 (I:Inv X pins σ H s):Env0 X.prog X.w X.K X.mg X.base X.A X.stack s H :=
 ⟨I.ok.frames,I.ok.mod,I.bs,zbn6 I.ok.bsz I.sz,I.stack,I.stkFree,I.hok,I.bare,fun p hp=>I.base.tbls _ _ (I.ok.tabs p hp)⟩
theorem Inv.after {Q:VK}{u:Value} (I:Inv X pins σ H s) (h:CE X.stack X.prog X.w H s Q u s'):EP X pins σ Q u s':=by
 obtain⟨v,H',os,bare,un,hok,r,q⟩:=h
 obtain⟨hh,g,d,t,os'⟩:=s'
 obtain rfl:os'=s.os:=os
 exact⟨v,H',I.call (h':=hh) (g':=g) (d':=d) (t':=t) (ch:=[]) un hok bare (fun b z=>absurd z (by simp)),r,q⟩
end
def tCall (sp:Sp) (dvs:List V) (E:XK) (t:TA):TE:=fun σ H Q=>t σ H fun vs H1=>sp (vs++dvs) H1 Q E
noncomputable def Binds (K:zbi5) (fd:FuncData) (ps:List Str) (ds:List Value):Prop :=
 ∀(s:zbj7) (us:List Value),K.In s.heap→(us++ds).length=ps.length→BindsTo s fd ⟨us,[]⟩ (ps.zip (us++ds))
theorem Binds.all {K:zbi5}{fd:FuncData}{ps:List Str} (h:∀us:List Value,us.length=ps.length→bindArgs fd ⟨us,[]⟩=pure (ps.zip us)):Binds K fd ps []:=fun s us _ hl=>by
 rw [zbq9]at hl ⊢
 exact .of_eq (h us hl)
noncomputable def zbi3 (CX:CXT) (X:Cx) (E:XK):Prop := ∀(pins:List (Addr×Obj)) (σ:St) (H:Hp) (s:zbj7) (e:Value) (s':zbj7),Inv X pins σ H s→CX X.stack H s E e s'→X.xe e s'
section
variable {X:Cx}{CX:CXT}{k:Nat}{f C:Addr}{fd:FuncData}{ps:List Str}{sp:Sp}{dvs:List V}{ds:List Value}{E:XK}{x m:Str}{p pos apos:Pos}{e o:Expr}{es:List Expr}{ta:TE}{t:TA}
theorem run_fn {pins:List (Addr×Obj)}{σ:St}{H:Hp}{s:zbj7}{Q:VK}{us:List Value}{vs:List V} (F:FnOk X.prog X.w X.K X.mg X.base CX k f fd ps sp) (hr:Room k X.A) (hb:Binds X.K fd ps ds) (hd:Vals dvs ds) (hx:zbi3 CX X E)
  (I:Inv X pins σ H s) (r:Vals vs us) (h:sp (vs++dvs) H Q E):wpAny (model X.prog X.w) X.A (call (.ref f) us) (EP X pins σ Q) X.xe s:=by
 have r2:Vals (vs++dvs) (us++ds):=r.append hd
 have hl:(us++ds).length=ps.length:=by rw [← r2.length];exact F.len _ _ _ _ h
 refine wpAny_call (codeAny_mono (F.run X.A X.stack s H ⟨us,[]⟩ (us++ds) (vs++dvs) Q E hr I.env0 (hb s us I.kIn hl) r2 h) fun r s' hq=>?_)
 cases r with
 |error e=>exact hx pins σ H s e s' I hq
 |ok fl =>
  cases fl with
  |ret u=>exact I.after hq
  |next=>exact False.elim hq
  |brk=>exact False.elim hq
  |cont=>exact False.elim hq
theorem zba6 (F:FnOk X.prog X.w X.K X.mg X.base CX k f fd ps sp) (hr:Room k X.A) (hg:Gl X x) (hm:X.mg x=some (.ref f)) (hk:zbo3 X.K (.ref f)=true) (hb:Binds X.K fd ps ds) (hd:Vals dvs ds) (hx:zbi3 CX X E)
  (ha:PA X (e::es) t) (hdb:(x ==("__debug__":Str))=false:=by decide) (he:zbk2 (e::es) X.env=(false,eval e X.env)::zbk2 es X.env:=by rfl) (hpl:(zbq3 pos (zbk2 es X.env)).any (·.1)=false:=by rfl) :
  PE X (.Call (.Name x p) (e::es) [] pos) (tCall sp dvs E t):=by
 intro pins s σ H Q I h
 refine wpAny_Call_Name_kw (ld_glob I hg hm ?_ hdb)
 refine PySem.W.callWith_K (h₀:=X.base) I.ok.mod.kin hk (thn (ha pos pins s σ H _ I h) fun us s1 ⟨vs,H1,I1,r,q⟩=>⟨I1.kIn,?_⟩) he hpl
 exact run_fn F hr hb hd hx I1 r q
structure Mk (K:zbi5) (C f:Addr):Prop where
 makes:PySem.W.makesIn K C=true
 init:zbr8 K (.ref C) "__init__"=some (some (.ref f))
 fn:PySem.W.isFn K (.ref f)=true
 kp:zbo3 K (.ref C)=true
end
section
variable {X:Cx}{CX:CXT}{k:Nat}{f C:Addr}{fd:FuncData}{ps ks:List Str}{sp:Sp}{E:XK}{x m:Str}{p pos apos kpos:Pos}{e o:Expr}{es:List Expr}{kws:List Keyword}{te ta:TE}{t tk:TA}{nm:Option Str}
structure KBinds (K:zbi5) (fd:FuncData) (ps ks:List Str) (g:List Value→List Value→List Value) (gV:List V→List V→List V):Prop where
 to:∀(s:zbj7) (us ws:List Value),K.In s.heap→(g us ws).length=ps.length→BindsTo s fd ⟨us,ks.zip ws⟩ (ps.zip (g us ws))
 rel:∀ {vs:List V}{us:List Value}{zs:List V}{ws:List Value},Vals vs us→Vals zs ws→Vals (gV vs zs) (g us ws)
variable {g:List Value→List Value→List Value}{gV:List V→List V→List V}
end
structure FnScope (N P:List Str) (sc:Scope):Prop where
 kind:sc.kind=.function
 co:sc.isCoroutine=false
 gen:sc.isGenerator=false
 nd:N.Nodup
 pre:N.take P.length=P
 par:∀x∈P,sc.names.lookup x=some .local∨sc.names.lookup x=some .cell
 nofree:∀y∈sc.names,y.2≠.free
theorem zaj8 {kindOf:Str→Option NameKind}{x:Str}:∀ {binds:List (Str×Value)}{m:Str→Option Value},(∀v,(x,v)∉binds)→bindL kindOf binds m x=m x
 |[],_,_=>rfl
 |(n,v)::r,m,h=>by
  unfold bindL
  rw [zaj8 fun w hw=>h w (zbi6 _ hw)]
  split
  ·have:x≠n:=by rintro rfl;exact h v zbi9
   simp [this]
  ·rfl
theorem zak0 {kindOf:Str→Option NameKind}{x:Str}:∀ {binds:List (Str×Value)}{m:Str→Option Value},(∀v,(x,v)∉binds)→bindC kindOf binds m x=m x
 |[],_,_=>rfl
 |(n,v)::r,m,h=>by
  unfold bindC
  rw [zak0 fun w hw=>h w (zbi6 _ hw)]
  split
  ·rfl
  ·have:x≠n:=by rintro rfl;exact h v zbi9
   simp [this]
theorem zaj9 {kindOf:Str→Option NameKind}{x:Str}{v:Value}:∀ {P:List Str}{vs:List Value}{i:Nat}{m:Str→Option Value},P.Nodup→P[i]?=some x→vs[i]?=some v→kindOf x=some .local →
  bindL kindOf (P.zip vs) m x=some v
 |[],_,_,_,_,h,_,_=>by simp at h
 |_::_,[],_,_,_,_,h,_=>by simp at h
 |p::P,w::vs,0,m,nd,h1,h2,hk=>by
  simp at h1 h2;subst h1;subst h2
  show bindL kindOf ((p,w)::P.zip vs) m p=_
  unfold bindL
  rw [zaj8 fun v hv=>(zbl0.mp nd).1 (zbx1 hv).1,if_pos hk]
  simp
 |p::P,w::vs,i+1,m,nd,h1,h2,hk=>by
  show bindL kindOf ((p,w)::P.zip vs) m x=_
  unfold bindL
  exact zaj9 (i:=i) (zbl0.mp nd).2 (by simpa using h1) (by simpa using h2) hk
theorem zak1 {kindOf:Str→Option NameKind}{x:Str}{v:Value}:∀ {P:List Str}{vs:List Value}{i:Nat}{m:Str→Option Value},P.Nodup→P[i]?=some x→vs[i]?=some v→kindOf x≠some .local →
  bindC kindOf (P.zip vs) m x=some v
 |[],_,_,_,_,h,_,_=>by simp at h
 |_::_,[],_,_,_,_,h,_=>by simp at h
 |p::P,w::vs,0,m,nd,h1,h2,hk=>by
  simp at h1 h2;subst h1;subst h2
  show bindC kindOf ((p,w)::P.zip vs) m p=_
  unfold bindC
  rw [zak0 fun v hv=>(zbl0.mp nd).1 (zbx1 hv).1,if_neg hk]
  simp
 |p::P,w::vs,i+1,m,nd,h1,h2,hk=>by
  show bindC kindOf ((p,w)::P.zip vs) m x=_
  unfold bindC
  exact zak1 (i:=i) (zbl0.mp nd).2 (by simpa using h1) (by simpa using h2) hk
def start (N:List Str) (vs:List V):St:=vs.map some++zbk7 (N.length - vs.length) none
noncomputable def cxOf (CX:CXT) (P:Program) (w:World) (K:zbi5) (mg:Str→Option Value) (base:BHeap) (N:List Str) (qual:Str) (scope:Scope) (f:Addr) (cd:Value) (A:Around) (outer:List Env) (s:zbj7) (H:Hp) (E:XK):Cx where
 prog:=P
 w:=w
 K:=K
 mg:=mg
 base:=base
 A:=A.deeper (envOfC qual scope s.heap.objs.size f cd)
 N:=N
 s₀:=s
 H₀:=H
 env:=envOfC qual scope s.heap.objs.size f cd
 outer:=outer
 stack:=envOfC qual scope s.heap.objs.size f cd::outer
 ex:=[]
 calm:=true
 fn:=fun _=>true
 pn:=[]
 xe:=fun e s'=>wpAny (model P w) (A.deeper (envOfC qual scope s.heap.objs.size f cd)) (leaving (envOfC qual scope s.heap.objs.size f cd) e) (fun _ s''=>CX outer H s E e s'') (fun e' s''=>CX outer H s E e' s'') s'
theorem zas2 {sc:Scope}{n:Nat}{x:Str} (h:sc.names.lookup x=some .cell):∃c,(cellsFrom n sc.names []).lookup x=some c:=by
 have q:=zbw3 sc.names n [] (.inl h)
 exact Option.isSome_iff_exists.mp q
theorem zbd0 {CX:CXT}{P:Program}{w:World}{K:zbi5}{mg:Str→Option Value}{base:BHeap}{N ps:List Str}{qual:Str}{scope:Scope}{f:Addr}{cd:Value}{A:Around}{outer:List Env}{s s1:zbj7}{H:Hp}{E:XK}{us:List Value}{vs:List V}
  (S:FnScope N ps scope) (hd:A.handled=none) (e0:Env0 P w K mg base A outer s H) (hl:vs.length=ps.length) (r:Vals vs us)
  (x:InCallC s s.heap.objs.size (bindL (envOfC qual scope s.heap.objs.size f cd).kindOf (ps.zip us) fun _=>none) (cellsFrom (s.heap.objs.size+1) scope.names []) (bindC (envOfC qual scope s.heap.objs.size f cd).kindOf (ps.zip us) fun _=>none) s1) :
  Inv (cxOf CX P w K mg base N qual scope f cd A outer s H E) [] (start N vs) H s1:=by
 have hpl:ps.length≤N.length:=by have:=congrArg List.length S.pre;rw [zbr9]at this;lia
 obtain⟨h1,tk,rfl,hk⟩:=x.done
 have noA:∀b:Addr,b∉(cxOf CX P w K mg base N qual scope f cd A outer s H E).ex:=fun b z=>absurd (show b∈([]:List Addr) from z) (by simp)
 refine⟨⟨e0.mod,S.kind,rfl,rfl,zbk1 _,fun y z c h1 h2=>?_,fun y hy=>?_,fun y c _ h=>?_,fun _=>hd,Around.frames_deeper e0.frames,.inr ⟨rfl,rfl⟩,fun b z=>absurd z (noA b),e0.bs,e0.bsz,fun b _ _=>noA b,fun b z=>absurd z (noA b),e0.funs,e0.frf,e0.tabs⟩,
  rfl,e0.bare,Un.kept hk,⟨_,x.toInCall.ns,fun i y v h1 h2 h3=>?_⟩,fun y c h=>⟨_,x.cell y c h⟩,e0.hok.fresh (zbk1 _),fun y c h=>?_,fun p hp=>absurd (show p∈([]:List (Addr×Obj)) from hp) (by simp),e0.hok.kept hk,?_⟩
 ·exact name_of_addr x.apart (PySem.mem_of_lookup h1) (PySem.mem_of_lookup h2)
 ·have hy:scope.names.lookup y=some .cell∨scope.names.lookup y=some .free:=hy
  rcases hy with hy | hy
  ·exact zas2 hy
  ·exact absurd rfl (S.nofree _ (PySem.mem_of_lookup hy))
 ·exact zbs4 (x.above y c (PySem.mem_of_lookup h))
 ·have hi:i<vs.length:=by
   unfold start at h2
   by_cases hi:i<vs.length
   ·exact hi
   ·rw [zbn3 (by simpa using hi)]at h2
    rw [zbs2]at h2
    split at h2<;>cases h2
  have ha:vs[i]?=some v:=by
   unfold start at h2
   rw [zbo4 (by simpa using hi),zbn4]at h2
   cases e:vs[i]? with
   |none=>rw [e]at h2;cases h2
   |some a=>rw [e]at h2;cases h2;rfl
  obtain⟨u,hu,rv⟩:=r.get ha
  have hp:ps[i]?=some y:=by
   rw [← S.pre,List.getElem?_take_of_lt (by lia)];exact h1
  have ndP:ps.Nodup:=by rw [← S.pre];exact S.nd.sublist (zbz0 _ _)
  refine⟨u,rv,?_⟩
  rcases S.par y (zbx2 hp) with k | k
  ·exact .inl ⟨k,zaj9 ndP hp hu k⟩
  ·obtain⟨c,e⟩:=zas2 (n:=s.heap.objs.size+1) k
   refine .inr ⟨.inl k,c,e,?_⟩
   have q:=x.cell y c e
   rw [zak1 ndP hp hu (by show scope.names.lookup y≠_;rw [k];decide)]at q
   exact q
 ·exact e0.hok.fresh (zbs4 (x.above y c (PySem.mem_of_lookup h)))
 ·unfold start
  show _=N.length
  rw [zbm4,zbk3,zbs9]
  lia
theorem fn_of {CX:CXT}{P:Program}{w:World}{K:zbi5}{mg:Str→Option Value}{base:BHeap}{k:Nat}{f:Addr}{name qual:Str}{params:Arguments}{body:List Stmt}{scope:Scope}{dV kV doc pm cdv ct oc:Value}{an od:Option Addr}
  {osl:Array (Option Value)}{N ps:List Str}{sp:Sp} (lk:K.lookup f=some ⟨oc,od,.func (zbo8 name qual params body scope dV kV doc pm an cdv ct),osl⟩) (hcd:zbv1 K cdv qual=true) (S:FnScope N ps scope)
  (len:∀vs H Q E,sp vs H Q E→vs.length=ps.length)
  (hbody:∀(A:Around) (outer:List Env) (s:zbj7) (H:Hp) (vs:List V) (Q:VK) (E:XK),Room k (A.deeper (envOfC qual scope s.heap.objs.size f cdv))→sp vs H Q E →
   ∃t,PSs (cxOf CX P w K mg base N qual scope f cdv A outer s H E) body t∧t { nx:=fun _ H'=>Q .non H',rt:=Q } (start N vs) H) :
  FnOk P w K mg base CX (k+1) f (zbo8 name qual params body scope dV kV doc pm an cdv ct) ps sp:=by
 refine⟨len,fun A outer s H args us vs Q E hr e0 hb r hsp=>?_⟩
 have hl:=len _ _ _ _ hsp
 have KX:K.In s.heap:=e0.mod.kin.keeps fun b o e=>(e0.bs b o e).1
 have lim:s.heap.NoLimit:=e0.mod.nolimit.keeps fun b o e=>(e0.bs b o e).1
 have hkind:∀y∈ps.zip us,scope.names.lookup y.1=some .local∨(scope.names.lookup y.1=some .cell∧((cellsFrom (s.heap.objs.size+1) scope.names []).lookup y.1).isSome=true):=fun ⟨n,v⟩ hy=>by
  rcases S.par n (zbx1 hy).1 with q | q
  ·exact .inl q
  ·exact .inr ⟨q,zbw3 _ _ _ (.inl q)⟩
 refine codeAny_call_function hr.depth (KX _ _ lk) rfl S.co S.gen rfl (PySem.W.codeRec_of KX hcd) (hb _ _ _ _ ?_)
 refine wpAny_newFunctionEnv_cells S.kind hkind fun env he s1 x=>?_
 subst he
 refine⟨lim.keeps x.toInCall.keep,codeAny_func ?_⟩
 obtain⟨t,ht,hq⟩:=hbody A outer s H vs Q E (hr.deeper _) hsp
 have I:Inv (cxOf CX P w K mg base N qual scope f cdv A outer s H E) [] (start N vs) H s1:=zbd0 S hr.hd e0 hl r x
 refine wpAny_mono (ht [] s1 (start N vs) H _ I hq) (fun fl s' hs=>?_) fun e s' hs=>hs
 have fin:∀ {σ':St}{H':Hp}{v:V}{u:Value},Inv (cxOf CX P w K mg base N qual scope f cdv A outer s H E) [] σ' H' s'→RelV v u→Q v H'→CE outer P w H s Q u s' :=
  fun {σ' H' v u} J rv q=>⟨v,H',J.os,J.bare,J.base,J.hok,rv,q⟩
 cases fl with
 |ret u =>
  obtain⟨v,σ',H',J,rv,q⟩:=hs
  exact fin J rv q
 |next =>
  obtain⟨σ',H',J,q⟩:=hs
  exact fin (v:=V.non) (u:=Value.none) J rfl q
 |brk =>
  obtain⟨_,_,_,q⟩:=hs
  exact False.elim q
 |cont =>
  obtain⟨_,_,_,q⟩:=hs
  exact False.elim q
end L2
namespace L2
open PySem.Spec
section
variable {X:Cx}{x:Str}{p pos:Pos}{e:Expr}{es:List Expr}{t:TA}{id T:String}{r:List V→Hp→VK→Prop}
def tCB (r:List V→Hp→VK→Prop) (t:TA):TE:=fun σ H Q=>t σ H fun vs H1=>r vs H1 Q
theorem zar1 (hc:zn7 X (.builtin id) r) (hg:Gl X x) (hm:X.mg x=none) (hv:bootBuiltins x=some (.builtin id)) (ha:PA X (e::es) t) (hn:x≠"__name__":=by decide) (hdb:(x ==("__debug__":Str))=false:=by decide)
  (he:zbk2 (e::es) X.env=(false,eval e X.env)::zbk2 es X.env:=by rfl) (hpl:(zbq3 pos (zbk2 es X.env)).any (·.1)=false:=by rfl):PE X (.Call (.Name x p) (e::es) [] pos) (tCB r t):=by
 intro pins s σ H Q I h
 refine wpAny_Call_Name_kw (zl9 I hg hm hv ?_ hn hdb)
 exact PyProof.Rows.callWith_builtin1 (thn (ha pos pins s σ H _ I h) fun us s1 ⟨vs,H1,I1,r1,q1⟩=>hc pins s1 σ H1 vs us Q I1 r1 q1) he hpl
theorem zba5 (hc:zn7 X (.type T) r) (hg:Gl X x) (hm:X.mg x=none) (hv:bootBuiltins x=some (.type T)) (ha:PA X (e::es) t) (hn:x≠"__name__":=by decide) (hdb:(x ==("__debug__":Str))=false:=by decide)
  (he:zbk2 (e::es) X.env=(false,eval e X.env)::zbk2 es X.env:=by rfl) (hpl:(zbq3 pos (zbk2 es X.env)).any (·.1)=false:=by rfl):PE X (.Call (.Name x p) (e::es) [] pos) (tCB r t):=by
 intro pins s σ H Q I h
 refine wpAny_Call_Name_kw (zl9 I hg hm hv ?_ hn hdb)
 exact PyProof.Rows.callWith_type1 (thn (ha pos pins s σ H _ I h) fun us s1 ⟨vs,H1,I1,r1,q1⟩=>hc pins s1 σ H1 vs us Q I1 r1 q1) he hpl
end
end L2
namespace HT
section
variable {prog:Program}{w:World}{A:Around}{E:Value→zbj7→Prop}{s:zbj7}
def sIx (n d:Nat):Option Int→Nat
 |none=>d
 |some v=>if v<0 then (v+(n:Int)).toNat else min v.toNat n
theorem sIx_none (n d:Nat):sIx n d none=d:=rfl
theorem sIx_nat (n d k:Nat):sIx n d (some (k:Int))=min k n:=by
 show (if (k:Int)<0 then ((k:Int)+(n:Int)).toNat else min (k:Int).toNat n)=min k n
 rw [if_neg (by lia),zbl5]
end
end HT
namespace L2
open PySem.Spec
abbrev TO:=St→Hp→(Option Int→Hp→Prop)→Prop
noncomputable def PO (X:Cx) (e:Option Expr) (t:TO):Prop :=
 ∀(pins:List (Addr×Obj)) (s:zbj7) (σ:St) (H:Hp) (Q:Option Int→Hp→Prop),Inv X pins σ H s→t σ H Q →
  wpAny (model X.prog X.w) X.A (evalPart e X.env) (fun u s' => ∃o H',Inv X pins σ H' s'∧IsPart u o∧Q o H') X.xe s
def tNoPart:TO:=fun _ H Q=>Q none H
def tPart (t:TE):TO:=fun σ H Q=>t σ H fun x H1 => ∃i,x=.int i∧Q (some i) H1
theorem zm0 {ns:List Int}:∀ {us:List Value},Vals (ns.map V.int) us→IntsAre us ns:=by
 induction ns with
 |nil=>intro us r;rw [zbx3]at r;cases r;exact .nil
 |cons n ns ih =>
  intro us r
  rw [zbk5]at r
  cases r with
  |cons r1 r2 =>
   obtain⟨t,e⟩:=r1
   subst e
   exact .cons n t (ih r2)
section
variable {X:Cx}{e:Expr}{te:TE}{lo hi:Option Expr}{tl th:TO}{pos p2:Pos}
theorem po_none:PO X none tNoPart:=by
 intro pins s σ H Q I h
 rw [evalPart_none]
 exact zbj5 ⟨none,H,I,.none,h⟩
theorem zal5 (h:PE X e te):PO X (some e) (tPart te):=by
 intro pins s σ H Q I hw
 rw [evalPart_some]
 refine thn (h pins s σ H _ I hw) fun u s1 ⟨x,H1,I1,r1,q1⟩=>?_
 obtain⟨i,rfl,q⟩:=q1
 obtain⟨t,rfl⟩:=r1
 exact⟨some i,H1,I1,.int i t,q⟩
noncomputable def SlR (X:Cx) (r:V→Option Int→Option Int→Hp→VK→Prop):Prop :=
 ∀(pins:List (Addr×Obj)) (s:zbj7) (σ:St) (H:Hp) (x:V) (v vl vu:Value) (lo hi:Option Int) (sl:Addr) (Q:VK),Inv X pins σ H s→RelV x v→s.heap.IsSliceOf sl vl vu .none→IsPart vl lo→IsPart vu hi→r x lo hi H Q →
  ∃T id,typeLookup (.type T) "__getitem__"=pure (some (.builtin id))∧s.TypeIs v T∧wpAny (model X.prog X.w) X.A (getItem v (.ref sl)) (EP X pins σ Q) X.xe s
noncomputable def tSl (r:V→Option Int→Option Int→Hp→VK→Prop) (te:TE) (tl th:TO):TE:=fun σ H Q=>te σ H fun x H1=>tl σ H1 fun l H2=>th σ H2 fun u H3=>r x l u H3 Q
theorem zar0 {r:V→Option Int→Option Int→Hp→VK→Prop} (hr:SlR X r) (he:PE X e te) (hl:PO X lo tl) (hu:PO X hi th):PE X (.Subscript e (.Slice lo hi none p2) pos) (tSl r te tl th):=by
 intro pins s σ H Q I h
 refine Subscript_ (thn (he pins s σ H _ I h) fun v s1 ⟨x,H1,I1,r1,q1⟩=>?_)
 refine wpAny_Slice (thn (hl pins s1 σ H1 _ I1 q1) fun vl s2 ⟨l,H2,I2,pl,q2⟩=>thn (hu pins s2 σ H2 _ I2 q2) fun vu s3 ⟨u,H3,I3,pu,q3⟩=>?_)
 rw [evalPart_none]
 refine zbj5 ?_
 have I4:Inv X pins σ H3 { s3 with heap:=s3.heap.push { cls:=.type "slice",data:=.fields #[vl,vu,.none] } }:=I3.kept (t':=s3.toks) fun b ob q=>zbj0 _ q
 obtain⟨T,id,hT,ht,hg⟩:=hr pins { s3 with heap:=s3.heap.push { cls:=.type "slice",data:=.fields #[vl,vu,.none] } } σ H3 x v vl vu l u s3.heap.objs.size Q I4 r1 (Heap.IsSliceOf.new ..) pl pu q3
 show wpAny (model X.prog X.w) X.A (subscriptTail e (.Slice lo hi none p2) v (.ref s3.heap.objs.size)) (EP X pins σ Q) X.xe { s3 with heap:=s3.heap.push { cls:=.type "slice",data:=.fields #[vl,vu,.none] } }
 exact tail_any (ops:=[.ref s3.heap.objs.size,v]) ht hT hg (by with_unfolding_all rfl)
noncomputable def cutV (xs:List V) (lo hi:Option Int):List V:=(xs.drop (HT.sIx xs.length 0 lo)).take (HT.sIx xs.length xs.length hi - HT.sIx xs.length 0 lo)
theorem zan6 (xs:List V) (lo hi:Option Int):(cutV xs lo hi).length≤xs.length:=by
 unfold cutV
 rw [zbr9,zbw4]
 lia
end
end L2
namespace L2
open PySem.Spec
noncomputable def ixN (n:Nat) (i:Int):Option Nat:=if 0≤i then (if i<n then some i.toNat else none) else if -(n:Int)≤i then some (i+n).toNat else none
def atI {α:Type} (xs:List α) (i:Int):Option α:=(ixN xs.length i).bind fun j=>xs[j]?
theorem zan0 {n:Nat}{i:Int}{j:Nat} (h:ixN n i=some j):seqIndex? i n=some j∧j<n ∧ -(n:Int)≤i∧i<n:=by
 unfold ixN at h
 by_cases h0:0≤i
 ·rw [if_pos h0]at h
  by_cases h1:i<n
  ·rw [if_pos h1]at h
   have e:i.toNat=j:=Option.some.inj h
   exact⟨by rw [seqIndex_of h0 h1,e],by lia,by lia,h1⟩
  ·rw [if_neg h1]at h;cases h
 ·rw [if_neg h0]at h
  by_cases h1 : -(n:Int)≤i
  ·rw [if_pos h1]at h
   have e:(i+n).toNat=j:=Option.some.inj h
   exact⟨by rw [seqIndex_neg (by lia) h1,e],by lia,h1,by lia⟩
  ·rw [if_neg h1]at h;cases h
theorem zao2 {α:Type}{xs:List α}{i:Int}{v:α} (h:atI xs i=some v):∃j,seqIndex? i xs.length=some j∧xs[j]?=some v∧j<xs.length ∧ -(xs.length:Int)≤i∧i<xs.length:=by
 unfold atI at h
 cases e:ixN xs.length i with
 |none=>rw [e]at h;cases h
 |some j =>
  rw [e]at h
  obtain⟨h1,h2,h3,h4⟩:=zan0 e
  exact⟨j,h1,h,h2,h3,h4⟩
def zao4 (b:Expr):Prop := ∀o i,subscripted b false o i=operate [o,i] (getItem o i)
noncomputable def IxR (X:Cx) (r:R2):Prop :=
 ∀(value slice:Expr) (pins:List (Addr×Obj)) (s:zbj7) (σ:St) (H:Hp) (x y:V) (v u:Value) (Q:VK),Inv X pins σ H s→RelV x v→RelV y u→r x y H Q →
  subscripted slice false v u=operate [v,u] (getItem v u)→wpAny (model X.prog X.w) X.A (subscriptTail value slice v u) (EP X pins σ Q) X.xe s
noncomputable def MtR (X:Cx) (id:String) (r:V→List V→Hp→VK→Prop):Prop :=
 ∀(pins:List (Addr×Obj)) (s:zbj7) (σ:St) (H:Hp) (x:V) (xs:List V) (v:Value) (us:List Value) (Q:VK),Inv X pins σ H s→RelV x v→Vals xs us→r x xs H Q →
  wpAny (model X.prog X.w) X.A (call (.builtin id) (v::us)) (EP X pins σ Q) X.xe s
section
variable {X:Cx}{a b:Expr}{ta tb:TE}{pos:Pos}
theorem IxR.or {r r':R2} (h:IxR X r) (h':IxR X r'):IxR X (fun x y H Q=>r x y H Q∨r' x y H Q):=by
 intro value slice pins s σ H x y v u Q I rx ry q hs
 rcases q with q | q
 ·exact h value slice pins s σ H x y v u Q I rx ry q hs
 ·exact h' value slice pins s σ H x y v u Q I rx ry q hs
theorem pe_ix {r:R2} (hr:IxR X r) (ha:PE X a ta) (hb:PE X b tb) (hs:zao4 b):PE X (.Subscript a b pos) (tOp r ta tb):=by
 intro pins s σ H Q I h
 exact Subscript_ (binT ha hb I h fun v u s2 x y H2 I2 rx ry q=>hr a b pins s2 σ H2 x y v u Q I2 rx ry q (hs _ _))
def rIxL (K:zbi5):R2:=fun x y H Q => ∃p xs i v,x=.ref p∧y=.int i∧SqL K H p xs∧atI xs i=some v∧Q v H
def rIxT (K:zbi5):R2:=fun x y H Q => ∃p xs i v,x=.ref p∧y=.int i∧SqT K H p xs∧atI xs i=some v∧Q v H
theorem ix_list:IxR X (rIxL X.K):=by
 intro value slice pins s σ H x y v u Q I rx ry h hs
 obtain⟨p,xs,i,z,rfl,rfl,hq,he,q⟩:=h
 cases rx
 obtain⟨t,rfl⟩:=ry
 obtain⟨its,r,pl,hz⟩:=I.list hq
 obtain⟨j,h1,h2,h3,h4,h5⟩:=zao2 he
 obtain⟨w,ew,rw'⟩:=r.get h2
 have hl:=r.length
 have hn:=zab4
 have fin:EP X pins σ Q w s:=⟨z,H,I,rw',q⟩
 by_cases h0:0≤i
 ·have hj:i.toNat=j:=by
   rw [seqIndex_of h0 h5]at h1
   exact Option.some.inj h1
  exact item_listR pl.isList h0 (by lia) (by rw [hj];simpa using ew) fin hs
 ·have hj:(i+(its.toArray.size:Int)).toNat=j:=by
   rw [seqIndex_neg (by lia) h4]at h1
   rw [zbk0, ← hl]
   exact Option.some.inj h1
  exact subscriptTail_builtinR (x:=w) pl.isList.typeIs slot_list_getitem.lookup
   (wpAny_getItem_list_neg (Q:=fun r s'=>r=w∧EP X pins σ Q r s') pl.isList (by lia) (by rw [zbk0]<;>lia) (by lia) (by rw [hj];simpa using ew) ⟨rfl,fin⟩) hs
theorem ix_tup:IxR X (rIxT X.K):=by
 intro value slice pins s σ H x y v u Q I rx ry h hs
 obtain⟨p,xs,i,z,rfl,rfl,hq,he,q⟩:=h
 cases rx
 obtain⟨t,rfl⟩:=ry
 obtain⟨its,r,pl,hz⟩:=I.tuple hq
 obtain⟨j,h1,h2,h3,h4,h5⟩:=zao2 he
 obtain⟨w,ew,rw'⟩:=r.get h2
 have hl:=r.length
 have hn:=zab4
 have fin:EP X pins σ Q w s:=⟨z,H,I,rw',q⟩
 exact subscriptTail_builtinR (x:=w) pl.typeIs slot_tuple_getitem.lookup
  (getItem_tuple (j:=j) (Q:=fun r s'=>r=w∧EP X pins σ Q r s') pl (by lia) (by lia) (by rw [zbk0, ← hl];exact h1) (by simpa using ew) ⟨rfl,fin⟩) hs
theorem zav0 (its:List Value) (n j:Nat) (u:Value):Obj.mapSeq (·.setIfInBounds j u) { cls:=.type "list",data:=.seq its.toArray n }={ cls:=.type "list",data:=.seq (its.set j u).toArray n }:=by
 simp [Obj.mapSeq]
theorem Inv.lst {pins:List (Addr×Obj)}{σ:St}{H:Hp}{s:zbj7}{p:Addr}{xs:List V} (I:Inv X pins σ H s) (h:H p=some (.lst xs)) :
  ∃(its:List Value) (n:Nat),Vals xs its∧s.heap.get? p=some { cls:=.type "list",data:=.seq its.toArray n }∧xs.length≤sizeLine:=by
 obtain⟨z,its,n,r,e⟩:=I.hok p _ h
 exact⟨its,n,r,e,z⟩
theorem Inv.lstUpd {pins:List (Addr×Obj)}{σ:St}{H:Hp}{s:zbj7}{p:Addr}{xs ys:List V}{its its':List Value}{n n':Nat}{f:Obj→Obj} (I:Inv X pins σ H s) (h:H p=some (.lst xs))
  (ho:s.heap.get? p=some { cls:=.type "list",data:=.seq its.toArray n }) (hf:f { cls:=.type "list",data:=.seq its.toArray n }={ cls:=.type "list",data:=.seq its'.toArray n' }) (r:Vals ys its') (hz:ys.length≤sizeLine) (t:Nat) :
  Inv X pins σ (upd H p (.lst ys)) { s with heap:=s.heap.update p f,toks:=t }:=by
 have e:(s.heap.update p f).get? p=some { cls:=.type "list",data:=.seq its'.toArray n' }:=by
  rw [zbm2 f ho (by rw [hf]<;>rfl),hf]
 refine I.write (x:=p) (e:=p) (by rw [h];trivial) (.inl rfl) (fun b u hb q=>(zbl7 _ _ (Ne.symm hb)).trans q) ⟨_,e⟩ ?_
 exact⟨hz,its',n',r,e⟩
noncomputable def rSetL:V→V→V→Hp→(Hp→Prop)→Prop:=fun o i v H Q => ∃p xs k j,o=.ref p∧i=.int k∧H p=some (.lst xs)∧ixN xs.length k=some j∧Q (upd H p (.lst (xs.set j v)))
theorem zac7:PSet X rSetL:=by
 intro pins s σ H o i v ov iv u Q I ro ri rv h
 obtain⟨p,xs,k,j,rfl,rfl,hp,hj,q⟩:=h
 cases ro
 obtain⟨t,rfl⟩:=ri
 obtain⟨its,n,r,ho,hz⟩:=I.lst hp
 obtain⟨h1,h2,h3,h4⟩:=zan0 hj
 have hl:=r.length
 have hn:=zab4
 have I':Inv X pins σ (upd H p (.lst (xs.set j v))) { s with heap:=s.heap.update p (Obj.mapSeq (·.setIfInBounds j u)) } :=
  I.lstUpd hp ho (zav0 its n j u) (r.set rv j) (by rw [zbu4];exact hz) s.toks
 by_cases h0:0≤k
 ·have hk:k.toNat=j:=by
   rw [seqIndex_of h0 h4]at h1
   exact Option.some.inj h1
  exact PySem.W.ki_setAt ho h0 (by lia) (by rw [zbk0, ← hl];exact h4) (by rw [hk];exact⟨_,I',q⟩)
 ·have hk:(k+(its.toArray.size:Int)).toNat=j:=by
   rw [seqIndex_neg (by lia) h3]at h1
   rw [zbk0, ← hl]
   exact Option.some.inj h1
  exact PySem.W.ki_setBack ho (by lia) (by rw [zbk0, ← hl];exact h3) (by lia) (by rw [hk];exact⟨_,I',q⟩)
theorem zag3 (lo hi:Option Int) (n:Nat):(sliceBounds lo hi none n).1=((HT.sIx n 0 lo:Nat):Int)∧(sliceBounds lo hi none n).2.1=((HT.sIx n n hi:Nat):Int)∧(sliceBounds lo hi none n).2.2=1:=by
 refine⟨?_,?_,rfl⟩
 ·cases lo with
  |none=>simp [sliceBounds,HT.sIx]
  |some i =>
   simp only [sliceBounds,HT.sIx,zbz6,show (1:Int) > 0 by decide,if_true]
   by_cases h:i<0
   ·simp only [h,if_true]<;>lia
   ·simp only [h,if_false]<;>lia
 ·cases hi with
  |none=>simp [sliceBounds,HT.sIx]
  |some i =>
   simp only [sliceBounds,HT.sIx,zbz6,show (1:Int) > 0 by decide,if_true]
   by_cases h:i<0
   ·simp only [h,if_true]<;>lia
   ·simp only [h,if_false]<;>lia
theorem zac5 (its:List Value) (lo hi:Option Int):slicePick its.toArray lo hi none=((its.drop (HT.sIx its.length 0 lo)).take (HT.sIx its.length its.length hi - HT.sIx its.length 0 lo)).toArray:=by
 obtain⟨h1,h2,h3⟩:=zag3 lo hi its.toArray.size
 unfold slicePick
 rw [h1,h2,h3]
 simp only [sliceRange_one,pick_run,zbk0]<;>rfl
noncomputable def rSlL (K:zbi5):V→Option Int→Option Int→Hp→VK→Prop:=fun x lo hi H Q => ∃a xs,x=.ref a∧SqL K H a xs∧∀p,H p=none→Q (.ref p) (upd H p (.lst (cutV xs lo hi)))
theorem zay1:SlR X (rSlL X.K):=by
 intro pins s σ H x v vl vu lo hi sl Q I rx hs pl pu h
 obtain⟨a,xs,rfl,hx,q⟩:=h
 cases rx
 obtain⟨its,r,ht,hz⟩:=I.list hx
 have hlen:=r.length
 refine⟨"list",_,slot_list_getitem.lookup,ht.isList.typeIs,?_⟩
 refine wpAny_getItem_list_slice ht.isList hs pl pu .none (by simp) ?_ (by rw [zbk0]<;>lia)
 rw [zac5, ← hlen]
 refine⟨.ref s.heap.objs.size,_,I.laid (t':=s.toks) (o:=.lst (cutV xs lo hi)) (fun b ob q=>zbj0 _ q) (zbk1 _) ?_,rfl,q _ (I.hok.fresh (zbk1 _))⟩
 exact⟨zbn6 (zan6 xs lo hi) hz,_,0,(r.drop (HT.sIx xs.length 0 lo)).take (HT.sIx xs.length xs.length hi - HT.sIx xs.length 0 lo),zbj9 _ rfl⟩
def zs5:V→Bool
 |.non=>true
 |.bl _=>true
 |.int _=>true
 |.str _=>true
 |_=>false
noncomputable def eqV:V→V→Bool
 |.non,.non=>true
 |.bl a,.bl b=>a == b
 |.bl a,.int b=>(if a then 1 else 0) == b
 |.int a,.bl b=>a ==(if b then 1 else 0)
 |.int a,.int b=>a == b
 |.str a,.str b=>a == b
 |_,_=>false
theorem zbe1 {A:Around}{s:zbj7}{y x:V}{u v:Value} (ry:RelV y u) (rx:RelV x v) (fy:zs5 y=true) (fx:zs5 x=true):SeqAt.EqAt A s u v (eqV y x):=by
 cases y with
 |non =>
  cases ry
  cases x with
  |non=>cases rx;exact SeqAt.EqAt.same _
  |bl b=>cases rx;exact SeqAt.EqAt.none_bool b
  |int b=>obtain⟨t,rfl⟩:=rx;exact SeqAt.EqAt.none_int b t
  |str b=>obtain⟨t,rfl⟩:=rx;exact SeqAt.EqAt.none_str b t
  |_=>exact absurd (show false=true from fx) zbk4
 |bl a =>
  cases ry
  cases x with
  |non=>cases rx;exact SeqAt.EqAt.bool_none a
  |bl b=>cases rx;exact SeqAt.EqAt.bool_bool a b
  |int b=>obtain⟨t,rfl⟩:=rx;exact SeqAt.EqAt.bool_int a b t
  |str b=>obtain⟨t,rfl⟩:=rx;exact SeqAt.EqAt.bool_str a b t
  |_=>exact absurd (show false=true from fx) zbk4
 |int a =>
  obtain⟨t',rfl⟩:=ry
  cases x with
  |non=>cases rx;exact SeqAt.EqAt.int_none a t'
  |bl b=>cases rx;exact SeqAt.EqAt.int_bool a t' b
  |int b=>obtain⟨t,rfl⟩:=rx;exact SeqAt.EqAt.int_int a t' b t
  |str b=>obtain⟨t,rfl⟩:=rx;exact SeqAt.EqAt.int_str a t' b t
  |_=>exact absurd (show false=true from fx) zbk4
 |str a =>
  obtain⟨t',rfl⟩:=ry
  cases x with
  |non=>cases rx;exact SeqAt.EqAt.str_none a t'
  |bl b=>cases rx;exact SeqAt.EqAt.str_bool a t' b
  |int b=>obtain⟨t,rfl⟩:=rx;exact SeqAt.EqAt.str_int a t' b t
  |str b=>obtain⟨t,rfl⟩:=rx;exact SeqAt.EqAt.str_str a t' b t
  |_=>exact absurd (show false=true from fx) zbk4
 |_=>exact absurd (show false=true from fy) zbk4
noncomputable def eqU (x:V) (u:Value):Bool:=match u with
 |.none=>eqV .non x
 |.bool b=>eqV (.bl b) x
 |.int i _=>eqV (.int i) x
 |.str z _=>eqV (.str z) x
 |_=>false
theorem eqU_of {x y:V}{u:Value} (r:RelV y u) (f:zs5 y=true):eqU x u=eqV y x:=by
 cases y with
 |non=>cases r;rfl
 |bl b=>cases r;rfl
 |int i=>obtain⟨t,rfl⟩:=r;rfl
 |str z=>obtain⟨t,rfl⟩:=r;rfl
 |_=>exact absurd (show false=true from f) zbk4
theorem zz6 {x:V}:∀ {xs:List V}{us:List Value},Vals xs us→xs.all zs5=true→us.any (eqU x)=xs.any fun y=>eqV y x
 |_,_,.nil,_=>rfl
 |y::xs,u::us,.cons r t,f=>by
  rw [zbo7,zbj3]at f
  rw [zbp0,zbp0,eqU_of r f.1,zz6 t f.2]
theorem zr9 {A:Around}{s:zbj7}{x:V}{v:Value} (rx:RelV x v) (fx:zs5 x=true):∀ {xs:List V}{us:List Value},Vals xs us→xs.all zs5=true→∀u∈us,SeqAt.EqAt A s u v (eqU x u)
 |_,_,.nil,_=>fun u hu=>by cases hu
 |y::xs,u::us,.cons r t,f=>fun u' hu=>by
  rw [zbo7,zbj3]at f
  rcases zbj4.mp hu with rfl | hu
  ·rw [eqU_of r f.1];exact zbe1 r rx f.1 fx
  ·exact zr9 rx fx t f.2 u' hu
def inV (x:V) (xs:List V):Bool:=xs.any fun y=>eqV y x
noncomputable def rIn (K:zbi5) (neg:Bool):R2:=fun x y H Q => ∃p xs,y=.ref p∧(SqL K H p xs∨SqT K H p xs)∧zs5 x=true∧xs.all zs5=true∧Q (.bl (if neg then !inV x xs else inV x xs)) H
theorem zah7:OpR X (compareOp .In) (rIn X.K false):=by
 intro pins s σ H x y v u Q I rx ry h
 obtain⟨p,xs,rfl,hq,fx,fs,q⟩:=h
 cases ry
 rcases hq with hq | hq
 ·obtain⟨its,r,pl,hz⟩:=I.list hq
  refine SeqAt.in_listAt (eqU x) pl.isList (fun w hw=>zr9 rx fx r fs w (by simpa using hw)) ⟨.bl _,H,I,rfl,?_⟩
  rw [show its.toArray.any (eqU x)=its.any (eqU x) by simp,zz6 r fs]
  exact q
 ·obtain⟨its,r,pl,hz⟩:=I.tuple hq
  refine SeqAt.in_tupleAt (eqU x) pl (fun w hw=>zr9 rx fx r fs w (by simpa using hw)) ⟨.bl _,H,I,rfl,?_⟩
  rw [show its.toArray.any (eqU x)=its.any (eqU x) by simp,zz6 r fs]
  exact q
theorem zu5:OpR X (compareOp .NotIn) (rIn X.K true):=by
 intro pins s σ H x y v u Q I rx ry h
 obtain⟨p,xs,rfl,hq,fx,fs,q⟩:=h
 cases ry
 rcases hq with hq | hq
 ·obtain⟨its,r,pl,hz⟩:=I.list hq
  refine SeqAt.notIn_listAt (eqU x) pl.isList (fun w hw=>zr9 rx fx r fs w (by simpa using hw)) ⟨.bl _,H,I,rfl,?_⟩
  rw [show its.toArray.any (eqU x)=its.any (eqU x) by simp,zz6 r fs]
  exact q
 ·obtain⟨its,r,pl,hz⟩:=I.tuple hq
  refine SeqAt.notIn_tupleAt (eqU x) pl (fun w hw=>zr9 rx fx r fs w (by simpa using hw)) ⟨.bl _,H,I,rfl,?_⟩
  rw [show its.toArray.any (eqU x)=its.any (eqU x) by simp,zz6 r fs]
  exact q
theorem zaj7:zn7 X (.builtin "len") (fun xs H Q => ∃p ys,xs=[.ref p]∧(SqL X.K H p ys∨SqT X.K H p ys)∧Q (.int ys.length) H):=by
 intro pins s σ H xs us Q I r h
 obtain⟨p,ys,rfl,hq,q⟩:=h
 obtain⟨u,rfl,rx⟩:=zz7 r
 cases rx
 have hn:=zab4
 rcases hq with hq | hq
 ·obtain⟨its,r',pl,hz⟩:=I.list hq
  have hlen:=r'.length
  exact Calls.call_len_list pl.isList (by simp only [zbk0]<;>lia) ⟨.int ys.length,H,I.tok _,⟨s.toks+1,by rw [zbk0,hlen]⟩,q⟩
 ·obtain⟨its,r',pl,hz⟩:=I.tuple hq
  have hlen:=r'.length
  exact len_tuple pl (by simp only [zbk0]<;>lia) ⟨.int ys.length,H,I.tok _,⟨s.toks+1,by rw [zbk0,hlen]⟩,q⟩
theorem zaj6:zn7 X (.type "list") (fun xs H Q => ∃p ys,xs=[.ref p]∧(SqL X.K H p ys∨SqT X.K H p ys)∧∀l,H l=none→Q (.ref l) (upd H l (.lst ys))):=by
 intro pins s σ H xs us Q I r h
 obtain⟨p,ys,rfl,hq,q⟩:=h
 obtain⟨u,rfl,rx⟩:=zz7 r
 cases rx
 have fin:∀(its:List Value),Vals ys its→ys.length≤sizeLine→∀(h':Heap) (c':Nat),(∀b o',s.heap.get? b=some o'→h'.get? b=some o') →
   h'.get? s.heap.objs.size=some { cls:=.type "list",dict:=none,data:=.seq its.toArray c',slots := #[] }→EP X pins σ Q (.ref s.heap.objs.size) { s with heap:=h' }:=fun its r' hz h' c' kp e =>
  ⟨.ref s.heap.objs.size,_,I.laid (t':=s.toks) kp (zbk1 _) (show ObjOk X.prog X.w _ h' _ (.lst ys) from ⟨hz,its,c',r',e⟩),rfl,q _ (I.hok.fresh (zbk1 _))⟩
 rcases hq with hq | hq
 ·obtain⟨its,r',pl,hz⟩:=I.list hq
  have hlen:=r'.length
  obtain⟨o,ho,hc,n,hd⟩:=pl.isList
  exact call_list_seq p (.inl rfl) ho hc hd (fun h' c' kp e=>fin its r' hz h' c' kp e) (by simp only [zbk0]<;>lia)
 ·obtain⟨its,r',pl,hz⟩:=I.tuple hq
  have hlen:=r'.length
  obtain⟨o,ho,hc,n,hd⟩:=pl
  exact call_list_seq p (.inr rfl) ho hc hd (fun h' c' kp e=>fin its r' hz h' c' kp e) (by simp only [zbk0]<;>lia)
noncomputable def tyV (K:zbi5) (T:String) (x:V) (H:Hp):Prop:=match x with
 |.str _=>T = "str"
 |.int _=>T = "int"
 |.ref p=>(T = "list"∧∃xs,SqL K H p xs)∨(T = "tuple"∧∃o,K.lookup p=some o∧o.cls=.type "tuple"∧o.dict=none) ∨
   (T = "dict"∧((∃kvs,H p=some (.dK kvs))∨∃kvs,H p=some (.dT kvs)))∨(T = "set"∧∃S n,H p=some (.set S n))
 |_=>False
theorem tyV_is {pins:List (Addr×Obj)}{σ:St}{H:Hp}{s:zbj7}{T:String}{x:V}{v:Value} (I:Inv X pins σ H s) (r:RelV x v) (ty:tyV X.K T x H) :
  s.TypeIs v T∧∀a,v=.ref a→∃ob,s.heap.get? a=some ob∧ob.dict=none:=by
 cases x with
 |str z =>
  obtain⟨t,rfl⟩:=r
  cases (show T = "str" from ty)
  exact⟨typeIs_str s z t,fun _ e=>nomatch e⟩
 |int i =>
  obtain⟨t,rfl⟩:=r
  cases (show T = "int" from ty)
  exact⟨typeIs_int s i t,fun _ e=>nomatch e⟩
 |ref p =>
  cases r
  rcases ty with ⟨rfl,xs,hq⟩ | ⟨rfl,o,hk,hc,hd⟩ | ⟨rfl,hk⟩ | ⟨rfl,S,n,hk⟩
  ·obtain⟨its,_,pl,_⟩:=I.list hq
   refine⟨pl.isList.typeIs,fun a e=>?_⟩
   cases e
   obtain⟨o,n,e,c,hd,_⟩:=pl
   exact⟨o,e,hd⟩
  ·refine⟨⟨o,I.kIn p o hk,hc⟩,fun a e=>?_⟩
   cases e
   exact⟨o,I.kIn _ o hk,hd⟩
  ·have z:∃o,s.heap.get? p=some o∧o.ExactDict:=by
    rcases hk with ⟨kvs,hk⟩ | ⟨kvs,hk⟩
    ·obtain⟨_,_,_,_,o,_,_,e,ex,_⟩:=I.hok p _ hk
     exact⟨o,e,ex⟩
    ·obtain⟨_,_,_,_,o,_,_,e,ex,_⟩:=I.hok p _ hk
     exact⟨o,e,ex⟩
   obtain⟨o,e,ex⟩:=z
   refine⟨⟨o,e,ex.1⟩,fun a e2=>?_⟩
   cases e2
   exact⟨o,e,ex.2.1⟩
  ·obtain⟨o,_,_,_,e,ex,_⟩:=I.hok p _ hk
   refine⟨⟨o,e,ex.1⟩,fun a e2=>?_⟩
   cases e2
   exact⟨o,e,ex.2.1⟩
 |_=>exact False.elim ty
noncomputable def tBM (K:zbi5) (T:String) (r:V→List V→Hp→VK→Prop) (to:TE) (t:TA):TE:=fun σ H Q=>to σ H fun x H1=>tyV K T x H1∧t σ H1 fun xs H2=>r x xs H2 Q
variable {o e:Expr}{es:List Expr}{to:TE}{t:TA}{name:Str}{apos cpos:Pos}{T id:String}{r:V→List V→Hp→VK→Prop}
theorem pe_bm (pa:PlainAttrs T) (slot:Slot T name id) (hty:typeOf (.builtin id)=pure (.type "method_descriptor")) (hm:MtR X id r) (ho:PE X o to) (ha:PA X (e::es) t)
  (hbase:attributeBase o name X.env (eval o X.env)=eval o X.env:=by rfl)
  (hfew:((zbq3 cpos (zbk2 (e::es) X.env)).all (fun x=>!x.1)&&(backToKw cpos (keywordEach [] X.env)).all (fun x=>x.1.isSome)
   && decide ((e::es).length+([]:List Keyword).length+(if ([]:List Keyword).isEmpty then 0 else 1)<30))=true:=by rfl)
  (hline:(apos.endLine == cpos.line)=true:=by rfl) (hs:zbk2 (e::es) X.env=(false,eval e X.env)::zbk2 es X.env:=by rfl) (hplain:(zbq3 cpos (zbk2 es X.env)).any (·.1)=false:=by rfl) :
  PE X (.Call (.Attribute o name apos) (e::es) [] cpos) (tBM X.K T r to t):=by
 intro pins s σ H Q I h
 refine wpAny_Call_method_late hbase hfew hline rfl (thn (ho pins s σ H _ I h) fun v s1 ⟨x,H1,I1,r1,ty,q1⟩=>?_)
 obtain⟨h1,h2⟩:=tyV_is I1 r1 ty
 refine⟨T,id,pa,slot,hty,h1,h2,?_⟩
 have hA:=ha cpos pins s1 σ H1 _ I1 q1
 rw [hs]at hA ⊢
 refine Calls.callWith_builtin (by show (false||(zbq3 cpos (zbk2 es X.env)).any (·.1))=false;rw [hplain]<;>rfl) (Calls.evalArgs_plain ?_)
 exact thn hA fun us s2 ⟨vs,H2,I2,r2,q2⟩=>hm pins s2 σ H2 x vs v us Q I2 r1 r2 q2
end
end L2
namespace L2
open PySem.Spec
noncomputable def MtM (X:Cx) (id:String) (r:V→List V→Hp→VK→Prop):Prop :=
 ∀(pins:List (Addr×Obj)) (s:zbj7) (σ:St) (H:Hp) (x:V) (xs:List V) (v:Value) (us:List Value) (Q:VK),Inv X pins σ H s→RelV x v→Vals xs us→r x xs H Q →
  wpAny (model X.prog X.w) X.A (call (.builtin id) (v::us)) (EP X pins σ Q) X.xe s
theorem Vals.one:∀ {x:V}{us:List Value},Vals [x] us→∃u,us=[u]∧RelV x u
 |_,_,.cons r .nil=>⟨_,rfl,r⟩
theorem Vals.two:∀ {x y:V}{us:List Value},Vals [x,y] us→∃u v,us=[u,v]∧RelV x u∧RelV y v
 |_,_,_,.cons r (.cons q .nil)=>⟨_,_,rfl,r,q⟩
theorem Vals.eraseIdx:∀ {xs:List V}{us:List Value} (i:Nat),Vals xs us→Vals (xs.eraseIdx i) (us.eraseIdx i)
 |_,_,_,.nil=>.nil
 |_,_,0,.cons _ t=>t
 |_,_,i+1,.cons r t=>.cons r (Vals.eraseIdx i t)
theorem Vals.rep {xs:List V}{us:List Value} (h:Vals xs us):∀k:Nat,Vals (zbk7 k xs).flatten (zbk7 k us).flatten
 |0=>.nil
 |k+1=>by
  rw [zbn7,zbn7,zbr3,zbr3]
  exact Vals.append h (Vals.rep h k)
theorem zai7 {α:Type}:∀(l:List α) (i:Nat),(l.eraseIdx i).length≤l.length
 |[],_=>zbk1 _
 |_::_,0=>zbt1 _
 |_::r,i+1=>Nat.succ_le_succ (zai7 r i)
theorem zaj1 (its:List Value):∀(k:Nat) (acc:List Value),
  zcd9 (fun x1 x2=>x1++x2) acc.toArray (zbk7 k its.toArray)=(acc++(zbk7 k its).flatten).toArray
 |0,acc=>by simp
 |k+1,acc=>by
  have e:acc.toArray++its.toArray=(acc++its).toArray:=by simp
  have e2:(acc++its)++(zbk7 k its).flatten=acc++(zbk7 (k+1) its).flatten:=by
   rw [zbn7,zbr3,zbr4]
  rw [← e2, ← zaj1 its k (acc++its), ← e,zbn7,zbs6]
section
variable {X:Cx}{pins:List (Addr×Obj)}{σ:St}{H:Hp}{s:zbj7}{l b:Addr}{xs ys zs:List V}
theorem Inv.lset {its its':List Value}{n:Nat}{f:Array Value→Array Value}{t':Nat} (I:Inv X pins σ H s) (hH:H l=some (.lst xs))
  (e:s.heap.get? l=some { cls:=.type "list",data:=.seq its.toArray n }) (hf:f its.toArray=its'.toArray) (hv:Vals ys its') (hz:ys.length≤sizeLine) :
  Inv X pins σ (upd H l (.lst ys)) { s with heap:=s.heap.update l (Obj.mapSeq f),toks:=t' }:=by
 have q:=PySem.IsL.update e f
 rw [hf]at q
 refine I.write (x:=l) (e:=l) (by rw [hH];exact trivial) (.inl rfl) (fun b' u hb hu=>(zbl7 s.heap (Obj.mapSeq f) (Ne.symm hb)).trans hu) ⟨_,q⟩ ?_
 exact⟨hz,its',_,hv,q⟩
theorem Inv.lnew {its:List Value}{t':Nat} (I:Inv X pins σ H s) (hv:Vals ys its) (hz:ys.length≤sizeLine) :
  Inv X pins σ (upd H s.heap.objs.size (.lst ys)) { s with heap:=s.heap.push { cls:=.type "list",data:=.seq its.toArray },toks:=t' } :=
 I.laid (fun _ _ q=>zbj0 _ q) (zbk1 _) ⟨hz,its,0,hv,zbj9 _ rfl⟩
theorem Inv.fresh (I:Inv X pins σ H s):H s.heap.objs.size=none:=I.hok.fresh (zbk1 _)
theorem Inv.lstM (I:Inv X pins σ H s) (hH:H l=some (.lst xs)):xs.length≤sizeLine∧∃(its:List Value) (n:Nat),Vals xs its∧xs.length=its.length∧s.heap.get? l=some { cls:=.type "list",data:=.seq its.toArray n }:=by
 obtain⟨z,its,n,r,e⟩:=I.hok l _ hH
 exact⟨z,its,n,r,r.length,e⟩
theorem notLongL {n:Nat} (h:n≤sizeLine):Builtin.List.listTooLong n=false:=by
 unfold Builtin.List.listTooLong
 exact decide_eq_false (by lia)
end
section
variable {X:Cx}
noncomputable def rAppend:V→List V→Hp→VK→Prop:=fun x vs H Q => ∃l xs y,x=.ref l∧vs=[y]∧H l=some (.lst xs)∧xs.length<sizeLine∧Q .non (upd H l (.lst (xs++[y])))
theorem zx3:MtM X "list.append" rAppend:=by
 intro pins s σ H x vs v us Q I rx rv h
 obtain⟨l,xs,y,rfl,rfl,hH,hz,q⟩:=h
 cases rx
 obtain⟨u,rfl,ru⟩:=rv.one
 obtain⟨z,its,n,r,hl,e⟩:=I.lstM hH
 refine call_meets F.slot_list_append ⟨_,e,rfl⟩ F.entry_list_append (F.args_list_append_2 _ _) (PySem.list_append l its.toArray n u (by rw [zbk0];lia)) ⟨e,?_⟩
 refine⟨.non,_,I.lset (its':=its++[u]) hH e (by simp) (r.append (.cons ru .nil)) ?_,rfl,q⟩
 rw [zbm4,zbq7]
 lia
noncomputable def rPopAt:V→List V→Hp→VK→Prop:=fun x vs H Q => ∃l xs i k y,x=.ref l∧vs=[.int i]∧H l=some (.lst xs) ∧ -(2 ^ 63)≤i∧i<2 ^ 63∧seqIndex? i xs.length=some k∧xs[k]?=some y∧Q y (upd H l (.lst (xs.eraseIdx k)))
theorem mt_popAt:MtM X "list.pop" rPopAt:=by
 intro pins s σ H x vs v us Q I rx rv h
 obtain⟨l,xs,i,k,y,rfl,rfl,hH,h1,h2,hk,hy,q⟩:=h
 cases rx
 obtain⟨u,rfl,ru⟩:=rv.one
 obtain⟨t,rfl⟩:=ru
 obtain⟨z,its,n,r,hl,e⟩:=I.lstM hH
 obtain⟨w,hw,rw'⟩:=r.get hy
 refine call_meets F.slot_list_pop ⟨_,e,rfl⟩ F.entry_list_pop (F.args_list_pop_2 _ _)
  (MeetsSeq.list_pop_at l its.toArray n i t k w (fitsIndex_both h1 h2) (by rw [zbk0, ← hl];exact hk) (by rw [← zbl6];exact hw) (by rw [zbk0];lia)) ⟨e,?_⟩
 refine⟨y,_,I.lset (its':=its.eraseIdx k) hH e ?_ (r.eraseIdx k) ?_,rw',q⟩
 ·show its.toArray.eraseIdxIfInBounds k=(its.eraseIdx k).toArray
  rw [List.eraseIdxIfInBounds_toArray]
 ·have:=zai7 xs k
  lia
noncomputable def rRep:R2:=fun x y H Q => ∃l k xs,x=.ref l∧y=.int k∧H l=some (.lst xs) ∧ -(2 ^ 63)≤k∧k<2 ^ 63∧xs.length*k.toNat≤sizeLine ∧
 ∀p,H p=none→Q (.ref p) (upd H p (.lst (zbk7 k.toNat xs).flatten))
theorem len_rep {α:Type} (xs:List α) (k:Nat):(zbk7 k xs).flatten.length=k*xs.length:=by
 induction k with
 |zero=>simp
 |succ k ih=>rw [zbn7,zbr3,zbm4,ih,Nat.succ_mul,Nat.add_comm]
theorem op_rep:OpR X (binaryOp .Mult) rRep:=by
 intro pins s σ H x y v u Q I rx ry h
 obtain⟨l,k,xs,rfl,rfl,hH,h1,h2,hz,q⟩:=h
 cases rx
 obtain⟨t,rfl⟩:=ry
 obtain⟨z,its,n,r,hl,e⟩:=I.lstM hH
 have hlen:its.toArray.size*k.toNat≤sizeLine:=by rw [zbk0, ← hl];exact hz
 have hcap : ¬ its.toArray.size*k.toNat >(2 ^ 63 - 1) / 8:=by
  have:(sizeLine:Nat)≤(2 ^ 63 - 1) / 8:=by decide
  lia
 have hfit : ¬ (!Builtin.List.listFitsIndex k)=true:=by
  rw [fitsIndex_both h1 h2]
  exact zbk4
 have hlong : ¬ Builtin.List.listTooLong (its.toArray.size*k.toNat)=true:=by
  rw [notLongL hlen]
  exact zbk4
 have hnew:zcd9 (fun x1 x2=>x1++x2) #[] (zbk7 (if its.toArray.isEmpty=true then 0 else k.toNat) its.toArray)=(zbk7 k.toNat its).flatten.toArray:=by
  have f0:∀m:Nat,zcd9 (fun x1 x2=>x1++x2) #[] (zbk7 m its.toArray)=(zbk7 m its).flatten.toArray:=fun m=>by
   have:=zaj1 its m []
   rw [List.nil_append]at this
   exact this
  rw [f0]
  cases its with
  |nil=>simp
  |cons a r'=>rw [if_neg (by simp)]
 refine wpAny_binaryOp_repeat_ref (T := "list") (U := "int") (by decide) ⟨_,e,rfl⟩ (fun s'=>typeIs_int s' k t) noFill_list_mul F.fills_int_mul F.slot_int_rmul repeat_list F.slot_int_index.lookup
  (call_meets F.slot_int_rmul (typeIs_int s k t) F.entry_int_rmul (F.args_int_rmul_2 _ _) (int___rmul___int_list k t l its.toArray n)
   ⟨e,rfl,⟨_,e,rfl⟩,call_meets F.slot_list_mul ⟨_,e,rfl⟩ F.entry_list_mul (F.args_list_mul_2 _ _) (AutoListH.list___mul___list_int_3 l its.toArray n k t hfit hcap hlong) ⟨e,?_⟩⟩)
 rw [hnew]
 exact⟨.ref _,_,I.lnew (t':=s.toks) (r.rep k.toNat) (by rw [len_rep,Nat.mul_comm];exact hz),rfl,q _ I.fresh⟩
end
end L2
namespace Att
open PySem.W PySem.Calls
theorem zy0 {P:Params}{h:Heap}:∀(ns:List Int) (vs:List Value),WellAll P h vs (ns.map WData.int)→IntsAre vs ns:=by
 intro ns
 induction ns with
 |nil =>
  intro vs w
  rw [zbx3]at w
  cases w
  exact .nil
 |cons n ns ih =>
  intro vs w
  rw [zbk5]at w
  cases w with
  |cons a b =>
   cases a
   exact .cons _ _ (ih _ b)
theorem script_of {l:OpenLaw}{n:Nat} (hn:l.most=some n) {P:Params}{h:Heap}{args:List WData}{vals:List Value}
  (hpre:l.row.toRowW.claim.pre args=true) (hwl:WellAll P h vals args) :
  ∃a vs ns,vals=[Value.ref a]∧args=[WData.list (ns.map WData.int)]∧h.get? a=some { cls:=.type "list",data:=.seq vs.toArray }∧IntsAre vs ns∧ns.length≤n:=by
 have hsh:WShape.hasAll [] args [.list .int]=true:=(pre_splitW hpre).1
 have hc:l.pre.holds [] { args:=args }=true:=(pre_splitW hpre).2
 obtain⟨d,r,rfl,h1,h2⟩:=hasAllW_cons hsh
 obtain rfl:=hasAllW_nil h2
 obtain⟨xs,rfl,h3⟩:=hasW_list h1
 obtain⟨ns,rfl⟩:=items_int h3
 have hlen:ns.length≤n:=by
  unfold OpenLaw.pre at hc
  have h4:(WTm.not (.lt (.lit (.int (n:Int))) (.len (.arg 0)))).holds [] { args:=[.list (ns.map .int)] }=true:=by
   have h4:=(holds_andW hc).1
   rw [hn]at h4
   exact h4
  have h5:=condW_of h4 (w_not (w_lt w_lit (w_len_list (w_arg rfl))))
  rw [zbk3]at h5
  refine Nat.le_of_not_lt fun q=>?_
  have q':(n:Int)<((ns.length:Nat):Int):=by lia
  first
   |(rw [decide_eq_true q']at h5;exact absurd h5 (by decide))
   |(simp at h5;lia)
 cases hwl with
 |cons w1 w2 =>
  cases w2
  cases w1 with
  |list ho hall=>exact⟨_,_,ns,rfl,rfl,ho,zy0 ns _ hall,hlen⟩
theorem post_true (l:OpenLaw) (args:List WData):l.row.toRowW.claim.post args (.bool true) args=true :=
 postW_of (r:=l.row.toRowW) (X:=(true == true))
  (show WShape.has [] (.bool true) .bool=true by first | rfl | decide | simp [WShape.has,WShape.arms,WShape.armsAll])
  (show (WTm.eq .res (.lit (.bool true))).value [] { args:=args,res:=some (.bool true),after:=args }=some (.bool (true == true)) from w_eq_bool (w_res rfl) w_lit) rfl
end Att
namespace L2
open PySem.Spec
theorem zv9:∀ {vs:List Value}{ns:List Int},IntsAre vs ns→Vals (ns.map V.int) vs
 |_,_,.nil=>.nil
 |_,_,.cons n t h=>.cons ⟨t,rfl⟩ (zv9 h)
noncomputable def zl5 (s:Stmt):Arguments:=match s with
 |.FunctionDef _ a _ _ _ _ _ _ _ _=>a
 |_=>{ posonlyargs:=[],args:=[],vararg:=none,kwonlyargs:=[],kw_defaults:=[],kwarg:=none,defaults:=[] }
def zj1 (s:Stmt):List Stmt:=match s with
 |.FunctionDef _ _ b _ _ _ _ _ _ _=>b
 |_=>[]
noncomputable def zb8 (s:Stmt):Scope:=match s with
 |.FunctionDef _ _ _ _ _ _ sc _ _ _=>sc
 |_=>{ kind:=.function,names:=[],isGenerator:=false,isCoroutine:=false }
abbrev CX0:CXT:=fun _ _ _ _ _ _=>False
abbrev E0:XK:=fun _ _ _=>False
theorem pass0 {X:Cx}:zbi3 CX0 X E0:=fun _ _ _ _ _ _ _ h=>h.elim
structure Fun (K:zbi5) (x qual:Str) (st:Stmt) (f:Addr) (fd:FuncData):Prop where
 ex:∃(oc:Value) (od:Option Addr) (kV doc pm:Value) (an:Option Addr) (cdv ct:Value) (osl:Array (Option Value)),
  fd=zbo8 x qual (zl5 st) (zj1 st) (zb8 st) .none kV doc pm an cdv ct∧K.lookup f=some ⟨oc,od,.func fd,osl⟩∧zbv1 K cdv qual=true
 kp:zbo3 K (.ref f)=true
section
variable {P:Program}{w:World}{K:zbi5}{mg:Str→Option Value}{base:BHeap}
theorem Fun.ok {x qual:Str}{st:Stmt}{f:Addr}{fd:FuncData}{N ps:List Str}{k:Nat}{sp:Sp} (F:Fun K x qual st f fd) (S:FnScope N ps (zb8 st)) (len:∀vs H Q E,sp vs H Q E→vs.length=ps.length)
  (hbody:∀(cdv:Value) (A:Around) (outer:List Env) (s:zbj7) (H:Hp) (vs:List V) (Q:VK) (E:XK),Room k (A.deeper (envOfC qual (zb8 st) s.heap.objs.size f cdv))→sp vs H Q E →
   ∃t,PSs (cxOf CX0 P w K mg base N qual (zb8 st) f cdv A outer s H E).nox (zj1 st) t∧t { nx:=fun _ H'=>Q .non H',rt:=Q } (start N vs) H):FnOk P w K mg base CX0 (k+1) f fd ps sp:=by
 obtain⟨oc,od,kV,doc,pm,an,cdv,ct,osl,rfl,lk,hcd⟩:=F.ex
 refine fn_of lk hcd S len fun A outer s H vs Q E hr hsp=>?_
 obtain⟨t,h,q⟩:=hbody cdv A outer s H vs Q E hr hsp
 exact⟨t,h.nox,q⟩
theorem Fun.binds {x qual:Str}{st:Stmt}{f:Addr}{fd:FuncData}{ps:List Str} (F:Fun K x qual st f fd)
  (h:∀(kV doc pm:Value) (an:Option Addr) (cdv ct:Value) (us:List Value),us.length=ps.length→bindArgs (zbo8 x qual (zl5 st) (zj1 st) (zb8 st) .none kV doc pm an cdv ct) ⟨us,[]⟩=pure (ps.zip us)):Binds K fd ps []:=by
 obtain⟨oc,od,kV,doc,pm,an,cdv,ct,osl,rfl,lk,hcd⟩:=F.ex
 exact .all (h kV doc pm an cdv ct)
theorem fun_mk {x qual:Str}{st:Stmt}{f:Addr}{oc:Value}{od an:Option Addr}{osl:Array (Option Value)}{kV doc pm cdv ct:Value} (l:K.lookup f=some ⟨oc,od,.func (zbo8 x qual (zl5 st) (zj1 st) (zb8 st) .none kV doc pm an cdv ct),osl⟩)
  (c:zbv1 K cdv qual=true) (k:zbo3 K (.ref f)=true):Fun K x qual st f (zbo8 x qual (zl5 st) (zj1 st) (zb8 st) .none kV doc pm an cdv ct):=⟨⟨oc,od,kV,doc,pm,an,cdv,ct,osl,rfl,l,c⟩,k⟩
end
theorem iteF {A B:Prop} (h:B):if false=true then A else B:=by
 rw [if_neg zbk4]
 exact h
theorem iteT {A B:Prop} (h:A):if true=true then A else B:=by
 rw [if_pos rfl]
 exact h
def Same (H H':Hp):Prop := ∀b o,H b=some o→H' b=some o
theorem Same.refl (H:Hp):Same H H:=fun _ _ h=>h
theorem Same.trans {H H1 H2:Hp} (a:Same H H1) (b:Same H1 H2):Same H H2:=fun c o h=>b c o (a c o h)
theorem Same.free {H H':Hp} (e:Same H H') {l:Addr} (h:H' l=Option.none):H l=Option.none:=by
 cases q:H l with
 |none=>rfl
 |some o =>
  rw [e l o q]at h
  cases h
theorem Same.seq {K:zbi5}{H H':Hp}{a:Addr}{xs:List V} (e:Same H H') (h:SqL K H a xs):SqL K H' a xs:=by
 rcases h with (h | ⟨o,h⟩) |h
 ·exact .inl (.inl (e _ _ h))
 ·exact .inl (.inr ⟨o,e _ _ h⟩)
 ·exact .inr h
end L2
set_option maxHeartbeats 4000000
namespace L2
open PySem.Spec
section
variable {κ:Type} [DecidableEq κ]
def valV (kvs:List (κ×V)) (k:κ):Option V:=(kvs.find? fun kv=>decide (kv.1=k)).map (·.2)
noncomputable def putK (kvs:List (κ×V)) (k:κ) (v:V):List (κ×V) :=
 if (kvs.any fun kv=>decide (kv.1=k))=true then kvs.map (fun kv=>if kv.1=k then (kv.1,v) else kv) else kvs++[(k,v)]
def dropK (kvs:List (κ×V)) (k:κ):List (κ×V):=kvs.filter fun kv=>decide (kv.1≠k)
theorem zac3 {p:κ×V}{r:List (κ×V)}{k:κ} (e:p.1=k):valV (p::r) k=some p.2:=by simp [valV,zbr0,e]
theorem zac4 {p:κ×V}{r:List (κ×V)}{k:κ} (e : ¬ p.1=k):valV (p::r) k=valV r k:=by simp [valV,zbr0,e]
theorem zap0 (k:κ):∀kvs:List (κ×V),(kvs.any fun kv=>decide (kv.1=k))=(valV kvs k).isSome
 |[]=>rfl
 |p::r=>by
  rw [zbp0]
  by_cases e:p.1=k
  ·simp only [zac3 e,decide_eq_true e,zbt2,zby2]
  ·rw [zac4 e,decide_eq_false e,zby5];exact zap0 k r
theorem zx5 (kvs:List (κ×V)) (k:κ) (v:V):(putK kvs k v).length≤kvs.length+1:=by
 unfold putK
 split
 ·rw [zbk3];lia
 ·rw [zbm4,zbm5,zbu5];lia
theorem RelO.isSome_eq {o:Option V}{u:Option Value} (r:RelO o u):o.isSome=u.isSome:=by
 cases o with
 |none=>cases u with
  |none=>rfl
  |some _=>exact (show False from r).elim
 |some _=>cases u with
  |none=>exact (show False from r).elim
  |some _=>rfl
theorem RelO.getD {o:Option V}{u:Option Value}{d:V}{d':Value} (r:RelO o u) (rd:RelV d d'):RelV (o.getD d) (u.getD d'):=by
 cases o with
 |none=>cases u with
  |none=>exact rd
  |some _=>exact (show False from r).elim
 |some _=>cases u with
  |none=>exact (show False from r).elim
  |some _=>exact r
theorem KV.val {kvs:List (κ×V)}{vs:List (κ×Value)} (r:KV kvs vs) (k:κ):RelO (valV kvs k) (valueAt vs k):=by
 unfold KV at r
 induction r with
 |nil=>exact True.intro
 |@cons p q ps qs h t ih =>
  obtain⟨h1,h2⟩:=h
  by_cases e:p.1=k
  ·have e':q.1=k:=h1.symm.trans e
   have b:valueAt (q::qs) k=some q.2:=by simp [valueAt,zbr0,e']
   rw [zac3 e,b];exact h2
  ·have e' : ¬ q.1=k:=fun z=>e (h1.trans z)
   have b:valueAt (q::qs) k=valueAt qs k:=by simp [valueAt,zbr0,e']
   rw [zac4 e,b];exact ih
theorem KV.any {kvs:List (κ×V)}{vs:List (κ×Value)} (r:KV kvs vs) (k:κ):(kvs.any fun kv=>decide (kv.1=k))=vs.any fun kv=>decide (kv.1=k):=by
 unfold KV at r
 induction r with
 |nil=>rfl
 |cons h t ih=>rw [zbp0,zbp0,ih,h.1]
theorem KV.repl {kvs:List (κ×V)}{vs:List (κ×Value)} (r:KV kvs vs) (k:κ) {y:V}{u:Value} (ry:RelV y u) :
  KV (kvs.map fun kv=>if kv.1=k then (kv.1,y) else kv) (vs.map fun kv=>if kv.1=k then (kv.1,u) else kv):=by
 unfold KV at r ⊢
 induction r with
 |nil=>exact .nil
 |@cons p q ps qs h t ih =>
  rw [zbk5,zbk5]
  refine .cons ?_ ih
  obtain⟨h1,h2⟩:=h
  by_cases e:p.1=k
  ·rw [if_pos e,if_pos (h1.symm.trans e)];exact⟨h1,ry⟩
  ·rw [if_neg e,if_neg (fun z=>e (h1.trans z))];exact⟨h1,h2⟩
theorem KV.put {kvs:List (κ×V)}{vs:List (κ×Value)} (r:KV kvs vs) (k:κ) {y:V}{u:Value} (ry:RelV y u):KV (putK kvs k y) (stored vs k u):=by
 unfold putK stored
 rw [r.any k]
 by_cases e:(vs.any fun kv=>decide (kv.1=k))=true
 ·rw [if_pos e,if_pos e];exact r.repl k ry
 ·rw [if_neg e,if_neg e];exact Paired.snoc r ⟨rfl,ry⟩
theorem KV.drop {kvs:List (κ×V)}{vs:List (κ×Value)} (r:KV kvs vs) (k:κ):KV (dropK kvs k) (without vs k):=by
 unfold KV at r ⊢
 unfold dropK without
 induction r with
 |nil=>exact .nil
 |@cons p q ps qs h t ih =>
  obtain⟨h1,h2⟩:=h
  rw [zbt3,zbt3]
  by_cases e:p.1=k
  ·have a : ¬ decide (p.1≠k)=true:=by simp [e]
   have b : ¬ decide (q.1≠k)=true:=by simp [h1.symm.trans e]
   rw [if_neg a,if_neg b];exact ih
  ·have e' : ¬ q.1=k:=fun z=>e (h1.trans z)
   have a:decide (p.1≠k)=true:=by simp [e]
   have b:decide (q.1≠k)=true:=by simp [e']
   rw [if_pos a,if_pos b];exact .cons ⟨h1,h2⟩ ih
theorem KV.length {kvs:List (κ×V)}{vs:List (κ×Value)} (r:KV kvs vs):kvs.length=vs.length:=Paired.length r
end
theorem kV_is {P:Program}{w:World}{k:Key}{u:Value} (r:RelV (kV k) u):(zg6 P w).is k u=true:=by
 cases k with
 |inl i=>obtain⟨t,e⟩:=(show ∃t,u=Value.int i t from r);subst e;exact zam6 P w i t
 |inr x=>obtain⟨t,e⟩:=(show ∃t,u=Value.str x t from r);subst e;exact zam5 P w x t
theorem zai9 {P:Program}{w:World}:∀ {ks:List Key}{us:List Value},Vals (ks.map kV) us→ItemsAre (zg6 P w) ks us
 |[],_,r=>by rw [zbx3]at r;cases r;exact .nil
 |k::ks,_,r=>by
  rw [zbk5]at r
  cases r with
  |cons h t=>exact .cons (kV_is h) (zai9 t)
noncomputable abbrev KT (H:Hp):List (List Key×V)→List (List Key×Addr×Value)→Prop:=Paired fun p q=>p.1=q.1∧H q.2.1=some (.tup (p.1.map kV))∧RelV p.2 q.2.2
theorem KT.val {H:Hp}{kvs:List (List Key×V)}{xs:List (List Key×Addr×Value)} (r:KT H kvs xs) (k:List Key):RelO (valV kvs k) ((atKey xs k).map (·.2)):=by
 induction r with
 |nil=>exact True.intro
 |@cons p q ps qs h t ih =>
  obtain⟨h1,_,h2⟩:=h
  by_cases e:p.1=k
  ·have e':q.1=k:=h1.symm.trans e
   have b:atKey (q::qs) k=some q.2:=by simp [atKey,zbr0,e']
   rw [zac3 e,b];exact h2
  ·have e' : ¬ q.1=k:=fun z=>e (h1.trans z)
   have b:atKey (q::qs) k=atKey qs k:=by simp [atKey,zbr0,e']
   rw [zac4 e,b];exact ih
theorem KT.repl {H:Hp}{kvs:List (List Key×V)}{xs:List (List Key×Addr×Value)} (r:KT H kvs xs) (k:List Key) {y:V}{u:Value} (ry:RelV y u) :
  KT H (kvs.map fun kv=>if kv.1=k then (kv.1,y) else kv) (xs.map (putAt k u)):=by
 induction r with
 |nil=>exact .nil
 |@cons p q ps qs h t ih =>
  rw [zbk5,zbk5]
  refine .cons ?_ ih
  obtain⟨h1,h2,h3⟩:=h
  unfold putAt
  by_cases e:p.1=k
  ·rw [if_pos e,if_pos (h1.symm.trans e)];exact⟨h1,h2,ry⟩
  ·rw [if_neg e,if_neg (fun z=>e (h1.trans z))];exact⟨h1,h2,h3⟩
theorem KT.put {H:Hp}{kvs:List (List Key×V)}{xs:List (List Key×Addr×Value)} (r:KT H kvs xs) (k:List Key) {b:Addr}{y:V}{u:Value} (hb:H b=some (.tup (k.map kV))) (ry:RelV y u) :
  KT H (putK kvs k y) (storedH xs k b u):=by
 have e:(kvs.any fun kv=>decide (kv.1=k))=(atKey xs k).isSome:=by
  rw [zap0,(r.val k).isSome_eq,Option.isSome_map]
 unfold putK storedH
 rw [e]
 by_cases q:(atKey xs k).isSome=true
 ·rw [if_pos q,if_pos q];exact r.repl k ry
 ·rw [if_neg q,if_neg q];exact Paired.snoc r ⟨rfl,hb,ry⟩
theorem KT.keeps {H H':Hp}{kvs:List (List Key×V)}{xs:List (List Key×Addr×Value)} (r:KT H kvs xs) (ht:∀b ys,H b=some (.tup ys)→H' b=some (.tup ys)):KT H' kvs xs :=
 Paired.mapP r fun _ _ z=>⟨z.1,ht _ _ z.2.1,z.2.2⟩
section
variable {P:Program}{w:World}{H:Hp}{h:Heap}{a:Addr}
theorem rd_of {u:HO} (ok:HOk P w H h) (e:Rd H a u):ObjOk P w H h a u:=e.ok ok
theorem dk_rd {kvs:List (Key×V)} (ok:HOk P w H h) (e:Rd H a (.dK kvs)):kvs.length≤sizeLine∧(a == sysModules)=false∧∃vs,KV kvs vs∧h.DictOf (zg6 P w) a vs :=
 show ObjOk P w H h a (.dK kvs) from rd_of ok e
theorem dk_of {kvs:List (Key×V)} (ok:HOk P w H h) (e:H a=some (.dK kvs)):kvs.length≤sizeLine∧(a == sysModules)=false∧∃vs,KV kvs vs∧h.DictOf (zg6 P w) a vs:=dk_rd ok (.inl e)
theorem key_of {ks:List Key} (ok:HOk P w H h) (e:H a=some (.tup (ks.map kV))):(tupleKind (zg6 P w)).is h ks a:=by
 obtain⟨_,its,r,o,h1,h2,n,h3⟩:=(show ObjOk P w H h a (.tup (ks.map kV)) from ok a _ e)
 exact⟨o,its.toArray,n,h1,h2,h3,by simpa using zai9 r⟩
theorem dt_rd {kvs:List (List Key×V)} (ok:HOk P w H h) (e:Rd H a (.dT kvs)):kvs.length≤sizeLine∧(a == sysModules)=false ∧
  ∃xs,KT H kvs xs∧h.DictOfH (tupleKind (zg6 P w)) a xs:=by
 obtain⟨z,y,xs,r,o,es,ep,h1,h2,h3,h4,h5⟩:=(show ObjOk P w H h a (.dT kvs) from rd_of ok e)
 refine⟨z,y,xs,r,o,es,ep,h1,h2,h3,h4,fun x hx=>?_,h5⟩
 have all:∀ {l:List (List Key×V)}{m:List (List Key×Addr×Value)},KT H l m→∀x∈m,(tupleKind (zg6 P w)).is h x.1 x.2.1:=by
  intro l m q
  induction q with
  |nil=>intro x hx;exact nomatch hx
  |@cons p q ps qs hq t ih =>
   intro x hx
   rcases zbj4.mp hx with e | hx
   ·subst e
    exact key_of ok (by rw [← hq.1];exact hq.2.1)
   ·exact ih x hx
 exact all r x hx
theorem dt_of {kvs:List (List Key×V)} (ok:HOk P w H h) (e:H a=some (.dT kvs)):kvs.length≤sizeLine∧(a == sysModules)=false ∧
  ∃xs,KT H kvs xs∧h.DictOfH (tupleKind (zg6 P w)) a xs:=dt_rd ok (.inl e)
end
noncomputable def DPut (H:Hp) (a:Addr) (y v:V) (H':Hp):Prop :=
 (∃kvs k,H a=some (.dK kvs)∧y=kV k∧kvs.length<sizeLine∧H'=upd H a (.dK (putK kvs k v))) ∨
 ∃kvs k b,H a=some (.dT kvs)∧y=.ref b∧H b=some (.tup (k.map kV))∧kvs.length<sizeLine∧H'=upd H a (.dT (putK kvs k v))
theorem DPut.t {H:Hp}{a b:Addr}{kvs:List (List Key×V)}{k:List Key}{v:V} (e:H a=some (.dT kvs)) (eb:H b=some (.tup (k.map kV))) (hl:kvs.length<sizeLine) :
  DPut H a (.ref b) v (upd H a (.dT (putK kvs k v))):=.inr ⟨kvs,k,b,e,rfl,eb,hl,rfl⟩
section
variable {X:Cx}{pins:List (Addr×Obj)}{σ:St}{H:Hp}{s:zbj7}{a:Addr}{y v:V}{u r:Value}{o:Option V}{A:Around}{E:Value→zbj7→Prop}
theorem Inv.big (I:Inv X pins σ H s):sysModules<s.heap.objs.size:=by
 have h:mainGlobals<s.heap.objs.size:=(I.mod.glob.keeps I.bk).lt
 exact zbv2 (by decide) h
theorem zbe6 {h':Heap}{t':Nat}{ob:HO} (I:Inv X pins σ H s) (mu:Mut (H a)) (hs:Heap.SameBut a s.heap h') (he:∃q,h'.get? a=some q) (new:ObjOk X.prog X.w (upd H a ob) h' a ob) :
  Inv X pins σ (upd H a ob) { s with heap:=h',toks:=t' } :=
 I.write (x:=a) (e:=a) mu (.inl rfl) (fun b q hb z=>(hs.2 b hb).trans z) he new
theorem dk_new {P:Program}{w:World}{H':Hp}{h':Heap}{kvs:List (Key×V)}{vs:List (Key×Value)} (z:kvs.length≤sizeLine) (hd:(a == sysModules)=false) (rel:KV kvs vs) (dd:h'.DictOf (zg6 P w) a vs) :
  ObjOk P w H' h' a (.dK kvs):=⟨z,hd,vs,rel,dd⟩
theorem zbe7 {H':Hp}{Q:Unit→zbj7→Prop} (hu:A.units+1<cLine) (I:Inv X pins σ H s) (g:DPut H a y v H') (ry:RelV y u) (rv:RelV v r) (h:∀s',Inv X pins σ H' s'→Q () s') :
  wpAny (model X.prog X.w) A (setItem (.ref a) u r) Q E s:=by
 rcases g with ⟨kvs,k,e,ey,l,eH⟩ | ⟨kvs,k,b,e,ey,eb,l,eH⟩
 ·subst ey eH
  obtain⟨z,hd,vs,rel,dd⟩:=dk_of I.hok e
  have hz:vs.length≤sizeLine:=by rw [← rel.length];exact z
  have hl:(putK kvs k v).length≤sizeLine:=by have:=zx5 kvs k v;lia
  refine wpAny_setItem_pairs (hsz:=hz) (kV_is ry) dd fun h' dd' hs=>h _ ?_
  have he:∃q,h'.get? a=some q:=let ⟨q,_,_,hq,_⟩:=dd';⟨q,hq⟩
  exact zbe6 I (by rw [e];exact True.intro) hs he (dk_new hl hd (rel.put k rv) dd')
 ·subst ey eH
  cases (show u=Value.ref b from ry)
  obtain⟨z,hd,xs,rel,dd⟩:=dt_of I.hok e
  have hz:xs.length≤sizeLine:=by rw [← Paired.length rel];exact z
  have hl:(putK kvs k v).length≤sizeLine:=by have:=zx5 kvs k v;lia
  refine wpAny_setItem_heap (hsz:=hz) (tupleKind_room_in1 hu) (key_of I.hok eb) dd fun h' dd' hs=>h _ ?_
  obtain⟨q,es,ep,hq,h2,h3,h4,_,h5⟩:=dd'
  refine zbe6 I (by rw [e];exact True.intro) hs ⟨q,hq⟩ ⟨hl,hd,_,(rel.put k eb rv).keeps fun c ys ec=>?_,q,es,ep,hq,h2,h3,h4,h5⟩
  rw [zd3 (ne_of ec e (fun z=>nomatch z))]
  exact ec
end
noncomputable def sDPut (td ty tv:TE):TS:=fun D σ H=>tv σ H fun v H1=>td σ H1 fun x H2=>ty σ H2 fun y H3 => ∃a H4,x=.ref a∧DPut H3 a y v H4∧D.nx σ H4
section
variable {X:Cx}{o i e value:Expr}{pos pos' tpos:Pos}{td ty tv:TE}
theorem ps_dput (hu:X.A.units+1<cLine) (ho:PE X o td) (hi:PE X i ty) (hv:PE X value tv) (hs:swapsWith value (some (.Subscript o i pos')) pos.line X.env=pure false) :
  PS X (.Assign [.Subscript o i pos'] value pos) (sDPut td ty tv):=by
 intro pins s σ H D I h
 refine wpAny_Assign_Subscript (thn (hv pins s σ H _ I h) fun r s1 ⟨v,H1,I1,rv,q1⟩=>thn (ho pins s1 σ H1 _ I1 q1) fun u s2 ⟨x,H2,I2,rx,q2⟩=>thn (hi pins s2 σ H2 _ I2 q2) fun iv s3 ⟨y,H3,I3,ry,a,H4,ex,g,q3⟩=>?_) hs
 subst ex
 obtain rfl:u=Value.ref a:=rx
 exact zbe7 hu I3 g ry rv fun s4 I4=>⟨σ,H4,I4,q3⟩
end
theorem dt_empty {P:Program}{w:World}{H:Hp} (h:Heap) (hb:sysModules<h.objs.size):ObjOk P w H (h.push { cls:=.type "dict",data:=.dict #[] }) h.objs.size (.dT []) :=
 ⟨zbq5 _,beq_eq_false_iff_ne.mpr (Ne.symm (zbl3 hb)),[],.nil,_, #[],0,zbj9 _ rfl,⟨rfl,rfl,rfl⟩,rfl,rfl,zbo5⟩
def tDNewT:TE:=fun _ H Q => ∀p,H p=none→Q (.ref p) (upd H p (.dT []))
section
variable {X:Cx}{pos:Pos}
theorem pe_dnewT:PE X (.Dict [] [] pos) tDNewT:=fun pins s σ H Q I h =>
 wpAny_Dict_empty ⟨.ref s.heap.objs.size,_,I.laid (a:=s.heap.objs.size) (o:=.dT []) (t':=s.toks) (fun _ _ q=>zbj0 _ q) (zbk1 _) (dt_empty s.heap I.big),rfl,h _ (I.hok.fresh (zbk1 _))⟩
end
structure M1 (X:Cx) (o:Expr) (m:Str) (apos:Pos) (e:Expr) (cpos:Pos):Prop where
 base:attributeBase o m X.env (eval o X.env)=eval o X.env
 few:((zbq3 cpos (zbk2 [e] X.env)).all (fun x=>!x.1)&&(backToKw cpos (keywordEach [] X.env)).all (fun x=>x.1.isSome)
  && decide (([e]:List Expr).length+([]:List Keyword).length+(if ([]:List Keyword).isEmpty then 0 else 1)<30))=true
 line:(apos.endLine == cpos.line)=true
 trees:zbq3 cpos (zbk2 [e] X.env)=[(false,eval e X.env)]
structure M2 (X:Cx) (o:Expr) (m:Str) (apos:Pos) (e f:Expr) (cpos:Pos):Prop where
 base:attributeBase o m X.env (eval o X.env)=eval o X.env
 few:((zbq3 cpos (zbk2 [e,f] X.env)).all (fun x=>!x.1)&&(backToKw cpos (keywordEach [] X.env)).all (fun x=>x.1.isSome)
  && decide (([e,f]:List Expr).length+([]:List Keyword).length+(if ([]:List Keyword).isEmpty then 0 else 1)<30))=true
 line:(apos.endLine == cpos.line)=true
 trees:zbq3 cpos (zbk2 [e,f] X.env)=[(false,eval e X.env),(false,eval f X.env)]
end L2
namespace DL
open PySem.Spec L2
inductive D where
 |non | bl (b:Bool) |int (i:Int) |str (x:Str) |tup (xs:List D) |lst (xs:List D) |dct (ks:List Key) (ds:List D) |pdc (ps:List (Int×Int))
def mkKV (ks:List Key) (vs:List V):List (Key×V):=ks.zip vs
def pkv (ps:List (Int×Int)):List (List Key×V):=ps.map fun q=>([Sum.inl q.1,Sum.inl q.2],V.bl true)
mutual
inductive Rep (K:zbi5) (H:Hp):D→V→Prop
 |non:Rep K H .non .non
 |bl (b:Bool):Rep K H (.bl b) (.bl b)
 |int (i:Int):Rep K H (.int i) (.int i)
 |str (x:Str):Rep K H (.str x) (.str x)
 |tup {ds:List D}{p:Addr}{vs:List V}:SqT K H p vs→Reps K H ds vs→Rep K H (.tup ds) (.ref p)
 |lst {ds:List D}{p:Addr}{vs:List V}:SqL K H p vs→Reps K H ds vs→Rep K H (.lst ds) (.ref p)
 |dct {ks:List Key}{ds:List D}{p:Addr}{vs:List V}:ks.length=vs.length→H p=some (.dK (mkKV ks vs))→Reps K H ds vs→Rep K H (.dct ks ds) (.ref p)
 |pdc {ps:List (Int×Int)}{p:Addr}:H p=some (.dT (pkv ps))→Rep K H (.pdc ps) (.ref p)
inductive Reps (K:zbi5) (H:Hp):List D→List V→Prop
 |nil:Reps K H [] []
 |cons {d:D}{v:V}{ds:List D}{vs:List V}:Rep K H d v→Reps K H ds vs→Reps K H (d::ds) (v::vs)
end
theorem SqL.mono {K:zbi5}{H H':Hp}{a:Addr}{xs:List V} (e:Same H H') (h:SqL K H a xs):SqL K H' a xs:=e.seq h
theorem SqT.mono {K:zbi5}{H H':Hp}{a:Addr}{xs:List V} (e:Same H H') (h:SqT K H a xs):SqT K H' a xs:=by
 rcases h with (h | ⟨o,h⟩) |h
 ·exact .inl (.inl (e _ _ h))
 ·exact .inl (.inr ⟨o,e _ _ h⟩)
 ·exact .inr h
mutual
theorem Rep.mono {K:zbi5}{H H':Hp} (e:Same H H'):∀ {d:D}{v:V},Rep K H d v→Rep K H' d v
 |_,_,.non=>.non
 |_,_,.bl b=>.bl b
 |_,_,.int i=>.int i
 |_,_,.str x=>.str x
 |_,_,.tup h r=>.tup (SqT.mono e h) (Reps.mono e r)
 |_,_,.lst h r=>.lst (SqL.mono e h) (Reps.mono e r)
 |_,_,.dct l h r=>.dct l (e _ _ h) (Reps.mono e r)
 |_,_,.pdc h=>.pdc (e _ _ h)
theorem Reps.mono {K:zbi5}{H H':Hp} (e:Same H H'):∀ {ds:List D}{vs:List V},Reps K H ds vs→Reps K H' ds vs
 |_,_,.nil=>.nil
 |_,_,.cons h r=>.cons (Rep.mono e h) (Reps.mono e r)
end
theorem Reps.length {K:zbi5}{H:Hp}:∀ {ds:List D}{vs:List V},Reps K H ds vs→vs.length=ds.length
 |_,_,.nil=>rfl
 |_,_,.cons _ r=>by simp [Reps.length r]
theorem Reps.get {K:zbi5}{H:Hp}:∀ {ds:List D}{vs:List V},Reps K H ds vs→∀ {i:Nat}{d:D},ds[i]?=some d→∃v,vs[i]?=some v∧Rep K H d v
 |_,_,.nil,i,d,e=>by simp at e
 |_,_,.cons (v:=v) h r,0,d,e=>by simp at e;subst e;exact⟨v,rfl,h⟩
 |_,_,.cons h r,i+1,d,e=>by
  obtain⟨v,a,b⟩:=Reps.get r (i:=i) (d:=d) (by simpa using e)
  exact⟨v,by simpa using a,b⟩
theorem Reps.getV {K:zbi5}{H:Hp}:∀ {ds:List D}{vs:List V},Reps K H ds vs→∀ {i:Nat}{v:V},vs[i]?=some v→∃d,ds[i]?=some d∧Rep K H d v
 |_,_,.nil,i,d,e=>by simp at e
 |_,_,.cons (d:=d) h r,0,v,e=>by simp at e;subst e;exact⟨d,rfl,h⟩
 |_,_,.cons h r,i+1,v,e=>by
  obtain⟨d,a,b⟩:=Reps.getV r (i:=i) (v:=v) (by simpa using e)
  exact⟨d,by simpa using a,b⟩
theorem Reps.app {K:zbi5}{H:Hp}:∀ {ds:List D}{vs:List V}{es:List D}{us:List V},Reps K H ds vs→Reps K H es us→Reps K H (ds++es) (vs++us)
 |_,_,_,_,.nil,r=>r
 |_,_,_,_,.cons h r,q=>.cons h (Reps.app r q)
theorem Reps.set {K:zbi5}{H:Hp}{d:D}{v:V} (h:Rep K H d v):∀ {ds:List D}{vs:List V} (i:Nat),Reps K H ds vs→Reps K H (ds.set i d) (vs.set i v)
 |_,_,_,.nil=>.nil
 |_,_,0,.cons _ r=>.cons h r
 |_,_,i+1,.cons q r=>.cons q (Reps.set h i r)
theorem Reps.take {K:zbi5}{H:Hp}:∀ {ds:List D}{vs:List V} (n:Nat),Reps K H ds vs→Reps K H (ds.take n) (vs.take n)
 |_,_,0,_=>by simp;exact .nil
 |_,_,n+1,.nil=>by simp;exact .nil
 |_,_,n+1,.cons h r=>by simpa using .cons h (Reps.take n r)
theorem Reps.drop {K:zbi5}{H:Hp}:∀ {ds:List D}{vs:List V} (n:Nat),Reps K H ds vs→Reps K H (ds.drop n) (vs.drop n)
 |_,_,0,r=>by simpa using r
 |_,_,n+1,.nil=>by simp;exact .nil
 |_,_,n+1,.cons h r=>by simpa using Reps.drop n r
theorem Reps.one {K:zbi5}{H:Hp}{d:D}{v:V} (h:Rep K H d v):Reps K H [d] [v]:=.cons h .nil
theorem Reps.ints {K:zbi5}{H:Hp}:∀ns:List Int,Reps K H (ns.map D.int) (ns.map V.int)
 |[]=>.nil
 |n::ns=>.cons (.int n) (Reps.ints ns)
mutual
def flat:D→Bool
 |.lst _=>false
 |.dct _ _=>false
 |.pdc _=>false
 |.tup xs=>zg9 xs
 |_=>true
def zg9:List D→Bool
 |[]=>true
 |d::ds=>flat d&&zg9 ds
end
def hide (P:List Addr) (H:Hp):Hp:=fun a=>if a∈P then none else H a
theorem zb0 (P:List Addr) (H:Hp):Same (hide P H) H:=fun b o e=>by
 unfold hide at e
 split at e
 ·cases e
 ·exact e
theorem zc7 {P:List Addr}{H:Hp}{a:Addr}{o:HO} (h:H a=some o) (n:a∉P):hide P H a=some o:=by
 unfold hide;rw [if_neg n];exact h
theorem zn2 {P:List Addr}{H:Hp}{a:Addr}{o:HO} (h:hide P H a=some o):a∉P∧H a=some o:=by
 unfold hide at h
 split at h
 ·cases h
 ·exact⟨by assumption,h⟩
theorem hide_nil (H:Hp):hide [] H=H:=by funext a;simp [hide]
theorem zb5 {P P':List Addr} (H:Hp) (h:∀a∈P',a∈P):Same (hide P H) (hide P' H):=fun b o e=>by
 obtain⟨n,e⟩:=zn2 e
 exact zc7 e fun z=>n (h b z)
def mutO:HO→Bool
 |.lst _=>true
 |.dK _=>true
 |.dT _=>true
 |_=>false
abbrev MO:={o:HO // mutO o=true}
def mL (vs:List V):MO:=⟨.lst vs,rfl⟩
def mD (kvs:List (Key×V)):MO:=⟨.dK kvs,rfl⟩
def mT (kvs:List (List Key×V)):MO:=⟨.dT kvs,rfl⟩
def Lists (H:Hp) (P:List Addr):Prop := ∀p∈P,∃o:MO,H p=some o.1
theorem Lists.mono {H H':Hp}{P:List Addr} (h:Lists H P) (e:Same H H'):Lists H' P:=fun p hp=>let ⟨vs,q⟩:=h p hp;⟨vs,e _ _ q⟩
theorem SqT.hid {K:zbi5}{H:Hp}{P:List Addr}{a:Addr}{xs:List V} (m:Lists H P) (h:SqT K H a xs):SqT K (hide P H) a xs:=by
 rcases h with (h | ⟨o,h⟩) |h
 ·exact .inl (.inl (zc7 h fun z=>by obtain⟨⟨vs,w⟩,q⟩:=m _ z;rw [q]at h;cases h;cases w))
 ·exact .inl (.inr ⟨o,zc7 h fun z=>by obtain⟨⟨vs,w⟩,q⟩:=m _ z;rw [q]at h;cases h;cases w⟩)
 ·exact .inr h
mutual
theorem Rep.hid {K:zbi5}{H:Hp}{P:List Addr} (m:Lists H P):∀ {d:D}{v:V},flat d=true→Rep K H d v→Rep K (hide P H) d v
 |_,_,_,.non=>.non
 |_,_,_,.bl b=>.bl b
 |_,_,_,.int i=>.int i
 |_,_,_,.str x=>.str x
 |_,_,f,.tup h r=>.tup (SqT.hid m h) (Reps.hid m (by simpa [flat] using f) r)
 |_,_,f,.lst h r=>by simp [flat]at f
 |_,_,f,.dct _ h r=>by simp [flat]at f
 |_,_,f,.pdc h=>by simp [flat]at f
theorem Reps.hid {K:zbi5}{H:Hp}{P:List Addr} (m:Lists H P):∀ {ds:List D}{vs:List V},zg9 ds=true→Reps K H ds vs→Reps K (hide P H) ds vs
 |_,_,_,.nil=>.nil
 |_,_,f,.cons h r=>by
  simp [zg9]at f
  exact .cons (Rep.hid m f.1 h) (Reps.hid m f.2 r)
end
mutual
inductive RepD (K:zbi5) (H0 H:Hp):D→V→List Addr→Prop
 |flat {d:D}{v:V}:flat d=true→Rep K H0 d v→RepD K H0 H d v []
 |tup {ds:List D}{p:Addr}{vs:List V}{B:List Addr}:SqT K H0 p vs→RepDs K H0 H ds vs B→RepD K H0 H (.tup ds) (.ref p) B
 |lst {ds:List D}{p:Addr}{vs:List V}{B:List Addr}:H p=some (.lst vs)→RepDs K H0 H ds vs B→RepD K H0 H (.lst ds) (.ref p) (p::B)
 |dct {ks:List Key}{ds:List D}{p:Addr}{vs:List V}{B:List Addr}:ks.length=vs.length→H p=some (.dK (mkKV ks vs))→RepDs K H0 H ds vs B→RepD K H0 H (.dct ks ds) (.ref p) (p::B)
 |pdc {ps:List (Int×Int)}{p:Addr}:H p=some (.dT (pkv ps))→RepD K H0 H (.pdc ps) (.ref p) [p]
inductive RepDs (K:zbi5) (H0 H:Hp):List D→List V→List Addr→Prop
 |nil:RepDs K H0 H [] [] []
 |cons {d:D}{v:V}{ds:List D}{vs:List V}{B C:List Addr}:RepD K H0 H d v B→RepDs K H0 H ds vs C→RepDs K H0 H (d::ds) (v::vs) (B++C)
end
mutual
theorem RepD.mono {K:zbi5}{H0 H H0' H':Hp} (e:Same H0 H0'):∀ {d:D}{v:V}{B:List Addr},RepD K H0 H d v B→(∀p∈B,∀o,H p=some o→H' p=some o)→RepD K H0' H' d v B
 |_,_,_,.flat f r,_=>.flat f (Rep.mono e r)
 |_,_,_,.tup h r,k=>.tup (SqT.mono e h) (RepDs.mono e r k)
 |_,_,_,.lst h r,k=>.lst (k _ (zbi9 ..) _ h) (RepDs.mono e r fun p hp=>k p (zbi6 _ hp))
 |_,_,_,.dct l h r,k=>.dct l (k _ (zbi9 ..) _ h) (RepDs.mono e r fun p hp=>k p (zbi6 _ hp))
 |_,_,_,.pdc h,k=>.pdc (k _ (zbi9 ..) _ h)
theorem RepDs.mono {K:zbi5}{H0 H H0' H':Hp} (e:Same H0 H0'):∀ {ds:List D}{vs:List V}{B:List Addr},RepDs K H0 H ds vs B→(∀p∈B,∀o,H p=some o→H' p=some o)→RepDs K H0' H' ds vs B
 |_,_,_,.nil,_=>.nil
 |_,_,_,.cons h r,k=>.cons (RepD.mono e h fun p hp=>k p (zbi7 _ hp)) (RepDs.mono e r fun p hp=>k p (zbi4 _ hp))
end
mutual
theorem RepD.rep {K:zbi5}{H0 H H1:Hp} (e:Same H0 H1):∀ {d:D}{v:V}{B:List Addr},RepD K H0 H d v B→(∀p∈B,∀o,H p=some o→H1 p=some o)→Rep K H1 d v
 |_,_,_,.flat f r,_=>Rep.mono e r
 |_,_,_,.tup h r,k=>.tup (SqT.mono e h) (RepDs.rep e r k)
 |_,_,_,.lst h r,k=>.lst (SqL.of (k _ (zbi9 ..) _ h)) (RepDs.rep e r fun p hp=>k p (zbi6 _ hp))
 |_,_,_,.dct l h r,k=>.dct l (k _ (zbi9 ..) _ h) (RepDs.rep e r fun p hp=>k p (zbi6 _ hp))
 |_,_,_,.pdc h,k=>.pdc (k _ (zbi9 ..) _ h)
theorem RepDs.rep {K:zbi5}{H0 H H1:Hp} (e:Same H0 H1):∀ {ds:List D}{vs:List V}{B:List Addr},RepDs K H0 H ds vs B→(∀p∈B,∀o,H p=some o→H1 p=some o)→Reps K H1 ds vs
 |_,_,_,.nil,_=>.nil
 |_,_,_,.cons h r,k=>.cons (RepD.rep e h fun p hp=>k p (zbi7 _ hp)) (RepDs.rep e r fun p hp=>k p (zbi4 _ hp))
end
mutual
theorem RepD.lists {K:zbi5}{H0 H:Hp}:∀ {d:D}{v:V}{B:List Addr},RepD K H0 H d v B→Lists H B
 |_,_,_,.flat f r=>fun p hp=>by cases hp
 |_,_,_,.tup h r=>RepDs.lists r
 |_,_,_,.lst h r=>fun p hp=>by
  rcases zbj4.mp hp with rfl | hp
  ·exact⟨mL _,h⟩
  ·exact RepDs.lists r p hp
 |_,_,_,.dct _ h r=>fun p hp=>by
  rcases zbj4.mp hp with rfl | hp
  ·exact⟨mD _,h⟩
  ·exact RepDs.lists r p hp
 |_,_,_,.pdc h=>fun p hp=>by
  rw [zbl4]at hp
  subst hp
  exact⟨mT _,h⟩
theorem RepDs.lists {K:zbi5}{H0 H:Hp}:∀ {ds:List D}{vs:List V}{B:List Addr},RepDs K H0 H ds vs B→Lists H B
 |_,_,_,.nil=>fun p hp=>by cases hp
 |_,_,_,.cons h r=>fun p hp=>(zbj2.mp hp).elim (RepD.lists h p) (RepDs.lists r p)
end
mutual
theorem RepD.hid {K:zbi5}{H0 H:Hp}{P:List Addr} (m:Lists H P) (e:Same H0 H):∀ {d:D}{v:V}{B:List Addr},RepD K H0 H d v B→RepD K (hide P H) H d v B
 |_,_,_,.flat f r=>.flat f (Rep.hid m f (Rep.mono e r))
 |_,_,_,.tup h r=>.tup (SqT.hid m (SqT.mono e h)) (RepDs.hid m e r)
 |_,_,_,.lst h r=>.lst h (RepDs.hid m e r)
 |_,_,_,.dct l h r=>.dct l h (RepDs.hid m e r)
 |_,_,_,.pdc h=>.pdc h
theorem RepDs.hid {K:zbi5}{H0 H:Hp}{P:List Addr} (m:Lists H P) (e:Same H0 H):∀ {ds:List D}{vs:List V}{B:List Addr},RepDs K H0 H ds vs B→RepDs K (hide P H) H ds vs B
 |_,_,_,.nil=>.nil
 |_,_,_,.cons h r=>.cons (RepD.hid m e h) (RepDs.hid m e r)
end
theorem RepDs.of_flat {K:zbi5}{H0 H:Hp}:∀ {ds:List D}{vs:List V},zg9 ds=true→Reps K H0 ds vs→RepDs K H0 H ds vs []
 |_,_,_,.nil=>.nil
 |_,_,f,.cons h r=>by
  simp [zg9]at f
  exact .cons (B:=[]) (C:=[]) (.flat f.1 h) (RepDs.of_flat f.2 r)
theorem Lists.app {H:Hp}{P Q:List Addr} (h:Lists H P) (k:Lists H Q):Lists H (P++Q):=fun p hp=>(zbj2.mp hp).elim (h p) (k p)
inductive Ev where
 |cl (d:D) |tm (d:D) |nw (xs:List D) |dn (d:D)
def Ev.d:Ev→D
 |.cl d=>d
 |.tm d=>d
 |.nw xs=>.lst xs
 |.dn d=>d
noncomputable def RepEv (K:zbi5) (F A:List Addr) (H H':Hp):Ev→V→Prop
 |.cl d,v=>Rep K (hide (A++F) H') d v
 |.tm d,v=>Rep K (hide F H') d v
 |.nw xs,v => ∃p vs,v=.ref p∧H p=none∧H' p=some (.lst vs)∧Reps K (hide (p ::(A++F)) H') xs vs
 |.dn d,v => ∃B,B.Nodup∧(∀b∈B,H b=none)∧RepD K (hide (B++(A++F)) H') H' d v B
theorem zc8 {P:List Addr}{H H':Hp} (e:Same H H'):Same (hide P H) (hide P H'):=fun b o h=>by
 obtain⟨n,h⟩:=zn2 h
 exact zc7 (e _ _ h) n
theorem RepEv.mono {K:zbi5}{F A:List Addr}{H H1 H2:Hp}{r:Ev}{v:V} (h:RepEv K F A H H1 r v) (e:Same H1 H2):RepEv K F A H H2 r v:=by
 cases r with
 |cl d=>exact Rep.mono (zc8 e) h
 |tm d=>exact Rep.mono (zc8 e) h
 |nw xs =>
  obtain⟨p,vs,rfl,h1,h2,h3⟩:=h
  exact⟨p,vs,rfl,h1,e _ _ h2,Reps.mono (zc8 e) h3⟩
 |dn d =>
  obtain⟨B,h1,h2,h3⟩:=h
  exact⟨B,h1,h2,RepD.mono (zc8 e) h3 fun p _ o q=>e _ _ q⟩
theorem RepEv.back {K:zbi5}{F A:List Addr}{H0 H H1:Hp}{r:Ev}{v:V} (h:RepEv K F A H H1 r v) (e:Same H0 H):RepEv K F A H0 H1 r v:=by
 cases r with
 |cl d=>exact h
 |tm d=>exact h
 |nw xs =>
  obtain⟨p,vs,rfl,h1,h2,h3⟩:=h
  refine⟨p,vs,rfl,?_,h2,h3⟩
  cases q:H0 p with
  |none=>rfl
  |some o=>rw [e _ _ q]at h1;cases h1
 |dn d =>
  obtain⟨B,h1,h2,h3⟩:=h
  exact⟨B,h1,fun b hb=>Same.free e (h2 b hb),h3⟩
theorem RepEv.full {K:zbi5}{F A:List Addr}{H H':Hp}{r:Ev}{v:V} (h:RepEv K F A H H' r v):Rep K H' r.d v:=by
 cases r with
 |cl d=>exact Rep.mono (zb0 _ _) h
 |tm d=>exact Rep.mono (zb0 _ _) h
 |nw xs =>
  obtain⟨p,vs,rfl,h1,h2,h3⟩:=h
  exact .lst (SqL.of h2) (Reps.mono (zb0 _ _) h3)
 |dn d =>
  obtain⟨B,h1,h2,h3⟩:=h
  exact h3.rep (zb0 _ _) fun _ _ _ q=>q
theorem zd4 {H:Hp}{P:List Addr}{p:Addr} (m:Lists H P) (h:H p=none):p∉P:=fun z=>by
 obtain⟨vs,q⟩:=m _ z
 rw [q]at h;cases h
theorem RepEv.cleanF {K:zbi5}{F A:List Addr}{H H':Hp}{r:Ev}{v:V} (m:Lists H (A++F)) (h:RepEv K F A H H' r v):Rep K (hide F H') r.d v:=by
 cases r with
 |cl d=>exact Rep.mono (zb5 H' fun a z=>zbi4 _ z) h
 |tm d=>exact h
 |nw xs =>
  obtain⟨p,vs,rfl,h1,h2,h3⟩:=h
  have n:p∉F:=fun z=>zd4 m h1 (zbi4 _ z)
  exact .lst (SqL.of (zc7 h2 n)) (Reps.mono (zb5 H' fun a z=>zbi6 _ (zbi4 _ z)) h3)
 |dn d =>
  obtain⟨B,h1,h2,h3⟩:=h
  refine h3.rep (zb5 H' fun a z=>zbi4 _ (zbi4 _ z)) fun b hb o q=>zc7 q fun z=>?_
  exact zd4 m (h2 b hb) (zbi4 _ z)
def Ev.ok:Ev→Bool
 |.cl _=>true
 |.tm d=>flat d
 |.nw _=>true
 |.dn _=>true
theorem RepEv.clean {K:zbi5}{F A:List Addr}{H H':Hp}{r:Ev}{v:V} (m:Lists H (A++F)) (e:Same H H') (h:RepEv K F A H H' r v) (c:r.ok=true):Rep K (hide (A++F) H') r.d v:=by
 cases r with
 |cl d=>exact h
 |tm d =>
  have m':Lists H' (A++F):=m.mono e
  exact Rep.hid m' c (Rep.mono (zb0 _ _) h)
 |nw xs =>
  obtain⟨p,vs,rfl,h1,h2,h3⟩:=h
  have n:p∉A++F:=zd4 m h1
  exact .lst (SqL.of (zc7 h2 n)) (Reps.mono (zb5 H' fun a z=>zbi6 _ z) h3)
 |dn d =>
  obtain⟨B,h1,h2,h3⟩:=h
  exact h3.rep (zb5 H' fun a z=>zbi4 _ z) fun b hb o q=>zc7 q fun z=>zd4 m (h2 b hb) z
inductive Sl where
 |no | val (d:D) |own (xs:List D) |dp (d:D)
abbrev Th:=List Sl
inductive RSl (K:zbi5) (H0 H:Hp):Th→L2.St→List Addr→Prop
 |nil:RSl K H0 H [] [] []
 |no {x:Option V}{t:Th}{σ:L2.St}{A:List Addr}:RSl K H0 H t σ A→RSl K H0 H (.no::t) (x::σ) A
 |val {d:D}{v:V}{t:Th}{σ:L2.St}{A:List Addr}:Rep K H0 d v→RSl K H0 H t σ A→RSl K H0 H (.val d::t) (some v::σ) A
 |own {p:Addr}{vs:List V}{ds:List D}{t:Th}{σ:L2.St}{A:List Addr}:H p=some (.lst vs)→Reps K H0 ds vs→RSl K H0 H t σ A→RSl K H0 H (.own ds::t) (some (.ref p)::σ) (p::A)
 |dp {d:D}{v:V}{B:List Addr}{t:Th}{σ:L2.St}{A:List Addr}:RepD K H0 H d v B→RSl K H0 H t σ A→RSl K H0 H (.dp d::t) (some v::σ) (B++A)
structure RS (K:zbi5) (F:List Addr) (H:Hp) (A:List Addr) (t:Th) (σ:L2.St):Prop where
 mu:Lists H (A++F)
 nd:A.Nodup
 dj:∀p∈A,p∉F
 rel:RSl K (hide (A++F) H) H t σ A
theorem RSl.mono {K:zbi5}{H0 H H0' H':Hp} (e0:Same H0 H0'):∀ {t:Th}{σ:L2.St}{A:List Addr},RSl K H0 H t σ A→(∀p∈A,∀o,H p=some o→H' p=some o)→RSl K H0' H' t σ A:=by
 intro _ _ _ h
 induction h with
 |nil =>
  intro w0
  exact .nil
 |@no _ _ _ _ r ih =>
  intro e
  exact .no (ih e)
 |@val _ _ _ _ _ h r ih =>
  intro e
  exact .val (Rep.mono e0 h) (ih e)
 |@own _ _ _ _ _ _ h1 h2 r ih =>
  intro e
  exact .own (e _ (zbi9 ..) _ h1) (Reps.mono e0 h2) (ih fun p hp=>e p (zbi6 _ hp))
 |@dp _ _ _ _ _ _ h r ih =>
  intro e
  exact .dp (RepD.mono e0 h fun p hp=>e p (zbi7 _ hp)) (ih fun p hp=>e p (zbi4 _ hp))
theorem RS.grow {K:zbi5}{F A:List Addr}{H H':Hp}{t:Th}{σ:L2.St} (h:RS K F H A t σ) (e:Same H H'):RS K F H' A t σ :=
 ⟨h.mu.mono e,h.nd,h.dj,h.rel.mono (zc8 e) fun p _ o q=>e _ _ q⟩
theorem RSl.len {K:zbi5}{H0 H:Hp}:∀ {t:Th}{σ:L2.St}{A:List Addr},RSl K H0 H t σ A→σ.length=t.length:=by
 intro _ _ _ h
 induction h with
 |nil =>
  exact rfl
 |@no _ _ _ _ r ih =>
  simp [ih]
 |@val _ _ _ _ _ _ r ih =>
  simp [ih]
 |@own _ _ _ _ _ _ _ _ r ih =>
  simp [ih]
 |@dp _ _ _ _ _ _ _ r ih =>
  simp [ih]
theorem RSl.getVal {K:zbi5}{H0 H:Hp}:∀ {t:Th}{σ:L2.St}{A:List Addr},RSl K H0 H t σ A→∀ {i:Nat}{d:D},t[i]?=some (.val d)→∃v,σ[i]?=some (some v)∧Rep K H0 d v:=by
 intro _ _ _ h
 induction h with
 |nil =>
  intro i d e
  simp at e
 |@no _ _ _ _ r ih =>
  intro i d e
  cases i with
  |zero =>
   simp at e
  |succ i =>
   simpa using ih (i:=i) (by simpa using e)
 |@val _ v _ _ _ h r ih =>
  intro i d e
  cases i with
  |zero =>
   simp at e;subst e;exact⟨v,rfl,h⟩
  |succ i =>
   simpa using ih (i:=i) (by simpa using e)
 |@own _ _ _ _ _ _ _ _ r ih =>
  intro i d e
  cases i with
  |zero =>
   simp at e
  |succ i =>
   simpa using ih (i:=i) (by simpa using e)
 |@dp _ _ _ _ _ _ _ r ih =>
  intro i d e
  cases i with
  |zero =>
   simp at e
  |succ i =>
   simpa using ih (i:=i) (by simpa using e)
theorem RSl.getOwn {K:zbi5}{H0 H:Hp}:∀ {t:Th}{σ:L2.St}{A:List Addr},RSl K H0 H t σ A→∀ {i:Nat}{ds:List D},t[i]?=some (.own ds)→∃p vs,σ[i]?=some (some (.ref p))∧p∈A∧H p=some (.lst vs)∧Reps K H0 ds vs:=by
 intro _ _ _ h
 induction h with
 |nil =>
  intro i d e
  simp at e
 |@no _ _ _ _ r ih =>
  intro i d e
  cases i with
  |zero =>
   simp at e
  |succ i =>
   simpa using ih (i:=i) (by simpa using e)
 |@val _ v _ _ _ h r ih =>
  intro i d e
  cases i with
  |zero =>
   simp at e
  |succ i =>
   simpa using ih (i:=i) (by simpa using e)
 |@own p vs _ _ _ _ h1 h2 r ih =>
  intro i d e
  cases i with
  |zero =>
   simp at e;subst e;exact⟨p,vs,rfl,zbi9 ..,h1,h2⟩
  |succ i =>
   obtain⟨p,vs,a,b,c,f⟩:=ih (i:=i) (ds:=d) (by simpa using e)
   exact⟨p,vs,by simpa using a,zbi6 _ b,c,f⟩
 |@dp _ _ _ _ _ _ _ r ih =>
  intro i d e
  cases i with
  |zero =>
   simp at e
  |succ i =>
   obtain⟨p,vs,a,b,c,f⟩:=ih (i:=i) (ds:=d) (by simpa using e)
   exact⟨p,vs,by simpa using a,zbi4 _ b,c,f⟩
theorem RSl.getDp {K:zbi5}{H0 H:Hp}:∀ {t:Th}{σ:L2.St}{A:List Addr},RSl K H0 H t σ A→A.Nodup→∀ {i:Nat}{d:D},t[i]?=some (.dp d)→∃v B,σ[i]?=some (some v)∧(∀b∈B,b∈A)∧B.Nodup∧RepD K H0 H d v B:=by
 intro _ _ _ h
 induction h with
 |nil =>
  intro n i d e
  simp at e
 |@no _ _ _ _ r ih =>
  intro n i d e
  cases i with
  |zero =>
   simp at e
  |succ i =>
   simpa using ih n (i:=i) (by simpa using e)
 |@val _ v _ _ _ h r ih =>
  intro n i d e
  cases i with
  |zero =>
   simp at e
  |succ i =>
   simpa using ih n (i:=i) (by simpa using e)
 |@own _ _ _ _ _ _ _ _ r ih =>
  intro n i d e
  cases i with
  |zero =>
   simp at e
  |succ i =>
   obtain⟨v,B,a,b,n',c⟩:=ih (zbl0.mp n).2 (i:=i) (d:=d) (by simpa using e)
   exact⟨v,B,by simpa using a,fun x hx=>zbi6 _ (b x hx),n',c⟩
 |@dp _ v B _ _ _ h r ih =>
  intro n i d e
  cases i with
  |zero =>
   simp at e;subst e;exact⟨v,B,rfl,fun x hx=>zbi7 _ hx,(zbk9.mp n).1,h⟩
  |succ i =>
   obtain⟨v,B,a,b,n',c⟩:=ih (zbk9.mp n).2.1 (i:=i) (d:=d) (by simpa using e)
   exact⟨v,B,by simpa using a,fun x hx=>zbi4 _ (b x hx),n',c⟩
structure Gr (A:List Addr) (H:Hp) (A':List Addr) (H':Hp):Prop where
 kp:∀b o,b∉A→H b=some o→H' b=some o
 al:∀b∈A,H' b≠none
 nw:∀b∈A',b∈A∨H b=none
theorem Gr.refl {A:List Addr}{H:Hp} (m:Lists H A):Gr A H A H:=⟨fun _ _ _ h=>h,fun b hb=>by obtain⟨vs,q⟩:=m b hb;rw [q];simp,fun b h=>.inl h⟩
theorem Gr.of_same {A:List Addr}{H H':Hp} (m:Lists H A) (e:Same H H'):Gr A H A H':=⟨fun _ _ _ h=>e _ _ h,fun b hb=>by obtain⟨vs,q⟩:=m b hb;rw [e _ _ q];simp,fun b h=>.inl h⟩
theorem Gr.trans {A A1 A2:List Addr}{H H1 H2:Hp} (a:Gr A H A1 H1) (b:Gr A1 H1 A2 H2):Gr A H A2 H2 where
 kp:=fun x o n h=>b.kp x o (fun z=>by rcases a.nw x z with q | q;exact n q;rw [q]at h;cases h) (a.kp x o n h)
 al:=fun x hx=>by
  by_cases z:x∈A1
  ·exact b.al x z
  ·have:=a.al x hx
   cases q:H1 x with
   |none=>exact absurd q this
   |some o=>rw [b.kp x o z q];simp
 nw:=fun x hx=>by
  rcases b.nw x hx with q | q
  ·exact a.nw x q
  ·by_cases z:x∈A
   ·exact .inl z
   ·refine .inr ?_
    cases w:H x with
    |none=>rfl
    |some o=>rw [a.kp x o z w]at q;cases q
theorem Gr.same {F A A':List Addr}{H H':Hp} (g:Gr A H A' H'):Same (hide (A++F) H) (hide (A'++F) H'):=fun b o h=>by
 obtain⟨n,h⟩:=zn2 h
 have n1:b∉A:=fun z=>n (zbi7 _ z)
 refine zc7 (g.kp b o n1 h) fun z=>?_
 rcases zbj2.mp z with z | z
 ·rcases g.nw b z with q | q
  ·exact n1 q
  ·rw [q]at h;cases h
 ·exact n (zbi4 _ z)
end DL
namespace DL
open PySem.Spec L2
abbrev DE:=Th→Option Ev
noncomputable def dE (K:zbi5) (F:List Addr) (f:DE):TE:=fun σ H Q => ∃A t r,RS K F H A t σ∧f t=some r∧∀v H',Same H H'→RepEv K F A H H' r v→Q v H'
theorem PE.imp {X:Cx}{e:Expr}{t t':TE} (h:PE X e t) (i:∀σ H Q,t' σ H Q→t σ H Q):PE X e t':=fun pins s σ H Q I q=>h pins s σ H Q I (i σ H Q q)
section
variable {X:Cx}{F:List Addr}{a b c:Expr}{fa fb fc:DE}{pos:Pos}
noncomputable def dVar (i:Nat):DE:=fun t=>match t[i]? with
 |some (.val d)=>some (.cl d)
 |some (.own xs)=>some (.tm (.lst xs))
 |some (.dp d)=>some (.tm d)
 |_=>none
theorem za0 (i:Nat) {x:Str} (hN:X.N[i]?=some x:=by rfl) (hv:Vis X.env.scope x:=by first | exact Or.inl rfl | exact Or.inr (Or.inl rfl) |exact Or.inr (Or.inr rfl)) (hd:(x ==("__debug__":Str))=false:=by decide)
  (hcd:(x ==("__classdict__":Str))=false:=by decide):PE X (.Name x pos) (dE X.K F (dVar i)):=by
 refine PE.imp (zo2 (i:=i) hN hv hd hcd) ?_
 rintro σ H Q ⟨A,t,r,R,e,h⟩
 unfold dVar at e
 split at e
 ·rename_i d q
  cases e
  obtain⟨v,h1,h2⟩:=R.rel.getVal q
  exact⟨v,h1,h v H (Same.refl H) h2⟩
 ·rename_i ds q
  cases e
  obtain⟨p,vs,h1,h2,h3,h4⟩:=R.rel.getOwn q
  refine⟨_,h1,h _ H (Same.refl H) ?_⟩
  exact .lst (SqL.of (zc7 h3 (R.dj p h2))) (Reps.mono (zb5 H fun a z=>zbi4 _ z) h4)
 ·rename_i d q
  cases e
  obtain⟨v,B,h1,h2,h0,h3⟩:=R.rel.getDp R.nd q
  refine⟨_,h1,h _ H (Same.refl H) ?_⟩
  exact h3.rep (zb5 H fun a z=>zbi4 _ z) fun b hb o w=>zc7 w (R.dj b (h2 b hb))
 ·cases e
def dC (d:D):DE:=fun _=>some (.cl d)
theorem za3 {i j pos}:PE X (.Constant (.int i) j pos) (dE X.K F (dC (.int i))):=PE.imp pe_int fun σ H Q ⟨A,t,r,R,e,h⟩=>by cases e;exact h _ H (Same.refl H) (.int i)
theorem zj4 {b j pos}:PE X (.Constant (.bool b) j pos) (dE X.K F (dC (.bl b))):=PE.imp pe_bl fun σ H Q ⟨A,t,r,R,e,h⟩=>by cases e;exact h _ H (Same.refl H) (.bl b)
theorem zba3 {j pos}:PE X (.Constant .none j pos) (dE X.K F (dC .non)):=PE.imp pe_non fun σ H Q ⟨A,t,r,R,e,h⟩=>by cases e;exact h _ H (Same.refl H) .non
noncomputable def OpD (X:Cx) (F:List Addr) (f:Value→Value→Sem Value) (k:Ev→Ev→Option Ev):Prop :=
 ∀(pins:List (Addr×Obj)) (s:zbj7) (σ:L2.St) (H0 H:Hp) (A:List Addr) (x y:V) (v u:Value) (Q:VK) (r1 r2 r:Ev),Inv X pins σ H s→Lists H0 (A++F)→Same H0 H→RelV x v→RelV y u →
  RepEv X.K F A H0 H r1 x→RepEv X.K F A H0 H r2 y→k r1 r2=some r→(∀z H',Same H H'→RepEv X.K F A H0 H' r z→Q z H')→wpAny (model X.prog X.w) X.A (f v u) (EP X pins σ Q) X.xe s
def d2 (k:Ev→Ev→Option Ev) (fa fb:DE):DE:=fun t=>(fa t).bind fun r1=>(fb t).bind fun r2=>k r1 r2
theorem two {k:Ev→Ev→Option Ev}{σ:L2.St}{H:Hp}{Q:VK} (h:dE X.K F (d2 k fa fb) σ H Q):∃A t r1 r2 r,RS X.K F H A t σ∧fa t=some r1∧fb t=some r2∧k r1 r2=some r ∧
  (∀v H',Same H H'→RepEv X.K F A H H' r v→Q v H')∧dE X.K F fa σ H fun x H1=>dE X.K F fb σ H1 fun y H2=>Same H H2∧RepEv X.K F A H H2 r1 x∧RepEv X.K F A H H2 r2 y:=by
 obtain⟨A,t,r,R,e,h⟩:=h
 unfold d2 at e
 cases e1:fa t with
 |none=>rw [e1]at e;cases e
 |some r1 =>
  cases e2:fb t with
  |none=>rw [e1,e2]at e;cases e
  |some r2 =>
   rw [e1,e2]at e
   exact⟨A,t,r1,r2,r,R,e1,e2,e,h,A,t,r1,R,e1,fun x H1 g1 q1=>⟨A,t,r2,R.grow g1,e2,fun y H2 g2 q2=>⟨g1.trans g2,q1.mono g2,q2.back g1⟩⟩⟩
theorem za7 {op:Operator}{k:Ev→Ev→Option Ev} (ho:OpD X F (binaryOp op) k) (ha:PE X a (dE X.K F fa)) (hb:PE X b (dE X.K F fb)):PE X (.BinOp a op b pos) (dE X.K F (d2 k fa fb)):=by
 intro pins s σ H Q I h
 obtain⟨A,t,r1,r2,r,R,e1,e2,e,h,w⟩:=two h
 refine wpAny_BinOp (bin ha hb I w fun v u s2 x y H2 I2 rx ry q=>?_)
 obtain⟨g,q1,q2⟩:=q
 exact ho pins s2 σ H H2 A x y v u Q r1 r2 r I2 R.mu g rx ry q1 q2 e fun z H' g'=>h z H' (g.trans g')
theorem zo1 {op:CmpOp}{k:Ev→Ev→Option Ev} (ho:OpD X F (compareOp op) k) (ha:PE X a (dE X.K F fa)) (hb:PE X b (dE X.K F fb)) (hm:behindInMarks op b=false:=by first | exact nomark _ | (with_unfolding_all rfl)) :
  PE X (.Compare a [op] [b] pos) (dE X.K F (d2 k fa fb)):=by
 intro pins s σ H Q I h
 obtain⟨A,t,r1,r2,r,R,e1,e2,e,h,w⟩:=two h
 refine wpAny_Compare1 (bin ha hb I w fun v u s2 x y H2 I2 rx ry q=>?_) hm
 obtain⟨g,q1,q2⟩:=q
 exact ho pins s2 σ H H2 A x y v u Q r1 r2 r I2 R.mu g rx ry q1 q2 e fun z H' g'=>h z H' (g.trans g')
noncomputable def kI (C:Int→Int→Bool) (g:Int→Int→D):Ev→Ev→Option Ev:=fun r1 r2=>match r1.d,r2.d with
 |.int i,.int j=>if C i j then some (.cl (g i j)) else none
 |_,_=>none
theorem zd1 {K:zbi5}{H:Hp}{i:Int}{v:V} (h:Rep K H (.int i) v):v=.int i:=by cases h;rfl
theorem zt4 {f:Value→Value→Sem Value}{C:Int→Int→Prop}{g:Int→Int→V}{C':Int→Int→Bool}{g':Int→Int→D} (h:OpR X f (rI C g)) (hc:∀i j,C' i j=true→C i j)
  (hg:∀H i j,Rep X.K H (g' i j) (g i j)):OpD X F f (kI C' g'):=by
 intro pins s σ H0 H A x y v u Q r1 r2 r I m g0 rx ry q1 q2 e hq
 have p1:=q1.full
 have p2:=q2.full
 unfold kI at e
 split at e
 ·rename_i i j d1 d2
  split at e
  ·rename_i c
   cases e
   rw [d1]at p1;rw [d2]at p2
   cases zd1 p1;cases zd1 p2
   exact h pins s σ H _ _ v u Q I rx ry ⟨i,j,rfl,rfl,hc i j c,hq _ H (Same.refl H) (hg _ i j)⟩
  ·cases e
 ·cases e
theorem zal1 {f:Value→Value→Sem Value}{g:Int→Int→V} (h:OpR X f (rI0 g)):OpR X f (rI (fun _ _=>True) g):=fun pins s σ H x y v u Q I rx ry ⟨i,j,e1,e2,_,q⟩=>h pins s σ H x y v u Q I rx ry ⟨i,j,e1,e2,q⟩
def tt2:Int→Int→Bool:=fun _ _=>true
theorem od_add:OpD X F (binaryOp .Add) (kI tt2 fun i j=>.int (i+j)):=zt4 (zal1 op_add) (fun _ _ _=>trivial) fun _ _ _=>.int _
theorem zx1:OpD X F (binaryOp .Sub) (kI tt2 fun i j=>.int (i - j)):=zt4 (zal1 op_sub) (fun _ _ _=>trivial) fun _ _ _=>.int _
def bnd:Nat:=2 ^ 4096
def sm (i:Int):Bool:=decide (i.natAbs<bnd)
def cMul (i j:Int):Bool:=sm i&&sm j
def cDiv (_ j:Int):Bool:=sm j&&decide (j≠0)
theorem zbc1 {n k:Nat} (h:n<2 ^ k):n.log2≤k:=by
 by_cases z:n=0
 ·subst z;simp
 ·exact zbs4 ((Nat.log2_lt z).mpr h)
theorem cMul.ok {i j:Int} (h:cMul i j=true):IntMulOk i j:=by
 simp only [cMul,sm,zbj3,decide_eq_true_eq]at h
 refine mulOk_of_bits (m:=4097) (n:=4097) ?_ ?_ (by decide)
 ·exact intBits_le (zbk6 h.1 (by unfold bnd;exact zbp6 (by decide) (by decide)))
 ·exact intBits_le (zbk6 h.2 (by unfold bnd;exact zbp6 (by decide) (by decide)))
theorem od_mul:OpD X F (binaryOp .Mult) (kI cMul fun i j=>.int (i*j)):=zt4 (C:=IntMulOk) (opI fun _ _ _ _ _ _ _ hc q=>mul_int q hc) (fun _ _ h=>cMul.ok h) fun _ _ _=>.int _
theorem cDiv.ok {i j:Int} (h:cDiv i j=true):j≠0∧j.natAbs.log2<9000:=by
 simp only [cDiv,sm,zbj3,decide_eq_true_eq]at h
 have:=zbc1 h.1
 exact⟨h.2,by lia⟩
theorem zh7:OpD X F (binaryOp .FloorDiv) (kI cDiv fun i j=>.int (i.fdiv j)):=zt4 (C:=fun _ j=>j≠0∧j.natAbs.log2<9000) (opI fun _ _ _ _ _ _ _ hc q=>floordiv_int hc.1 q (.inl (PyProof.noPylong_of_log2 hc.2))) (fun _ _ h=>cDiv.ok h) fun _ _ _=>.int _
def cMod (_ j:Int):Bool:=decide (j≠0)
theorem ze7:OpD X F (binaryOp .Mod) (kI cMod fun i j=>.int (i.fmod j)):=zt4 op_modN (fun i j h=>by simpa [cMod] using h) fun _ _ _=>.int _
def cPow (i j:Int):Bool:=decide (0≤j∧j≤1000∧i.natAbs<18446744073709551616)
theorem zai1:OpD X F (binaryOp .Pow) (kI cPow fun i j=>.int (i ^ j.toNat)):=zt4 op_pow (fun i j h=>by
 simp only [cPow,decide_eq_true_eq]at h
 exact⟨h.1,by lia,by show i.natAbs<2 ^ 64;lia⟩) fun _ _ _=>.int _
theorem zt6:OpD X F (compareOp .Lt) (kI tt2 fun i j=>.bl (decide (i<j))):=zt4 (zal1 op_lt) (fun _ _ _=>trivial) fun _ _ _=>.bl _
theorem od_le:OpD X F (compareOp .LtE) (kI tt2 fun i j=>.bl (decide (i≤j))):=zt4 (zal1 op_le) (fun _ _ _=>trivial) fun _ _ _=>.bl _
theorem od_gt:OpD X F (compareOp .Gt) (kI tt2 fun i j=>.bl (decide (j<i))):=zt4 (zal1 op_gt) (fun _ _ _=>trivial) fun _ _ _=>.bl _
theorem od_ge:OpD X F (compareOp .GtE) (kI tt2 fun i j=>.bl (decide (j≤i))):=zt4 (zal1 op_ge) (fun _ _ _=>trivial) fun _ _ _=>.bl _
def kOr (k k':Ev→Ev→Option Ev):Ev→Ev→Option Ev:=fun r1 r2=>match k r1 r2 with
 |some r=>some r
 |none=>k' r1 r2
theorem OpD.or {f:Value→Value→Sem Value}{k k':Ev→Ev→Option Ev} (h:OpD X F f k) (h':OpD X F f k'):OpD X F f (kOr k k'):=by
 intro pins s σ H0 H A x y v u Q r1 r2 r I m g0 rx ry q1 q2 e hq
 unfold kOr at e
 split at e
 ·rename_i z
  cases e
  exact h pins s σ H0 H A x y v u Q r1 r2 _ I m g0 rx ry q1 q2 z hq
 ·exact h' pins s σ H0 H A x y v u Q r1 r2 _ I m g0 rx ry q1 q2 e hq
def d1 (k:Ev→Option Ev) (fa:DE):DE:=fun t=>(fa t).bind k
def kNeg:Ev→Option Ev:=fun r=>match r.d with
 |.int i=>some (.cl (.int (-i)))
 |_=>none
theorem zw9 (ha:PE X a (dE X.K F fa)):PE X (.UnaryOp .USub a pos) (dE X.K F (d1 kNeg fa)):=by
 refine PE.imp (pe_un un_neg ha) ?_
 rintro σ H Q ⟨A,t,r,R,e,h⟩
 unfold d1 at e
 cases e1:fa t with
 |none=>rw [e1]at e;cases e
 |some r1 =>
  rw [e1]at e
  refine⟨A,t,r1,R,e1,fun x H1 g1 q1=>?_⟩
  have e:kNeg r1=some r:=e
  unfold kNeg at e
  split at e
  ·rename_i i z
   cases e
   have p:=q1.full
   rw [z]at p
   exact⟨i,zd1 p,h _ H1 g1 (.int _)⟩
  ·cases e
end
end DL
namespace DL
open PySem.Spec L2
inductive RepEvs (K:zbi5) (F A:List Addr) (H H':Hp):List Ev→List V→Prop
 |nil:RepEvs K F A H H' [] []
 |cons {r:Ev}{v:V}{rs:List Ev}{vs:List V}:RepEv K F A H H' r v→RepEvs K F A H H' rs vs→RepEvs K F A H H' (r::rs) (v::vs)
theorem RepEvs.back {K:zbi5}{F A:List Addr}{H0 H H1:Hp} (e:Same H0 H):∀ {rs:List Ev}{vs:List V},RepEvs K F A H H1 rs vs→RepEvs K F A H0 H1 rs vs
 |_,_,.nil=>.nil
 |_,_,.cons h r=>.cons (h.back e) (RepEvs.back e r)
theorem RepEvs.full {K:zbi5}{F A:List Addr}{H H':Hp}:∀ {rs:List Ev}{vs:List V},RepEvs K F A H H' rs vs→Reps K H' (rs.map Ev.d) vs
 |_,_,.nil=>.nil
 |_,_,.cons h r=>.cons h.full (RepEvs.full r)
theorem RepEvs.cleanF {K:zbi5}{F A:List Addr}{H H':Hp} (m:Lists H (A++F)):∀ {rs:List Ev}{vs:List V},RepEvs K F A H H' rs vs→Reps K (hide F H') (rs.map Ev.d) vs
 |_,_,.nil=>.nil
 |_,_,.cons h r=>.cons (h.cleanF m) (RepEvs.cleanF m r)
theorem RepEvs.clean {K:zbi5}{F A:List Addr}{H H':Hp} (m:Lists H (A++F)) (e:Same H H'):∀ {rs:List Ev}{vs:List V},RepEvs K F A H H' rs vs→rs.all Ev.ok=true→Reps K (hide (A++F) H') (rs.map Ev.d) vs
 |_,_,.nil,_=>.nil
 |_,_,.cons h r,c=>by
  simp only [zbo7,zbj3]at c
  exact .cons (h.clean m e c.1) (RepEvs.clean m e r c.2)
abbrev DA:=Th→Option (List Ev)
noncomputable def dA (K:zbi5) (F:List Addr) (f:DA):TA:=fun σ H Q => ∃A t rs,RS K F H A t σ∧f t=some rs∧∀vs H',Same H H'→RepEvs K F A H H' rs vs→Q vs H'
theorem PA.imp {X:Cx}{e:List Expr}{t t':TA} (h:PA X e t) (i:∀σ H Q,t' σ H Q→t σ H Q):PA X e t':=fun pos pins s σ H Q I q=>h pos pins s σ H Q I (i σ H Q q)
def dNil:DA:=fun _=>some []
def za2 (f:DE) (g:DA):DA:=fun t=>(f t).bind fun r=>(g t).bind fun rs=>some (r::rs)
section
variable {X:Cx}{F:List Addr}{a b c:Expr}{es:List Expr}{fa fb fc:DE}{g:DA}{pos:Pos}
theorem za4:PA X [] (dA X.K F dNil):=PA.imp zn9 fun σ H Q ⟨A,t,rs,R,e,h⟩=>by cases e;exact h [] H (Same.refl H) .nil
theorem za1 (ha:PE X a (dE X.K F fa)) (hr:PA X es (dA X.K F g)) (hs:zbk2 (a::es) X.env=(false,eval a X.env)::zbk2 es X.env:=by rfl):PA X (a::es) (dA X.K F (za2 fa g)):=by
 refine PA.imp (zf9 ha hr hs) ?_
 rintro σ H Q ⟨A,t,rs,R,e,h⟩
 unfold za2 at e
 cases e1:fa t with
 |none=>rw [e1]at e;cases e
 |some r1 =>
  cases e2:g t with
  |none=>rw [e1,e2]at e;cases e
  |some rs2 =>
   rw [e1,e2]at e
   cases e
   exact⟨A,t,r1,R,e1,fun x H1 g1 q1=>⟨A,t,rs2,R.grow g1,e2,fun xs H2 g2 q2=>h _ _ (g1.trans g2) (.cons (q1.mono g2) (q2.back g1))⟩⟩
noncomputable def kTup:List Ev→Option Ev:=fun rs=>if rs.length≤1000 then (if rs.all Ev.ok then some (.cl (.tup (rs.map Ev.d))) else some (.tm (.tup (rs.map Ev.d)))) else none
def dT1 (k:List Ev→Option Ev) (g:DA):DE:=fun t=>(g t).bind k
theorem RepEvs.length {K:zbi5}{F A:List Addr}{H H':Hp}:∀ {rs:List Ev}{vs:List V},RepEvs K F A H H' rs vs→vs.length=rs.length
 |_,_,.nil=>rfl
 |_,_,.cons _ r=>by simp [RepEvs.length r]
theorem le_line {n:Nat} (h:n≤100000):n≤sizeLine:=zbn6 h (by rw [sizeLine_eq];decide)
theorem zd2 {H:Hp}{p:Addr}{o:HO} (h:H p=none):Same H (upd H p o):=fun b u e=>by rw [zd3 (fun z=>by rw [z,h]at e;cases e)];exact e
theorem zh3 {x1} (h:PA X es (dA X.K F g)):PE X (.Tuple es x1 pos) (dE X.K F (dT1 kTup g)):=by
 refine PE.imp (pe_tup h) ?_
 rintro σ H Q ⟨A,t,r,R,e,h⟩
 unfold dT1 at e
 cases e1:g t with
 |none=>rw [e1]at e;cases e
 |some rs =>
  rw [e1]at e
  have e:kTup rs=some r:=e
  unfold kTup at e
  split at e
  case isFalse=>cases e
  rename_i hl
  refine⟨A,t,rs,R,e1,fun vs H1 g1 q1=>⟨by rw [q1.length];exact le_line (by lia),fun p hp=>?_⟩⟩
  have s1:=zd2 (o:=HO.tup vs) hp
  refine h _ _ (g1.trans s1) ?_
  have np:p∉A++F:=zd4 (R.mu.mono g1) hp
  split at e
  ·rename_i c
   cases e
   exact .tup (SqT.of (zc7 zc6 np)) (Reps.mono (zc8 s1) (q1.clean R.mu g1 c))
  ·cases e
   exact .tup (SqT.of (zc7 zc6 fun z=>np (zbi4 _ z))) (Reps.mono (zc8 s1) (q1.cleanF R.mu))
def kLst:List Ev→Option Ev:=fun rs=>if rs.length≤1000∧rs.all Ev.ok then some (.nw (rs.map Ev.d)) else none
theorem zl1 {P:List Addr}{H:Hp}{p:Addr}{o:HO} (h:H p=none):Same (hide P H) (hide (p::P) (upd H p o)):=fun b u e=>by
 obtain⟨n,e⟩:=zn2 e
 have nb:b≠p:=fun z=>by rw [z,h]at e;cases e
 refine zc7 (by rw [zd3 nb];exact e) fun z=>?_
 rcases zbj4.mp z with z | z
 ·exact nb z
 ·exact n z
theorem zf1 (h:PA X es (dA X.K F g)):PE X (.List es pos) (dE X.K F (dT1 kLst g)):=by
 refine PE.imp (pe_lst h) ?_
 rintro σ H Q ⟨A,t,r,R,e,h⟩
 unfold dT1 at e
 cases e1:g t with
 |none=>rw [e1]at e;cases e
 |some rs =>
  rw [e1]at e
  have e:kLst rs=some r:=e
  unfold kLst at e
  split at e
  case isFalse=>cases e
  rename_i hl
  cases e
  refine⟨A,t,rs,R,e1,fun vs H1 g1 q1=>⟨by rw [q1.length];exact le_line (by lia),fun p hp=>?_⟩⟩
  have s1:=zd2 (o:=HO.lst vs) hp
  refine h _ _ (g1.trans s1) ⟨p,vs,rfl,?_,zc6,Reps.mono (zl1 hp) (q1.clean R.mu g1 hl.2)⟩
  exact Same.free g1 hp
noncomputable def spD (K:zbi5) (G:List D→Option Ev):Sp:=fun vs H Q _ => ∃Fo ds r,Lists H Fo∧Reps K (hide Fo H) ds vs∧G ds=some r∧∀v H',Same H H'→RepEv K Fo [] H H' r v→Q v H'
noncomputable def upEv (ok:Bool) (r:Ev):Ev:=if ok then (match r with
  |.cl d=>.cl d
  |.tm d=>.cl d
  |.nw xs=>.nw xs
  |.dn d=>.dn d) else match r with
  |.cl d=>if flat d then .cl d else .tm d
  |.tm d=>if flat d then .cl d else .tm d
  |.nw xs=>if zg9 xs then .nw xs else .tm (.lst xs)
  |.dn d=>.dn d
def zc9 (G:List D→Option Ev):List Ev→Option Ev:=fun rs=>(G (rs.map Ev.d)).map (upEv (rs.all Ev.ok))
theorem call_up {K:zbi5}{A:List Addr}{G:List D→Option Ev}{H0 H:Hp}{rs:List Ev}{r:Ev}{vs:List V}{Q:VK}{E:XK} (m:Lists H0 (A++F)) (g:Same H0 H) (q:RepEvs K F A H0 H rs vs) (e:zc9 G rs=some r)
  (h:∀v H',Same H H'→RepEv K F A H0 H' r v→Q v H'):spD K G vs H Q E:=by
 unfold zc9 at e
 cases e1:G (rs.map Ev.d) with
 |none=>rw [e1]at e;cases e
 |some r0 =>
  rw [e1]at e
  have e:upEv (rs.all Ev.ok) r0=r:=by simpa using e
  have mH:=m.mono g
  by_cases c:rs.all Ev.ok=true
  ·refine⟨A++F,rs.map Ev.d,r0,mH,q.clean m g c,e1,fun v H' g' w=>h v H' g' ?_⟩
   rw [c]at e
   subst e
   cases r0 with
   |cl d=>exact w
   |tm d=>exact w
   |nw xs =>
    obtain⟨p,us,rfl,h1,h2,h3⟩:=w
    exact⟨p,us,rfl,Same.free g h1,h2,h3⟩
   |dn d =>
    obtain⟨B,h1,h2,h3⟩:=w
    exact⟨B,h1,fun b hb=>Same.free g (h2 b hb),h3⟩
  ·refine⟨F,rs.map Ev.d,r0,fun p hp=>mH p (zbi4 _ hp),q.cleanF m,e1,fun v H' g' w=>h v H' g' ?_⟩
   have c:rs.all Ev.ok=false:=by simpa using c
   rw [c]at e
   subst e
   have m':=mH.mono g'
   cases r0 with
   |cl d =>
    show RepEv K F A H0 H' (if flat d then .cl d else .tm d) v
    split
    ·rename_i f;exact Rep.hid m' f (Rep.mono (zb0 _ _) w)
    ·exact w
   |tm d =>
    show RepEv K F A H0 H' (if flat d then .cl d else .tm d) v
    split
    ·rename_i f;exact Rep.hid m' f (Rep.mono (zb0 _ _) w)
    ·exact w
   |nw xs =>
    obtain⟨p,us,rfl,h1,h2,h3⟩:=w
    have np:p∉A++F:=zd4 mH h1
    show RepEv K F A H0 H' (if zg9 xs then .nw xs else .tm (.lst xs)) _
    split
    ·rename_i f
     refine⟨p,us,rfl,Same.free g h1,h2,Reps.hid (P:=p ::(A++F)) (fun b hb=>?_) f (Reps.mono (zb0 _ _) h3)⟩
     rcases zbj4.mp hb with rfl | hb
     ·exact⟨mL us,h2⟩
     ·exact m' b hb
    ·exact .lst (SqL.of (zc7 h2 fun z=>np (zbi4 _ z))) (Reps.mono (zb5 H' fun b z=>zbi6 _ z) h3)
   |dn d =>
    obtain⟨B,h1,h2,h3⟩:=w
    exact⟨B,h1,fun b hb=>Same.free g (h2 b hb),h3.hid (h3.lists.app m') (zb0 _ _)⟩
theorem ped_call {k:Nat}{f:Addr}{fd:FuncData}{ps:List Str}{G:List D→Option Ev}{x:Str}{p:Pos} (Fn:FnOk X.prog X.w X.K X.mg X.base CX0 k f fd ps (spD X.K G)) (hr:Room k X.A) (hg:Gl X x) (hm:X.mg x=some (.ref f)) (hk:zbo3 X.K (.ref f)=true)
  (hb:Binds X.K fd ps []) (ha:PA X (a::es) (dA X.K F g)) (hdb:(x ==("__debug__":Str))=false:=by decide) (he:zbk2 (a::es) X.env=(false,eval a X.env)::zbk2 es X.env:=by rfl)
  (hpl:(zbq3 pos (zbk2 es X.env)).any (·.1)=false:=by rfl):PE X (.Call (.Name x p) (a::es) [] pos) (dE X.K F (dT1 (zc9 G) g)):=by
 refine PE.imp (zba6 Fn hr hg hm hk hb .nil (E:=E0) pass0 ha hdb he hpl) ?_
 rintro σ H Q ⟨A,t,r,R,e,h⟩
 unfold dT1 at e
 cases e1:g t with
 |none=>rw [e1]at e;cases e
 |some rs =>
  rw [e1]at e
  refine⟨A,t,rs,R,e1,fun vs H1 g1 q1=>?_⟩
  show spD X.K G (vs++[]) H1 Q E0
  rw [zbq9]
  exact call_up R.mu g1 q1 e fun v H' g' w=>h v H' (g1.trans g') w
noncomputable def CallD (X:Cx) (F:List Addr) (f:Value) (k:List Ev→Option Ev):Prop :=
 ∀(pins:List (Addr×Obj)) (s:zbj7) (σ:L2.St) (H0 H:Hp) (A:List Addr) (xs:List V) (us:List Value) (Q:VK) (rs:List Ev) (r:Ev),Inv X pins σ H s→Lists H0 (A++F)→Same H0 H→Vals xs us→RepEvs X.K F A H0 H rs xs→k rs=some r →
  (∀z H',Same H H'→RepEv X.K F A H0 H' r z→Q z H')→wpAny (model X.prog X.w) X.A (call f us) (EP X pins σ Q) X.xe s
theorem PA.run (ha:PA X es (dA X.K F g)) {k:List Ev→Option Ev}{f:Value} (hc:CallD X F f k) {pins:List (Addr×Obj)}{s:zbj7}{σ:L2.St}{H:Hp}{Q:VK} (p:Pos) (I:Inv X pins σ H s) (h:dE X.K F (dT1 k g) σ H Q) :
  wpAny (model X.prog X.w) X.A (spliced (zbq3 p (zbk2 es X.env))) (fun us s1=>wpAny (model X.prog X.w) X.A (call f us) (EP X pins σ Q) X.xe s1) X.xe s:=by
 obtain⟨A,t,r,R,e,h⟩:=h
 unfold dT1 at e
 cases e1:g t with
 |none=>rw [e1]at e;cases e
 |some rs =>
  rw [e1]at e
  refine thn (ha p pins s σ H (fun vs H1=>Same H H1∧RepEvs X.K F A H H1 rs vs) I ⟨A,t,rs,R,e1,fun vs H1 g1 q1=>⟨g1,q1⟩⟩) fun us s1 ⟨vs,H1,I1,r1,g1,q1⟩=>?_
  exact hc pins s1 σ H H1 A vs us Q rs r I1 R.mu g1 r1 q1 e fun z H' g'=>h z H' (g1.trans g')
theorem zb7 {k:List Ev→Option Ev}{x:Str}{p:Pos}{id:String} (hc:CallD X F (.builtin id) k) (hg:Gl X x) (hm:X.mg x=none) (hv:bootBuiltins x=some (.builtin id)) (ha:PA X (a::es) (dA X.K F g)) (hn:x≠"__name__":=by decide) (hdb:(x ==("__debug__":Str))=false:=by decide)
  (he:zbk2 (a::es) X.env=(false,eval a X.env)::zbk2 es X.env:=by rfl) (hpl:(zbq3 pos (zbk2 es X.env)).any (·.1)=false:=by rfl):PE X (.Call (.Name x p) (a::es) [] pos) (dE X.K F (dT1 k g)):=by
 intro pins s σ H Q I h
 refine wpAny_Call_Name_kw (zl9 I hg hm hv ?_ hn hdb)
 exact PyProof.Rows.callWith_builtin1 (PA.run ha hc pos I h) he hpl
theorem zi6 {k:List Ev→Option Ev}{x:Str}{p:Pos}{T:String} (hc:CallD X F (.type T) k) (hg:Gl X x) (hm:X.mg x=none) (hv:bootBuiltins x=some (.type T)) (ha:PA X (a::es) (dA X.K F g)) (hn:x≠"__name__":=by decide) (hdb:(x ==("__debug__":Str))=false:=by decide)
  (he:zbk2 (a::es) X.env=(false,eval a X.env)::zbk2 es X.env:=by rfl) (hpl:(zbq3 pos (zbk2 es X.env)).any (·.1)=false:=by rfl):PE X (.Call (.Name x p) (a::es) [] pos) (dE X.K F (dT1 k g)):=by
 intro pins s σ H Q I h
 refine wpAny_Call_Name_kw (zl9 I hg hm hv ?_ hn hdb)
 exact PyProof.Rows.callWith_type1 (PA.run ha hc pos I h) he hpl
theorem CallD.of {f:Value}{r:List V→Hp→VK→Prop}{k:List Ev→Option Ev} (h:zn7 X f r)
  (i:∀(H0 H:Hp) (A:List Addr) (xs:List V) (rs:List Ev) (e:Ev) (Q:VK),Lists H0 (A++F)→Same H0 H→RepEvs X.K F A H0 H rs xs→k rs=some e→(∀z H',Same H H'→RepEv X.K F A H0 H' e z→Q z H')→r xs H Q):CallD X F f k :=
 fun pins s σ H0 H A xs us Q rs e I m g v q ek hq=>h pins s σ H xs us Q I v (i H0 H A xs rs e Q m g q ek hq)
noncomputable def kLen:List Ev→Option Ev:=fun rs=>match rs with
 |[r]=>(match r.d with
  |.lst xs=>some (.cl (.int xs.length))
  |.tup xs=>some (.cl (.int xs.length))
  |_=>none)
 |_=>none
theorem zm3:CallD X F (.builtin "len") kLen:=CallD.of zaj7 fun H0 H A xs rs e Q m g q ek hq=>by
 unfold kLen at ek
 split at ek
 ·rename_i r
  cases q with
  |cons q1 q2 =>
   cases q2
   have p:=q1.full
   split at ek
   ·rename_i ds z
    cases ek
    rw [z]at p
    cases p with
    |lst h1 h2=>exact⟨_,_,rfl,.inl h1,by rw [h2.length];exact hq _ H (Same.refl H) (.int _)⟩
   ·rename_i ds z
    cases ek
    rw [z]at p
    cases p with
    |tup h1 h2=>exact⟨_,_,rfl,.inr h1,by rw [h2.length];exact hq _ H (Same.refl H) (.int _)⟩
   ·cases ek
 ·cases ek
end
end DL
namespace DL
open PySem.Spec L2
abbrev DT:=Th→Option Bool
def dT (K:zbi5) (F:List Addr) (f:DT):TT:=fun σ H Q => ∃A t b,RS K F H A t σ∧f t=some b∧∀H',Same H H'→Q b H'
theorem PT.imp {X:Cx}{e:Expr}{t t':TT} (h:PT X e t) (i:∀σ H Q,t' σ H Q→t σ H Q):PT X e t':=fun pins s σ H Q I q=>h pins s σ H Q I (i σ H Q q)
theorem PW.imp {X:Cx}{e:Expr}{t t':TT} (h:PW X e t) (i:∀σ H Q,t' σ H Q→t σ H Q):PW X e t':=fun w pins s σ H Q I q=>h w pins s σ H Q I (i σ H Q q)
noncomputable def truD:D→Option Bool
 |.non=>some false
 |.bl b=>some b
 |.int i=>some (i != 0)
 |.tup xs=>some (!xs.isEmpty)
 |.lst xs=>some (!xs.isEmpty)
 |.dct ks _=>some (!ks.isEmpty)
 |.pdc _=>none
 |.str y=>if y.length≤100000 then some ((y.length:Int) != 0) else none
theorem zq7 {α β:Type}{xs:List α}{ys:List β} (h:xs.length=ys.length):xs.isEmpty=ys.isEmpty:=by
 cases xs<;>cases ys<;>simp_all
theorem truV_of {K:zbi5}{H:Hp}{d:D}{v:V}{b:Bool} (r:Rep K H d v) (e:truD d=some b):TruV K v H b:=by
 cases r with
 |non=>cases e;rfl
 |bl b=>cases e;rfl
 |int i=>cases e;rfl
 |str x =>
  simp only [truD]at e
  split at e
  ·cases e;exact⟨le_line (by assumption),rfl⟩
  ·cases e
 |tup h1 h2=>cases e;exact .inr (.inl ⟨_,h1,by rw [zq7 h2.length]⟩)
 |lst h1 h2=>cases e;exact .inl ⟨_,h1,by rw [zq7 h2.length]⟩
 |@dct ks ds p vs l h1 h2 =>
  cases e
  have e1:(mkKV ks vs).length=ks.length:=by unfold mkKV;rw [List.length_zip];lia
  exact .inr (.inr ⟨_,h1,by rw [zq7 e1]⟩)
 |pdc h=>cases e
def dTr (f:DE):DT:=fun t=>(f t).bind fun r=>truD r.d
def dBo (f:DE):DT:=fun t=>(f t).bind fun r=>match r.d with
 |.bl b=>some b
 |_=>none
def dAnd (f g:DT):DT:=fun t=>(f t).bind fun b=>if b then g t else some false
def dOr (f g:DT):DT:=fun t=>(f t).bind fun b=>if b then some true else g t
def dNot (f:DT):DT:=fun t=>(f t).bind fun b=>some (!b)
section
variable {X:Cx}{F:List Addr}{a b c:Expr}{es:List Expr}{fa fb fc:DE}{g g':DA}{ft fu:DT}{pos:Pos}{rest:List Expr}
theorem zl4 (ha:PE X a (dE X.K F fa)) (he:∀whole,isTrue a X.env whole=(do let v ← whole;standAt a.pos;holding [v] (truthy v)):=by intro _;rfl):PT X a (dT X.K F (dTr fa)):=by
 refine PT.imp (pt_truth ha he) ?_
 rintro σ H Q ⟨A,t,r,R,e,h⟩
 unfold dTr at e
 cases e1:fa t with
 |none=>rw [e1]at e;cases e
 |some r1 =>
  rw [e1]at e
  exact⟨A,t,r1,R,e1,fun v H' g' q=>⟨r,truV_of q.full e,h H' g'⟩⟩
theorem zc3 {op:CmpOp}{k:Ev→Ev→Option Ev} (ho:OpD X F (compareOp op) k) (ha:PE X a (dE X.K F fa)) (hb:PE X b (dE X.K F fb)) (hm:behindInMarks op b=false:=by first | exact nomark _ | (with_unfolding_all rfl)) :
  PT X (.Compare a [op] [b] pos) (dT X.K F (dBo (d2 k fa fb))):=by
 intro pins s σ H Q I h
 obtain⟨A,t,b',R,e,h⟩:=h
 unfold dBo at e
 cases e1:d2 k fa fb t with
 |none=>rw [e1]at e;cases e
 |some r0 =>
  rw [e1]at e
  have w0:dE X.K F (d2 k fa fb) σ H (fun z H'=>Same H H'∧Rep X.K H' r0.d z):=⟨A,t,r0,R,e1,fun v H' g q=>⟨g,q.full⟩⟩
  obtain⟨A2,t2,r1,r2,r,R2,e1',e2',e3,h3,w⟩:=two w0
  refine wpAny_isTrue_Compare1 (bin ha hb I w fun v u s2 x y H2 I2 rx ry q=>?_) hm
  obtain⟨g,q1,q2⟩:=q
  refine thn (ho pins s2 σ H H2 A2 x y v u (fun z H'=>Same H H'∧Rep X.K H' r0.d z) r1 r2 r I2 R2.mu g rx ry q1 q2 e3 fun z H' g'=>h3 z H' (g.trans g')) fun cc s3 ⟨z,H3,I3,r3,g3,q3⟩=>?_
  have e:(match r0.d with | .bl b=>some b | _=>none)=some b':=e
  split at e
  ·rename_i b2 z2
   cases e
   rw [z2]at q3
   cases q3
   cases r3
   exact wpAny_truthy_bool ⟨H3,I3,h H3 g3⟩
  ·cases e
theorem zi5 (ha:PT X a (dT X.K F ft)):PW X (.BoolOp .And [a] pos) (dT X.K F ft):=pw_and1 ha
theorem zw5 (ha:PT X a (dT X.K F ft)):PW X (.BoolOp .Or [a] pos) (dT X.K F ft):=pw_or1 ha
theorem zl3 (ha:PT X a (dT X.K F ft)) (hb:PW X (.BoolOp .And (b::rest) pos) (dT X.K F fu)):PW X (.BoolOp .And (a::b::rest) pos) (dT X.K F (dAnd ft fu)):=by
 refine PW.imp (pw_and ha hb) ?_
 rintro σ H Q ⟨A,t,r,R,e,h⟩
 unfold dAnd at e
 cases e1:ft t with
 |none=>rw [e1]at e;cases e
 |some r1 =>
  rw [e1]at e
  refine⟨A,t,r1,R,e1,fun H1 g1=>?_⟩
  cases r1 with
  |true=>exact⟨A,t,r,R.grow g1,e,fun H2 g2=>h H2 (g1.trans g2)⟩
  |false=>cases e;exact h H1 g1
theorem zag8 (ha:PT X a (dT X.K F ft)) (hb:PW X (.BoolOp .Or (b::rest) pos) (dT X.K F fu)):PW X (.BoolOp .Or (a::b::rest) pos) (dT X.K F (dOr ft fu)):=by
 refine PW.imp (pw_or ha hb) ?_
 rintro σ H Q ⟨A,t,r,R,e,h⟩
 unfold dOr at e
 cases e1:ft t with
 |none=>rw [e1]at e;cases e
 |some r1 =>
  rw [e1]at e
  refine⟨A,t,r1,R,e1,fun H1 g1=>?_⟩
  cases r1 with
  |true=>cases e;exact h H1 g1
  |false=>exact⟨A,t,r,R.grow g1,e,fun H2 g2=>h H2 (g1.trans g2)⟩
theorem zw6 (ha:PT X a (dT X.K F ft)):PT X (.UnaryOp .Not a pos) (dT X.K F (dNot ft)):=by
 refine PT.imp (pt_not ha) ?_
 rintro σ H Q ⟨A,t,r,R,e,h⟩
 unfold dNot at e
 cases e1:ft t with
 |none=>rw [e1]at e;cases e
 |some r1 =>
  rw [e1]at e
  cases e
  exact⟨A,t,r1,R,e1,fun H1 g1=>h H1 g1⟩
def dOrV (f g:DE):DE:=fun t=>(f t).bind fun r=>match r.d with
 |.bl b=>if b then some (.cl (.bl true)) else g t
 |_=>none
theorem ped_one {op} (h:PE X a (dE X.K F fa)):PE X (.BoolOp op [a] pos) (dE X.K F fa):=pe_one h
theorem ped_or (ha:PE X a (dE X.K F fa)) (hb:PE X (.BoolOp .Or (b::rest) pos) (dE X.K F fb)):PE X (.BoolOp .Or (a::b::rest) pos) (dE X.K F (dOrV fa fb)):=by
 refine PE.imp (pe_or ha hb) ?_
 rintro σ H Q ⟨A,t,r,R,e,h⟩
 unfold dOrV at e
 cases e1:fa t with
 |none=>rw [e1]at e;cases e
 |some r1 =>
  rw [e1]at e
  refine⟨A,t,r1,R,e1,fun v H1 g1 q1=>?_⟩
  have p:=q1.full
  have e:(match r1.d with | .bl b=>if b then some (.cl (.bl true)) else fb t | _=>none)=some r:=e
  split at e
  ·rename_i b2 z
   rw [z]at p
   cases p
   refine⟨b2,rfl,?_⟩
   cases b2 with
   |false=>exact⟨A,t,r,R.grow g1,e,fun v2 H2 g2 q2=>h v2 H2 (g1.trans g2) (q2.back g1)⟩
   |true=>cases e;exact h _ H1 g1 (.bl true)
  ·cases e
end
inductive Out where
 |nx (t:Th) |rt (r:Ev) |bk (t:Th) |ct (t:Th)
abbrev DS:=Th→Option Out
def After (K:zbi5) (F A:List Addr) (H:Hp) (N:L2.St→Hp→Prop) (t:Th):Prop := ∀σ' H' A',Gr A H A' H'→RS K F H' A' t σ'→N σ' H'
noncomputable def RetEv (K:zbi5) (F A:List Addr) (H H':Hp):Ev→V→Prop
 |.cl d,v=>Rep K (hide F H') d v
 |.tm d,v=>Rep K (hide F H') d v
 |.nw xs,v => ∃p vs,v=.ref p∧(p∈A∨H p=none)∧p∉F∧H' p=some (.lst vs)∧Reps K (hide (p::F) H') xs vs
 |.dn d,v => ∃B,B.Nodup∧(∀b∈B,(b∈A∨H b=none)∧b∉F)∧RepD K (hide (B++F) H') H' d v B
def Back (K:zbi5) (F A:List Addr) (H:Hp) (N:VK) (r:Ev):Prop := ∀v H' A',Gr A H A' H'→RetEv K F A H H' r v→N v H'
noncomputable def dS (K:zbi5) (F:List Addr) (g:DS):TS:=fun E σ H => ∃A t o,RS K F H A t σ∧g t=some o∧match o with
 |.nx t'=>After K F A H E.nx t'
 |.bk t'=>After K F A H E.bk t'
 |.ct t'=>After K F A H E.ct t'
 |.rt r=>Back K F A H E.rt r
end DL
namespace DL
open PySem.Spec L2
theorem RetEv.back {K:zbi5}{F A A1:List Addr}{H H1 H':Hp}{r:Ev}{v:V} (g:Gr A H A1 H1) (h:RetEv K F A1 H1 H' r v):RetEv K F A H H' r v:=by
 cases r with
 |cl d=>exact h
 |tm d=>exact h
 |nw xs =>
  obtain⟨p,vs,rfl,h1,h2,h3,h4⟩:=h
  refine⟨p,vs,rfl,?_,h2,h3,h4⟩
  rcases h1 with h1 | h1
  ·exact g.nw p h1
  ·by_cases z:p∈A
   ·exact .inl z
   ·refine .inr ?_
    cases w:H p with
    |none=>rfl
    |some o=>rw [g.kp p o z w]at h1;cases h1
 |dn d =>
  obtain⟨B,h0,h1,h2⟩:=h
  refine⟨B,h0,fun p hp=>⟨?_,(h1 p hp).2⟩,h2⟩
  rcases (h1 p hp).1 with h1 | h1
  ·exact g.nw p h1
  ·by_cases z:p∈A
   ·exact .inl z
   ·refine .inr ?_
    cases w:H p with
    |none=>rfl
    |some o=>rw [g.kp p o z w]at h1;cases h1
theorem After.back {K:zbi5}{F A A1:List Addr}{H H1:Hp}{N:L2.St→Hp→Prop}{t:Th} (h:After K F A H N t) (g:Gr A H A1 H1):After K F A1 H1 N t:=fun σ' H' A' g' R=>h σ' H' A' (g.trans g') R
theorem Back.back {K:zbi5}{F A A1:List Addr}{H H1:Hp}{N:VK}{r:Ev} (h:Back K F A H N r) (g:Gr A H A1 H1):Back K F A1 H1 N r:=fun v H' A' g' R=>h v H' A' (g.trans g') (R.back g)
theorem PS.imp {X:Cx}{e:Stmt}{t t':TS} (h:PS X e t) (i:∀E σ H,t' E σ H→t E σ H):PS X e t':=fun pins s σ H D I q=>h pins s σ H D I (i D σ H q)
theorem PSs.imp {X:Cx}{e:List Stmt}{t t':TS} (h:PSs X e t) (i:∀E σ H,t' E σ H→t E σ H):PSs X e t':=fun pins s σ H D I q=>h pins s σ H D I (i D σ H q)
theorem Lists.left {H:Hp}{A F:List Addr} (h:Lists H (A++F)):Lists H A:=fun p hp=>h p (zbi7 _ hp)
def zh0:DS:=fun t=>some (.nx t)
noncomputable def dSeq (g1 g2:DS):DS:=fun t=>(g1 t).bind fun o=>match o with
 |.nx t'=>g2 t'
 |.rt r=>some (.rt r)
 |.bk t'=>some (.bk t')
 |.ct t'=>some (.ct t')
section
variable {X:Cx}{F:List Addr}{a b c:Expr}{es:List Expr}{fa fb fc:DE}{g g1 g2:DS}{ft fu:DT}{pos:Pos}{st:Stmt}{rest:List Stmt}
theorem zf7:PSs X [] (dS X.K F zh0):=PSs.imp zal2 fun E σ H ⟨A,t,o,R,e,h⟩=>by cases e;exact h σ H A (Gr.refl R.mu.left) R
theorem za6 (h1:PS X st (dS X.K F g1)) (h2:PSs X rest (dS X.K F g2)):PSs X (st::rest) (dS X.K F (dSeq g1 g2)):=by
 refine PSs.imp (zp7 h1 h2) ?_
 rintro E σ H ⟨A,t,o,R,e,h⟩
 unfold dSeq at e
 cases e1:g1 t with
 |none=>rw [e1]at e;cases e
 |some o1 =>
  rw [e1]at e
  refine⟨A,t,o1,R,e1,?_⟩
  cases o1 with
  |nx t' =>
   intro σ' H' A' g' R'
   refine⟨A',t',o,R',e,?_⟩
   cases o with
   |nx t2=>exact After.back h g'
   |bk t2=>exact After.back h g'
   |ct t2=>exact After.back h g'
   |rt r=>exact Back.back h g'
  |rt r=>cases e;exact h
  |bk t2=>cases e;exact h
  |ct t2=>cases e;exact h
theorem zb1 (h1:PS X st (dS X.K F g1)):PSs X [st] (dS X.K F g1):=zad4 h1
def dBrk:DS:=fun t=>some (.bk t)
theorem zaz0:PS X (.Break pos) (dS X.K F dBrk):=PS.imp ps_break fun E σ H ⟨A,t,o,R,e,h⟩=>by cases e;exact h σ H A (Gr.refl R.mu.left) R
def dIfS (c:DT) (g1 g2:DS):DS:=fun t=>(c t).bind fun b=>if b then g1 t else g2 t
theorem zh6 {s1 s2:List Stmt} (hc:PT X c (dT X.K F ft)) (ha:PSs X s1 (dS X.K F g1)) (hb:PSs X s2 (dS X.K F g2)):PS X (.If c s1 s2 pos) (dS X.K F (dIfS ft g1 g2)):=by
 refine PS.imp (ps_if hc ha hb) ?_
 rintro E σ H ⟨A,t,o,R,e,h⟩
 unfold dIfS at e
 cases e1:ft t with
 |none=>rw [e1]at e;cases e
 |some r1 =>
  rw [e1]at e
  refine⟨A,t,r1,R,e1,fun H1 gs=>?_⟩
  have gr:Gr A H A H1:=Gr.of_same R.mu.left gs
  cases r1 with
  |true =>
   refine⟨A,t,o,R.grow gs,e,?_⟩
   cases o with
   |nx t2=>exact After.back h gr
   |bk t2=>exact After.back h gr
   |ct t2=>exact After.back h gr
   |rt r=>exact Back.back h gr
  |false =>
   refine⟨A,t,o,R.grow gs,e,?_⟩
   cases o with
   |nx t2=>exact After.back h gr
   |bk t2=>exact After.back h gr
   |ct t2=>exact After.back h gr
   |rt r=>exact Back.back h gr
def dRet (f:DE):DS:=fun t=>(f t).bind fun r=>some (.rt r)
theorem RetEv.of {K:zbi5}{F A:List Addr}{H H':Hp}{r:Ev}{v:V} (m:Lists H (A++F)) (h:RepEv K F A H H' r v):RetEv K F A H H' r v:=by
 cases r with
 |cl d=>exact Rep.mono (zb5 H' fun a z=>zbi4 _ z) h
 |tm d=>exact h
 |nw xs =>
  obtain⟨p,vs,rfl,h1,h2,h3⟩:=h
  have np:p∉A++F:=zd4 m h1
  refine⟨p,vs,rfl,.inr h1,fun z=>np (zbi4 _ z),h2,Reps.mono (zb5 H' fun a z=>?_) h3⟩
  rcases zbj4.mp z with z | z
  ·rw [z];exact zbi9 ..
  ·exact zbi6 _ (zbi4 _ z)
 |dn d =>
  obtain⟨B,h1,h2,h3⟩:=h
  refine⟨B,h1,fun b hb=>⟨.inr (h2 b hb),fun z=>zd4 m (h2 b hb) (zbi4 _ z)⟩,RepD.mono (zb5 H' fun a z=>?_) h3 fun _ _ _ q=>q⟩
  rcases zbj2.mp z with z | z
  ·exact zbi7 _ z
  ·exact zbi4 _ (zbi4 _ z)
theorem zd6 (ha:PE X a (dE X.K F fa)):PS X (.Return (some a) pos) (dS X.K F (dRet fa)):=by
 refine PS.imp (ps_ret ha) ?_
 rintro E σ H ⟨A,t,o,R,e,h⟩
 unfold dRet at e
 cases e1:fa t with
 |none=>rw [e1]at e;cases e
 |some r1 =>
  rw [e1]at e
  cases e
  exact⟨A,t,r1,R,e1,fun v H' gs q=>h v H' A (Gr.of_same R.mu.left gs) (RetEv.of R.mu q)⟩
noncomputable def zbf0 (i:Nat):DS:=fun t=>match t[i]? with
 |some (.own xs)=>some (.rt (.nw xs))
 |some (.val d)=>some (.rt (.cl d))
 |some (.dp d)=>some (.rt (.dn d))
 |_=>none
theorem zaq3 (i:Nat) {x:Str}{pos':Pos} (hN:X.N[i]?=some x:=by rfl) (hv:Vis X.env.scope x:=by first | exact Or.inl rfl | exact Or.inr (Or.inl rfl) |exact Or.inr (Or.inr rfl)) (hd:(x ==("__debug__":Str))=false:=by decide)
  (hcd:(x ==("__classdict__":Str))=false:=by decide):PS X (.Return (some (.Name x pos')) pos) (dS X.K F (zbf0 i)):=by
 refine PS.imp (ps_ret (zo2 (i:=i) hN hv hd hcd)) ?_
 rintro E σ H ⟨A,t,o,R,e,h⟩
 unfold zbf0 at e
 split at e
 ·rename_i ds q
  cases e
  obtain⟨p,vs,h1,h2,h3,h4⟩:=R.rel.getOwn q
  refine⟨_,h1,h _ H A (Gr.refl R.mu.left) ⟨p,vs,rfl,.inl h2,R.dj p h2,h3,Reps.mono (zb5 H fun a z=>?_) h4⟩⟩
  rcases zbj4.mp z with z | z
  ·rw [z];exact zbi7 _ h2
  ·exact zbi4 _ z
 ·rename_i d q
  cases e
  obtain⟨v,h1,h2⟩:=R.rel.getVal q
  exact⟨v,h1,h v H A (Gr.refl R.mu.left) (Rep.mono (zb5 H fun a z=>zbi4 _ z) h2)⟩
 ·rename_i d q
  cases e
  obtain⟨v,B,h1,h2,h0,h3⟩:=R.rel.getDp R.nd q
  refine⟨v,h1,h v H A (Gr.refl R.mu.left) ⟨B,h0,fun b hb=>⟨.inl (h2 b hb),R.dj b (h2 b hb)⟩,RepD.mono (zb5 H fun a z=>?_) h3 fun _ _ _ q=>q⟩⟩
  rcases zbj2.mp z with z | z
  ·exact zbi7 _ (h2 a z)
  ·exact zbi4 _ z
 ·cases e
end
theorem RSl.setVal {K:zbi5}{H0 H:Hp}{d:D}{v:V} (h:Rep K H0 d v):∀ {t:Th}{σ:L2.St}{A:List Addr} (i:Nat),RSl K H0 H t σ A→i<t.length→∃A',RSl K H0 H (t.set i (.val d)) (σ.set i (some v)) A'∧List.Sublist A' A
 |_,_,_,_,.nil,l=>by simp at l
 |_,_,_,0,.no r,_=>⟨_,.val h r,List.Sublist.refl _⟩
 |_,_,_,0,.val _ r,_=>⟨_,.val h r,List.Sublist.refl _⟩
 |_,_,_,0,.own _ _ r,_=>⟨_,.val h r,zbw5 _ _⟩
 |_,_,_,0,.dp _ r,_=>⟨_,.val h r,zbu9 _ _⟩
 |_,_,_,i+1,.no r,l=>let ⟨A',a,b⟩:=RSl.setVal h i r (by simpa using l);⟨A',.no a,b⟩
 |_,_,_,i+1,.val q r,l=>let ⟨A',a,b⟩:=RSl.setVal h i r (by simpa using l);⟨A',.val q a,b⟩
 |_,_,_,i+1,.own q1 q2 r,l=>let ⟨A',a,b⟩:=RSl.setVal h i r (by simpa using l);⟨_,.own q1 q2 a,b.cons₂ _⟩
 |_,_,_,i+1,.dp q r,l=>let ⟨A',a,b⟩:=RSl.setVal h i r (by simpa using l);⟨_,.dp q a,List.Sublist.append (List.Sublist.refl _) b⟩
theorem RSl.setAny {K:zbi5}{H0 H:Hp}{s:Sl}{v:V}{B:List Addr} (h:∀ {t:Th}{σ:L2.St}{A:List Addr},RSl K H0 H t σ A→RSl K H0 H (s::t) (some v::σ) (B++A)):∀ {t:Th}{σ:L2.St}{A:List Addr} (i:Nat),RSl K H0 H t σ A→i<t.length →
  ∃A',RSl K H0 H (t.set i s) (σ.set i (some v)) A'∧(∀x∈A',x∈B∨x∈A)∧(A.Nodup→B.Nodup→(∀b∈B,b∉A)→A'.Nodup)
 |_,_,_,_,.nil,l=>by simp at l
 |_,_,A,0,.no r,_=>⟨_,h r,fun x hx=>zbj2.mp hx,fun n1 n2 d=>zbk9.mpr ⟨n2,n1,fun a ha b hb e=>d a ha (e ▸ hb)⟩⟩
 |_,_,A,0,.val _ r,_=>⟨_,h r,fun x hx=>zbj2.mp hx,fun n1 n2 d=>zbk9.mpr ⟨n2,n1,fun a ha b hb e=>d a ha (e ▸ hb)⟩⟩
 |_,_,_,0,.own _ _ r,_=>⟨_,h r,fun x hx=>(zbj2.mp hx).imp id (zbi6 _),fun n1 n2 d=>zbk9.mpr ⟨n2,(zbl0.mp n1).2,fun a ha b hb e=>d a ha (e ▸ zbi6 _ hb)⟩⟩
 |_,_,_,0,.dp _ r,_=>⟨_,h r,fun x hx=>(zbj2.mp hx).imp id (zbi4 _),fun n1 n2 d=>zbk9.mpr ⟨n2,(zbk9.mp n1).2.1,fun a ha b hb e=>d a ha (e ▸ zbi4 _ hb)⟩⟩
 |_,_,_,i+1,.no r,l=>let ⟨A',a,b,c⟩:=RSl.setAny h i r (by simpa using l);⟨A',.no a,b,c⟩
 |_,_,_,i+1,.val q r,l=>let ⟨A',a,b,c⟩:=RSl.setAny h i r (by simpa using l);⟨A',.val q a,b,c⟩
 |_,_,_,i+1,.own (p:=p2) q1 q2 r,l=>by
  obtain⟨A',a,b,c⟩:=RSl.setAny h i r (by simpa using l)
  refine⟨_,.own q1 q2 a,fun x hx=>?_,fun nd nb np=>?_⟩
  ·rcases zbj4.mp hx with z | z
   ·exact .inr (z ▸ zbi9 ..)
   ·exact (b x z).imp id (zbi6 _)
  ·have n1:=zbl0.mp nd
   refine zbl0.mpr ⟨fun z=>?_,c n1.2 nb fun x hx z=>np x hx (zbi6 _ z)⟩
   rcases b _ z with z | z
   ·exact np _ z (zbi9 ..)
   ·exact n1.1 z
 |_,_,_,i+1,.dp (B:=C) q r,l=>by
  obtain⟨A',a,b,c⟩:=RSl.setAny h i r (by simpa using l)
  refine⟨_,.dp q a,fun x hx=>?_,fun nd nb np=>?_⟩
  ·rcases zbj2.mp hx with z | z
   ·exact .inr (zbi7 _ z)
   ·exact (b x z).imp id (zbi4 _)
  ·have n1:=zbk9.mp nd
   refine zbk9.mpr ⟨n1.1,c n1.2.1 nb fun x hx z=>np x hx (zbi4 _ z),fun x hx y hy e=>?_⟩
   subst e
   rcases b _ hy with z | z
   ·exact np _ z (zbi7 _ hx)
   ·exact n1.2.2 _ hx _ z rfl
theorem RS.putAny {K:zbi5}{F A:List Addr}{H H':Hp}{t:Th}{σ:L2.St}{i:Nat}{s:Sl}{v:V}{B:List Addr} (R:RS K F H A t σ) (g:Same H H') (fr:∀b∈B,H b=none) (nb:B.Nodup) (lb:Lists H' B)
  (mk:∀ {t:Th}{σ:L2.St}{A':List Addr},RSl K (hide (B++(A++F)) H') H' t σ A'→RSl K (hide (B++(A++F)) H') H' (s::t) (some v::σ) (B++A')) (hi:i<t.length) :
  ∃A',Gr A H A' H'∧RS K F H' A' (t.set i s) (σ.set i (some v)):=by
 have R':=R.grow g
 have np:∀b∈B,b∉A++F:=fun b hb=>zd4 R.mu (fr b hb)
 have r0:RSl K (hide (B++(A++F)) H') H' t σ A:=RSl.mono (fun b o h=>by
  obtain⟨n,h⟩:=zn2 h
  refine zc7 (g _ _ h) fun z=>?_
  rcases zbj2.mp z with z | z
  ·rw [fr b z]at h;cases h
  ·exact n z) R.rel fun b _ o h=>g _ _ h
 obtain⟨A',r1,sub,nd⟩:=RSl.setAny mk i r0 hi
 refine⟨A',⟨fun b o _ h=>g b o h,fun b hb=>by obtain⟨ws,z⟩:=R.mu b (zbi7 _ hb);rw [g _ _ z];simp,fun b hb=>?_⟩,?_,nd R.nd nb fun b hb z=>np b hb (zbi7 _ z),fun b hb=>?_,?_⟩
 ·rcases sub b hb with z | z
  ·exact .inr (fr b z)
  ·exact .inl z
 ·intro b hb
  rcases zbj2.mp hb with z | z
  ·rcases sub b z with z | z
   ·exact lb b z
   ·exact R'.mu b (zbi7 _ z)
  ·exact R'.mu b (zbi4 _ z)
 ·rcases sub b hb with z | z
  ·exact fun w=>np b z (zbi4 _ w)
  ·exact R.dj b z
 ·refine RSl.mono (zb5 H' fun b z=>?_) r1 fun _ _ _ h=>h
  rcases zbj2.mp z with z | z
  ·rcases sub b z with z | z
   ·exact zbi7 _ z
   ·exact zbi4 _ (zbi7 _ z)
  ·exact zbi4 _ (zbi4 _ z)
noncomputable def zr1 (t:Th) (i:Nat) (r:Ev):Option Th:=if i<t.length then (match r with
 |.cl d=>some (t.set i (.val d))
 |.tm d=>if flat d then some (t.set i (.val d)) else none
 |.nw xs=>some (t.set i (.own xs))
 |.dn d=>some (t.set i (.dp d))) else none
theorem RS.put {K:zbi5}{F A:List Addr}{H H':Hp}{t t':Th}{σ:L2.St}{i:Nat}{r:Ev}{v:V} (R:RS K F H A t σ) (g:Same H H') (q:RepEv K F A H H' r v) (e:zr1 t i r=some t') :
  ∃A',Gr A H A' H'∧RS K F H' A' t' (σ.set i (some v)):=by
 have R':=R.grow g
 have val:∀d,Rep K (hide (A++F) H') d v→i<t.length→∃A',Gr A H A' H'∧RS K F H' A' (t.set i (.val d)) (σ.set i (some v)):=fun d hd hi=>by
  obtain⟨A',r1,sub⟩:=RSl.setVal hd i R'.rel hi
  have sub':∀x∈A',x∈A:=fun x hx=>sub.subset hx
  refine⟨A',⟨fun b o _ h=>g b o h,fun b hb=>by obtain⟨vs,z⟩:=R.mu b (zbi7 _ hb);rw [g _ _ z];simp,fun b hb=>.inl (sub' b hb)⟩,?_,R.nd.sublist sub,fun p hp=>R.dj p (sub' p hp),?_⟩
  ·intro p hp
   rcases zbj2.mp hp with z | z
   ·exact R'.mu p (zbi7 _ (sub' p z))
   ·exact R'.mu p (zbi4 _ z)
  ·refine RSl.mono (zb5 H' fun a z=>?_) r1 fun _ _ _ h=>h
   rcases zbj2.mp z with z | z
   ·exact zbi7 _ (sub' a z)
   ·exact zbi4 _ z
 unfold zr1 at e
 split at e
 case isFalse=>cases e
 rename_i hi
 cases r with
 |cl d=>cases e;exact val d q hi
 |tm d =>
  simp only at e
  split at e
  ·rename_i f
   cases e
   exact val d (Rep.hid R'.mu f (Rep.mono (zb0 _ _) q)) hi
  ·cases e
 |nw xs =>
  cases e
  obtain⟨p,vs,rfl,h1,h2,h3⟩:=q
  exact R.putAny (B:=[p]) g (fun b hb=>by simp at hb;subst hb;exact h1) (by simp) (fun b hb=>by simp at hb;subst hb;exact⟨mL vs,h2⟩) (fun r=>.own h2 h3 r) hi
 |dn d =>
  cases e
  obtain⟨B,h1,h2,h3⟩:=q
  exact R.putAny (B:=B) g h2 h1 h3.lists (fun r=>.dp h3 r) hi
section
variable {X:Cx}{F:List Addr}{a b c:Expr}{es:List Expr}{fa fb fc:DE}{g g1 g2:DS}{ft fu:DT}{pos:Pos}{st:Stmt}{rest:List Stmt}
def dAsg (i:Nat) (f:DE):DS:=fun t=>(f t).bind fun r=>(zr1 t i r).map Out.nx
theorem zb9 {i:Nat}{x:Str}{pos':Pos} (hN:X.N.Nodup) (hi:X.N[i]?=some x) (hx:Loc X.env.scope x) (he:PE X a (dE X.K F fa)) (hs:swapsWith a (some (.Name x pos')) pos.line X.env=pure false:=by rfl) (hf:X.fn x=true∨X.env.scope.names.lookup x=some .local:=by first | exact .inl rfl | exact .inr rfl | assumption) :
  PS X (.Assign [.Name x pos'] a pos) (dS X.K F (dAsg i fa)):=by
 refine PS.imp (zah0 hN hi hx he hs hf) ?_
 rintro E σ H ⟨A,t,o,R,e,h⟩
 unfold dAsg at e
 cases e1:fa t with
 |none=>rw [e1]at e;cases e
 |some r1 =>
  rw [e1]at e
  have e:(zr1 t i r1).map Out.nx=some o:=e
  cases e2:zr1 t i r1 with
  |none=>rw [e2]at e;cases e
  |some t' =>
   rw [e2]at e
   cases e
   refine⟨A,t,r1,R,e1,fun v H' gs q=>?_⟩
   obtain⟨A',g',R'⟩:=R.put gs q e2
   exact h _ _ _ g' R'
end
end DL
namespace DL
open PySem.Spec L2
noncomputable def TgOk (K:zbi5) (F:List Addr) (g:TG) (k:D→Th→Option Th):Prop :=
 ∀σ H A t t' d x (Q:L2.St→Hp→Prop),RS K F H A t σ→Rep K (hide (A++F) H) d x→k d t=some t'→(∀σ2 A2,Gr A H A2 H→RS K F H A2 t' σ2→Q σ2 H)→g x σ H Q
noncomputable def TgsOk (K:zbi5) (F:List Addr) (g:TGs) (k:List D→Th→Option Th):Prop :=
 ∀σ H A t t' ds xs (Q:L2.St→Hp→Prop),RS K F H A t σ→Reps K (hide (A++F) H) ds xs→k ds t=some t'→(∀σ2 A2,Gr A H A2 H→RS K F H A2 t' σ2→Q σ2 H)→g xs σ H Q
def za5 (i:Nat):D→Th→Option Th:=fun d t=>zr1 t i (.cl d)
def zg0:List D→Th→Option Th:=fun ds t=>match ds with
 |[]=>some t
 |_=>none
noncomputable def zb2 (k:D→Th→Option Th) (k':List D→Th→Option Th):List D→Th→Option Th:=fun ds t=>match ds with
 |d::r=>(k d t).bind (k' r)
 |[]=>none
noncomputable def zf4 (n:Nat) (k:List D→Th→Option Th):D→Th→Option Th:=fun d t=>match d with
 |.tup ds=>if ds.length=n then k ds t else none
 |_=>none
theorem zb3 {K:zbi5}{F:List Addr} (i:Nat):TgOk K F (zbd7 i) (za5 i):=by
 intro σ H A t t' d x Q R r e h
 obtain⟨A',g,R'⟩:=R.put (i:=i) (r:=.cl d) (Same.refl H) r e
 exact h _ _ g R'
theorem zf6 {K:zbi5}{F:List Addr}:TgsOk K F gNil zg0:=by
 intro σ H A t t' ds xs Q R r e h
 cases r with
 |nil=>cases e;exact⟨rfl,h σ A (Gr.refl R.mu.left) R⟩
 |cons _ _=>cases e
theorem zc0 {K:zbi5}{F:List Addr}{g:TG}{g':TGs}{k:D→Th→Option Th}{k':List D→Th→Option Th} (h1:TgOk K F g k) (h2:TgsOk K F g' k'):TgsOk K F (gCons g g') (zb2 k k'):=by
 intro σ H A t t' ds xs Q R r e h
 cases r with
 |nil=>cases e
 |@cons d v ds vs r1 r2 =>
  unfold zb2 at e
  cases e1:k d t with
  |none=>simp only [e1]at e;cases e
  |some t1 =>
   simp only [e1]at e
   refine⟨v,vs,rfl,h1 σ H A t t1 d v _ R r1 e1 fun σ2 A2 g2 R2=>?_⟩
   exact h2 σ2 H A2 t1 t' ds vs Q R2 (Reps.mono g2.same r2) e fun σ3 A3 g3 R3=>h σ3 A3 (g2.trans g3) R3
theorem zj2 {K:zbi5}{F:List Addr}{n:Nat}{g':TGs}{k':List D→Th→Option Th} (h2:TgsOk K F g' k'):TgOk K F (gTup K n g') (zf4 n k'):=by
 intro σ H A t t' d x Q R r e h
 unfold zf4 at e
 split at e
 ·rename_i ds
  split at e
  ·rename_i hl
   cases r with
   |@tup _ p vs h1 hr=>exact⟨p,vs,rfl,SqT.mono (zb0 _ _) h1,by rw [hr.length];exact hl,h2 σ H A t t' ds vs Q R hr e h⟩
  ·cases e
 ·cases e
def zan5 (k:D→Th→Option Th) (f:DE):DS:=fun t=>(f t).bind fun r=>if r.ok then (k r.d t).map Out.nx else none
section
variable {X:Cx}{F:List Addr}{a b c:Expr}{es:List Expr}{fa fb fc:DE}{g g1 g2:DS}{ft fu:DT}{pos:Pos}{st:Stmt}{rest:List Stmt}{tg:Expr}{gt:TG}{kt:D→Th→Option Th}
theorem zal3 (he:PE X a (dE X.K F fa)) (hg:PG X tg gt) (ht:TgOk X.K F gt kt) (hs:swapsWithSole [tg] a pos.line X.env=pure false:=by rfl) (hw:swappedStores [tg] a X.env=pure none:=by rfl)
  (h1:(assignEach [tg] X.env).map (·.2)=[assign tg X.env]:=by rfl):PS X (.Assign [tg] a pos) (dS X.K F (zan5 kt fa)):=by
 refine PS.imp (zaz1 he hg hs hw h1) ?_
 rintro E σ H ⟨A,t,o,R,e,h⟩
 unfold zan5 at e
 cases e1:fa t with
 |none=>rw [e1]at e;cases e
 |some r1 =>
  rw [e1]at e
  have e:(if r1.ok then (kt r1.d t).map Out.nx else none)=some o:=e
  split at e
  case isFalse=>cases e
  rename_i ok
  cases e2:kt r1.d t with
  |none=>rw [e2]at e;cases e
  |some t' =>
   rw [e2]at e
   cases e
   refine⟨A,t,r1,R,e1,fun v H' gs q=>?_⟩
   exact ht σ H' A t t' r1.d v E.nx (R.grow gs) (q.clean R.mu gs ok) e2 fun σ2 A2 g2 R2=>h σ2 H' A2 ((Gr.of_same R.mu.left gs).trans g2) R2
end
noncomputable def forD (k:D→Th→Option Th) (body:DS):List D→Th→Option Out
 |[],t=>some (.nx t)
 |d::ds,t=>(k d t).bind fun t1=>(body t1).bind fun o=>match o with
  |.nx t'=>forD k body ds t'
  |.ct t'=>forD k body ds t'
  |.bk t'=>some (.nx t')
  |.rt r=>some (.rt r)
noncomputable def Post (K:zbi5) (F A:List Addr) (H:Hp) (E:Ends):Out→Prop
 |.nx t'=>After K F A H E.nx t'
 |.bk t'=>After K F A H E.bk t'
 |.ct t'=>After K F A H E.ct t'
 |.rt r=>Back K F A H E.rt r
theorem Post.back {K:zbi5}{F A A1:List Addr}{H H1:Hp}{E:Ends}{o:Out} (h:Post K F A H E o) (g:Gr A H A1 H1):Post K F A1 H1 E o:=by
 cases o with
 |nx t2=>exact After.back h g
 |bk t2=>exact After.back h g
 |ct t2=>exact After.back h g
 |rt r=>exact Back.back h g
theorem dS_mk {K:zbi5}{F A:List Addr}{g:DS}{E:Ends}{σ:L2.St}{H:Hp}{t:Th}{o:Out} (R:RS K F H A t σ) (e:g t=some o) (p:Post K F A H E o):dS K F g E σ H:=⟨A,t,o,R,e,by cases o<;>exact p⟩
theorem zbe8 {K:zbi5}{F:List Addr}{g:DS}{E:Ends}{σ:L2.St}{H:Hp} (h:dS K F g E σ H):∃A t o,RS K F H A t σ∧g t=some o∧Post K F A H E o:=by
 obtain⟨A,t,o,R,e,h⟩:=h
 exact⟨A,t,o,R,e,by cases o<;>exact h⟩
section
variable {X:Cx}{F:List Addr}{a b c:Expr}{es:List Expr}{fa fb fc:DE}{g g1 g2:DS}{ft fu:DT}{pos:Pos}{st:Stmt}{rest:List Stmt}{tg:Expr}{gt:TG}{kt:D→Th→Option Th}
theorem zae5 {K:zbi5}{J:It}{ds:List D}{E:Ends}{σ:L2.St}{H:Hp}{A:List Addr}{t:Th}{o:Out} (Good:List Addr→Hp→Prop) (ht:TgOk K F gt kt) (R:RS K F H A t σ) (e:forD kt g ds t=some o) (h:Post K F A H E o) (g0:Good A H)
  (keep:∀A H A' H',Good A H→Gr A H A' H'→Good A' H') (stop:∀A H,Good A H→J.stop ds.length H) (go:∀A H i,Good A H→i<ds.length→J.go i H)
  (yld:∀A H i x H',Good A H→Lists H (A++F)→J.yld i H x H'→i<ds.length→Same H H'∧∃d,ds[i]?=some d∧Rep K (hide (A++F) H') d x) :
  ∃W:Nat→Nat→L2.St→Hp→Prop,(∃m,W 0 m σ H)∧∀i m σ H,W i m σ H →
   (J.stop i H∧E.nx σ H)∨(J.go i H∧∃N:L2.St→Hp→Prop,(∀σ' H',N σ' H'→∃m',m' < m∧W (i+1) m' σ' H')∧∀x H',J.yld i H x H'→gt x σ H' fun σ2 H2=>dS K F g { E with nx:=N,ct:=N,bk:=E.nx } σ2 H2):=by
 refine⟨fun i m σ H=>i+m=ds.length∧∃A t o,forD kt g (ds.drop i) t=some o∧RS K F H A t σ∧Post K F A H E o∧Good A H,⟨ds.length,by lia,A,t,o,by simpa using e,R,h,g0⟩,?_⟩
 rintro i m σ H ⟨hm,A,t,o,e,R,h,gd⟩
 cases m with
 |zero =>
  have z:i=ds.length:=by lia
  subst z
  rw [zbz7]at e
  cases e
  exact .inl ⟨stop A H gd,h σ H A (Gr.refl R.mu.left) R⟩
 |succ m =>
  have hi:i<ds.length:=by lia
  refine .inr ⟨go A H i gd hi,fun σ' H'=>i+1+m=ds.length∧∃A t o,forD kt g (ds.drop (i+1)) t=some o∧RS K F H' A t σ'∧Post K F A H' E o∧Good A H',fun σ' H' q=>⟨m,zbs0 m,q⟩,fun x H' y=>?_⟩
  obtain⟨gs,d,hd,rd⟩:=yld A H i x H' gd R.mu y hi
  have ed:ds.drop i=d::ds.drop (i+1):=by
   have hd':ds[i]=d:=by
    rw [zbj6 hi]at hd
    exact Option.some.inj hd
   rw [← hd']
   exact zbv0 hi
  rw [ed]at e
  simp only [forD]at e
  cases e1:kt d t with
  |none=>rw [e1]at e;cases e
  |some t1 =>
   rw [e1]at e
   refine ht σ H' A t t1 d x _ (R.grow gs) rd e1 fun σ2 A2 gr3 R2=>?_
   have gr2:Gr A H A2 H':=(Gr.of_same R.mu.left gs).trans gr3
   have e:((g t1).bind fun o=>match o with
     |.nx t'=>forD kt g (ds.drop (i+1)) t'
     |.ct t'=>forD kt g (ds.drop (i+1)) t'
     |.bk t'=>some (.nx t')
     |.rt r=>some (.rt r))=some o:=e
   cases e2:g t1 with
   |none=>rw [e2]at e;cases e
   |some o2 =>
    rw [e2]at e
    refine dS_mk R2 e2 ?_
    cases o2 with
    |nx t'=>exact fun σ' H' A' g' R'=>⟨by lia,A',t',o,e,R',h.back (gr2.trans g'),keep _ _ _ _ gd (gr2.trans g')⟩
    |ct t'=>exact fun σ' H' A' g' R'=>⟨by lia,A',t',o,e,R',h.back (gr2.trans g'),keep _ _ _ _ gd (gr2.trans g')⟩
    |bk t'=>cases e;exact fun σ' H' A' g' R'=>h σ' H' A' (gr2.trans g') R'
    |rt r=>cases e;exact Back.back h gr2
noncomputable def dFor (k:D→Th→Option Th) (f:DE) (body:DS):DS:=fun t=>(f t).bind fun r=>match r.d with
 |.lst ds=>if r.ok then forD k body ds t else none
 |_=>none
theorem zt3 {body:List Stmt} (hp:PassesOwn (model X.prog X.w) X.A X.env X.xe) (hc:X.calm=true) (hl:PE X a (dE X.K F fa)) (hg:PG X tg gt) (ht:TgOk X.K F gt kt) (hb:PSs X body (dS X.K F g))
  (hs:∀x,foldedSetIterable a X.env x=pure x:=by intro _;rfl):PS X (.For tg a body [] pos) (dS X.K F (dFor kt fa g)):=by
 refine PS.imp (zaq5 hp hc (zba0 hl) hg hb hs) ?_
 intro E σ H hh
 obtain⟨A,t,o,R,e,h⟩:=zbe8 hh
 unfold dFor at e
 cases e1:fa t with
 |none=>rw [e1]at e;cases e
 |some r =>
  rw [e1]at e
  refine⟨A,t,r,R,e1,fun v H1 gs q=>?_⟩
  have e:(match r.d with
   |.lst ds=>if r.ok then forD kt g ds t else none
   |_=>none)=some o:=e
  split at e
  case h_2=>cases e
  rename_i ds z
  split at e
  case isFalse=>cases e
  rename_i ok
  have cl:=q.clean R.mu gs ok
  rw [z]at cl
  cases cl with
  |@lst _ p vs h1 h2 =>
   refine⟨p,rfl,⟨vs,SqL.mono (zb0 _ _) h1⟩,?_⟩
   refine zae5 (fun A H=>SqL X.K (hide (A++F) H) p vs∧Reps X.K (hide (A++F) H) ds vs) ht (R.grow gs) e (h.back (Gr.of_same R.mu.left gs)) ⟨h1,h2⟩ (fun A H A' H' q gr=>⟨SqL.mono gr.same q.1,Reps.mono gr.same q.2⟩)
    (fun A H q=>⟨vs,SqL.mono (zb0 _ _) q.1,by rw [h2.length];exact zbk1 _⟩) (fun A H i q hi=>?_) (fun A H i x H' q _ y hi=>?_)
   ·have hi':i<vs.length:=by rw [h2.length];exact hi
    exact⟨vs,vs[i],SqL.mono (zb0 _ _) q.1,zbj6 hi'⟩
   ·obtain⟨e1,e2⟩:=y
    have z:=e2 vs (SqL.mono (zb0 _ _) q.1)
    subst e1
    exact⟨Same.refl _,q.2.getV z⟩
def rngD (lo:Int) (n:Nat):List D:=(zbm1 n).map fun (i:Nat)=>D.int (lo+(i:Int))
def bigI (i:Int):Bool:=decide (-1000000000000≤i∧i≤1000000000000)
noncomputable def zz1 (k:D→Th→Option Th) (f:DE) (body:DS):DS:=fun t=>(f t).bind fun r=>match r.d with
 |.int n=>if bigI n then forD k body (rngD 0 n.toNat) t else none
 |_=>none
noncomputable def zbe9 (k:D→Th→Option Th) (f f':DE) (body:DS):DS:=fun t=>(f t).bind fun r=>(f' t).bind fun r'=>match r.d,r'.d with
 |.int lo,.int n=>if bigI n&&bigI lo then forD k body (rngD lo (n - lo).toNat) t else none
 |_,_=>none
theorem zt1 (lo:Int) (n:Nat):(rngD lo n).length=n:=by simp [rngD]
theorem zap8 {K:zbi5}{lo:Int}{n:Nat}{E:Ends}{σ:L2.St}{H:Hp}{A:List Addr}{t:Th}{o:Out} (ht:TgOk K F gt kt) (R:RS K F H A t σ) (e:forD kt g (rngD lo n) t=some o) (h:Post K F A H E o) :
  ∃W:Nat→Nat→L2.St→Hp→Prop,(∃m,W 0 m σ H)∧∀i m σ H,W i m σ H →
   ((Itr lo n).stop i H∧E.nx σ H)∨((Itr lo n).go i H∧∃N:L2.St→Hp→Prop,(∀σ' H',N σ' H'→∃m',m' < m∧W (i+1) m' σ' H')∧∀x H',(Itr lo n).yld i H x H'→gt x σ H' fun σ2 H2=>dS K F g { E with nx:=N,ct:=N,bk:=E.nx } σ2 H2):=by
 refine zae5 (fun _ _=>True) ht R e h trivial (fun _ _ _ _ _ _=>trivial) (fun A H _=>?_) (fun A H i _ hi=>?_) (fun A H i x H' _ _ y hi=>?_)
 ·rw [zt1];exact zbk1 n
 ·rw [zt1]at hi;exact hi
 ·rw [zt1]at hi
  obtain⟨e1,e2⟩:=y
  subst e1
  refine⟨Same.refl _,.int (lo+i),by simp [rngD,hi],?_⟩
  rw [e2];exact .int _
theorem zp8 {body:List Stmt}{p1 p2:Pos} (hp:PassesOwn (model X.prog X.w) X.A X.env X.xe) (hc:X.calm=true) (hgr:Gl X "range") (hm:X.mg "range"=none) (ha:PE X a (dE X.K F fa)) (hg:PG X tg gt) (ht:TgOk X.K F gt kt) (hb:PSs X body (dS X.K F g))
  (hst:zbk2 [a] X.env=[(false,eval a X.env)]:=by rfl) (hs:∀x,foldedSetIterable (.Call (.Name "range" p1) [a] [] p2) X.env x=pure x:=by intro _;rfl):PS X (.For tg (.Call (.Name "range" p1) [a] [] p2) body [] pos) (dS X.K F (zz1 kt fa g)):=by
 refine PS.imp (zaq5 hp hc (zah2 hgr hm (zf9 ha zn9 hst) hst) hg hb hs) ?_
 intro E σ H hh
 obtain⟨A,t,o,R,e,h⟩:=zbe8 hh
 unfold zz1 at e
 cases e1:fa t with
 |none=>rw [e1]at e;cases e
 |some r =>
  rw [e1]at e
  refine⟨A,t,r,R,e1,fun v H1 gs q=>?_⟩
  have e:(match r.d with
   |.int n=>if bigI n then forD kt g (rngD 0 n.toNat) t else none
   |_=>none)=some o:=e
  split at e
  case h_2=>cases e
  rename_i n z
  split at e
  case isFalse=>cases e
  rename_i ok
  simp only [bigI,decide_eq_true_eq]at ok
  have p:=q.full
  rw [z]at p
  cases zd1 p
  exact⟨n,rfl,by lia,by lia,zap8 ht (R.grow gs) e (h.back (Gr.of_same R.mu.left gs))⟩
theorem psd_rng2 {body:List Stmt}{p1 p2:Pos} (hp:PassesOwn (model X.prog X.w) X.A X.env X.xe) (hc:X.calm=true) (hgr:Gl X "range") (hm:X.mg "range"=none) (ha:PE X a (dE X.K F fa)) (hb':PE X b (dE X.K F fb)) (hg:PG X tg gt) (ht:TgOk X.K F gt kt) (hb:PSs X body (dS X.K F g))
  (hst:zbk2 [a,b] X.env=[(false,eval a X.env),(false,eval b X.env)]:=by rfl) (hst2:zbk2 [b] X.env=[(false,eval b X.env)]:=by rfl) (hs:∀x,foldedSetIterable (.Call (.Name "range" p1) [a,b] [] p2) X.env x=pure x:=by intro _;rfl) :
  PS X (.For tg (.Call (.Name "range" p1) [a,b] [] p2) body [] pos) (dS X.K F (zbe9 kt fa fb g)):=by
 refine PS.imp (zaq5 hp hc (zaz9 hgr hm (zf9 ha (zf9 hb' zn9 hst2) (by rw [hst,hst2])) hst hst2) hg hb hs) ?_
 intro E σ H hh
 obtain⟨A,t,o,R,e,h⟩:=zbe8 hh
 unfold zbe9 at e
 cases e1:fa t with
 |none=>rw [e1]at e;cases e
 |some r =>
  cases e2:fb t with
  |none=>rw [e1,e2]at e;cases e
  |some r' =>
   rw [e1,e2]at e
   refine⟨A,t,r,R,e1,fun v H1 gs q=>⟨A,t,r',R.grow gs,e2,fun v2 H2 gs2 q2=>?_⟩⟩
   have e:(match r.d,r'.d with
    |.int lo,.int n=>if bigI n&&bigI lo then forD kt g (rngD lo (n - lo).toNat) t else none
    |_,_=>none)=some o:=e
   split at e
   case h_2=>cases e
   rename_i lo n z1 z2
   split at e
   case isFalse=>cases e
   rename_i ok
   simp only [bigI,zbj3,decide_eq_true_eq]at ok
   have p:=q.full
   rw [z1]at p
   cases zd1 p
   have p':=q2.full
   rw [z2]at p'
   cases zd1 p'
   exact⟨lo,n,rfl,⟨by lia,by lia,by lia,by lia⟩,zap8 ht (R.grow (gs.trans gs2)) e (h.back (Gr.of_same R.mu.left (gs.trans gs2)))⟩
end
end DL
namespace DL
open PySem.Spec L2
theorem RSl.upd {K:zbi5}{H0 H H':Hp}{ds es:List D}{ws:List V}{p:Addr} (hp:H' p=some (.lst ws)) (he:Reps K H0 es ws):∀ {t:Th}{σ:L2.St}{A:List Addr} (i:Nat),RSl K H0 H t σ A→A.Nodup→t[i]?=some (.own ds)→σ[i]?=some (some (.ref p)) →
  (∀q∈A,q≠p→H' q=H q)→RSl K H0 H' (t.set i (.own es)) σ A
 |_,_,_,i,.nil,_,e,_,_=>by simp at e
 |_,_,_,0,.no r,_,e,_,_=>by simp at e
 |_,_,_,0,.val _ r,_,e,_,_=>by simp at e
 |_,_,_,0,.dp _ r,_,e,_,_=>by simp at e
 |_,_,_,i+1,.dp (B:=B) h1 r,nd,e,e2,k=>by
  have n:=zbk9.mp nd
  obtain⟨p3,vs3,a1,a2,_⟩:=RSl.getOwn r (i:=i) (ds:=ds) (by simpa using e)
  have:p3=p:=by simpa [a1] using e2
  subst this
  refine .dp (RepD.mono (Same.refl _) h1 fun q hq o w=>?_) (RSl.upd hp he i r n.2.1 (by simpa using e) (by simpa using e2) fun q hq=>k q (zbi4 _ hq))
  rw [k q (zbi7 _ hq) (fun z=>n.2.2 q hq p3 a2 z)];exact w
 |_,_,_,0,.own (p:=p2) (A:=A) h1 h2 r,nd,e,e2,k=>by
  simp at e2
  subst e2
  exact .own hp he (RSl.mono (Same.refl _) r fun q hq o h=>by
   have n:q≠p2:=fun z=>(zbl0.mp nd).1 (z ▸ hq)
   rw [k q (zbi6 _ hq) n];exact h)
 |_,_,_,i+1,.no r,nd,e,e2,k=>.no (RSl.upd hp he i r nd (by simpa using e) (by simpa using e2) k)
 |_,_,_,i+1,.val h r,nd,e,e2,k=>.val h (RSl.upd hp he i r nd (by simpa using e) (by simpa using e2) k)
 |_,_,_,i+1,.own (p:=p2) h1 h2 r,nd,e,e2,k=>by
  have n:=zbl0.mp nd
  have e2':=(show _ from e2)
  obtain⟨p3,vs3,a1,a2,_⟩:=RSl.getOwn r (i:=i) (ds:=ds) (by simpa using e)
  have:p3=p:=by simpa [a1] using e2
  subst this
  have np:p2≠p3:=fun z=>n.1 (z ▸ a2)
  refine .own (by rw [k p2 (zbi9 ..) np];exact h1) h2 (RSl.upd hp he i r n.2 (by simpa using e) (by simpa using e2) fun q hq=>k q (zbi6 _ hq))
theorem RS.write {K:zbi5}{F A:List Addr}{H:Hp}{t:Th}{σ:L2.St}{i:Nat}{ds es:List D}{ws:List V}{p:Addr} (R:RS K F H A t σ) (e:t[i]?=some (.own ds)) (e2:σ[i]?=some (some (.ref p))) (h:Reps K (hide (A++F) H) es ws) :
  RS K F (L2.upd H p (.lst ws)) A (t.set i (.own es)) σ∧Gr A H A (L2.upd H p (.lst ws)):=by
 obtain⟨p',vs,a1,a2,a3,a4⟩:=R.rel.getOwn e
 have:p'=p:=by simpa [a1] using e2
 subst this
 have hh:Same (hide (A++F) H) (hide (A++F) (L2.upd H p' (.lst ws))):=fun b o q=>by
  obtain⟨n,q⟩:=zn2 q
  have nb:b≠p':=fun z=>n (zbi7 _ (z ▸ a2))
  exact zc7 (by rw [zd3 nb];exact q) n
 have mu:Lists (L2.upd H p' (.lst ws)) (A++F):=fun q hq=>by
  by_cases z:q=p'
  ·exact⟨mL ws,by rw [z];exact zc6⟩
  ·obtain⟨us,w⟩:=R.mu q hq
   exact⟨us,by rw [zd3 z];exact w⟩
 refine⟨⟨mu,R.nd,R.dj,RSl.upd zc6 (Reps.mono hh h) i (RSl.mono hh R.rel (H':=H) fun _ _ _ h=>h) R.nd e e2 fun q _ n=>zd3 n⟩,?_⟩
 refine⟨fun b o n q=>?_,fun b hb=>?_,fun b hb=>.inl hb⟩
 ·rw [zd3 (fun z=>n (by rw [z];exact a2))];exact q
 ·obtain⟨us,w⟩:=mu b (zbi7 _ hb)
  rw [w];simp
noncomputable def kApp (t:Th) (i:Nat) (r:Ev):Option Out:=match t[i]? with
 |some (.own xs)=>if r.ok&&decide (xs.length<100000) then some (.nx (t.set i (.own (xs++[r.d])))) else none
 |_=>none
def dApp (i:Nat) (f:DE):DS:=fun t=>(f t).bind (kApp t i)
section
variable {X:Cx}{F:List Addr}{a b c:Expr}{es:List Expr}{fa fb fc:DE}{g g1 g2:DS}{ft fu:DT}{pos:Pos}{st:Stmt}{rest:List Stmt}{tg:Expr}{gt:TG}{kt:D→Th→Option Th}
theorem zq5 (i:Nat) {x:Str}{p0 apos cpos:Pos} (he:PE X a (dE X.K F fa)) (hN:X.N[i]?=some x:=by rfl) (hv:Vis X.env.scope x:=by first | exact Or.inl rfl | exact Or.inr (Or.inl rfl) |exact Or.inr (Or.inr rfl)) (hd:(x ==("__debug__":Str))=false:=by decide)
  (hcd:(x ==("__classdict__":Str))=false:=by decide) (hst:zbk2 [a] X.env=[(false,eval a X.env)]:=by rfl)
  (hbase:attributeBase (.Name x p0) "append" X.env (eval (.Name x p0) X.env)=eval (.Name x p0) X.env:=by rfl)
  (hfew:((zbq3 cpos (zbk2 [a] X.env)).all (fun x=>!x.1)&&(backToKw cpos (keywordEach [] X.env)).all (fun x=>x.1.isSome)
   && decide ([a].length+([]:List Keyword).length+(if ([]:List Keyword).isEmpty then 0 else 1)<30))=true:=by rfl)
  (hline:(apos.endLine == cpos.line)=true:=by rfl) (hplain:(zbq3 cpos (zbk2 [] X.env)).any (·.1)=false:=by rfl)
  (hsw:swapsWith (.Call (.Attribute (.Name x p0) "append" apos) [a] [] cpos) none pos.line X.env=pure false:=by rfl) :
  PS X (.Expr (.Call (.Attribute (.Name x p0) "append" apos) [a] [] cpos) pos) (dS X.K F (dApp i fa)):=by
 refine PS.imp (zad6 (pe_bm zbs3 PySem.F.slot_list_append PySem.F.type_list_append zx3 (zo2 (i:=i) hN hv hd hcd) (zf9 he zn9 hst) hbase hfew hline hst hplain) hsw) ?_
 rintro E σ H ⟨A,t,o,R,e,h⟩
 unfold dApp at e
 cases e1:fa t with
 |none=>rw [e1]at e;cases e
 |some r =>
  rw [e1]at e
  have e:kApp t i r=some o:=e
  unfold kApp at e
  split at e
  case h_2=>cases e
  rename_i xs z
  split at e
  case isFalse=>cases e
  rename_i ok
  simp only [zbj3,decide_eq_true_eq]at ok
  cases e
  obtain⟨p,vs,a1,a2,a3,a4⟩:=R.rel.getOwn z
  refine⟨_,a1,.inl ⟨rfl,vs,SqL.of a3⟩,A,t,r,R,e1,fun y H1 gs q=>⟨p,vs,y,rfl,rfl,gs _ _ a3,?_,?_⟩⟩
  ·have:vs.length<100000:=by rw [a4.length];exact ok.2
   exact zbk6 this (by rw [sizeLine_eq];decide)
  ·obtain⟨R',g'⟩:=(R.grow gs).write (es:=xs++[r.d]) (ws:=vs++[y]) z a1 ((Reps.mono (zc8 gs) a4).app (Reps.one (q.clean R.mu gs ok.1)))
   exact h _ _ _ ((Gr.of_same R.mu.left gs).trans g') R'
noncomputable def kIx:Ev→Ev→Option Ev:=fun r1 r2=>match r1.d,r2.d with
 |.lst ds,.int i=>(atI ds i).map fun d=>if r1.ok||flat d then .cl d else .tm d
 |.tup ds,.int i=>(atI ds i).map fun d=>if r1.ok||flat d then .cl d else .tm d
 |_,_=>none
theorem Reps.atI {K:zbi5}{H:Hp}{ds:List D}{vs:List V} (r:Reps K H ds vs) {i:Int}{d:D} (e:L2.atI ds i=some d):∃v,L2.atI vs i=some v∧Rep K H d v:=by
 unfold L2.atI at e ⊢
 rw [r.length]
 cases e1:ixN ds.length i with
 |none=>rw [e1]at e;cases e
 |some j=>rw [e1]at e;exact r.get e
theorem zc2 (ha:PE X a (dE X.K F fa)) (hb:PE X b (dE X.K F fb)) (hs:zao4 b:=by intro _ _;rfl):PE X (.Subscript a b pos) (dE X.K F (d2 kIx fa fb)):=by
 refine PE.imp (pe_ix (ix_list.or ix_tup) ha hb hs) ?_
 intro σ H Q h
 obtain⟨A,t,r1,r2,r,R,e1,e2,e,h,w⟩:=two h
 refine⟨A,t,r1,R,e1,fun x H1 gs1 q1=>⟨A,t,r2,R.grow gs1,e2,fun y H2 gs2 q2=>?_⟩⟩
 have q1:=q1.mono gs2
 have gs:=gs1.trans gs2
 have p2:=q2.full
 have m2:=R.mu.mono gs
 have key:∀(P:List Addr),Rep X.K (hide P H2) r1.d x→(∀d v,Rep X.K (hide P H2) d v→RepEv X.K F A H H2 (if r1.ok||flat d then Ev.cl d else Ev.tm d) v)→rIxL X.K x y H2 Q∨rIxT X.K x y H2 Q:=fun P hP fin=>by
  unfold kIx at e
  split at e
  ·rename_i ds i z1 z2
   rw [z2]at p2
   cases zd1 p2
   rw [z1]at hP
   cases hP with
   |@lst _ p vs h1 h2 =>
    cases e4:atI ds i with
    |none=>rw [e4]at e;cases e
    |some d =>
     rw [e4]at e
     have e:(if r1.ok||flat d then Ev.cl d else Ev.tm d)=r:=by simpa using e
     obtain⟨v,e5,rv⟩:=Reps.atI h2 e4
     exact .inl ⟨p,vs,i,v,rfl,rfl,SqL.mono (zb0 _ _) h1,e5,h v H2 gs (e ▸ fin d v rv)⟩
  ·rename_i ds i z1 z2
   rw [z2]at p2
   cases zd1 p2
   rw [z1]at hP
   cases hP with
   |@tup _ p vs h1 h2 =>
    cases e4:atI ds i with
    |none=>rw [e4]at e;cases e
    |some d =>
     rw [e4]at e
     have e:(if r1.ok||flat d then Ev.cl d else Ev.tm d)=r:=by simpa using e
     obtain⟨v,e5,rv⟩:=Reps.atI h2 e4
     exact .inr ⟨p,vs,i,v,rfl,rfl,SqT.mono (zb0 _ _) h1,e5,h v H2 gs (e ▸ fin d v rv)⟩
  ·cases e
 by_cases c:r1.ok=true
 ·refine key (A++F) (q1.clean R.mu gs c) fun d v rv=>?_
  rw [c,zbt2,if_pos rfl]
  exact rv
 ·refine key F (q1.cleanF R.mu) fun d v rv=>?_
  have c:r1.ok=false:=by simpa using c
  rw [c,zby5]
  split
  ·rename_i f;exact Rep.hid m2 f (Rep.mono (zb0 _ _) rv)
  ·exact rv
noncomputable def dSl (lo hi:DE) (f:DE):DE:=fun t=>(f t).bind fun r=>(lo t).bind fun l=>(hi t).bind fun h=>match r.d,l.d,h.d with
 |.lst ds,.int i,.int j=>if r.ok||zg9 ds then some (.nw ((ds.drop (HT.sIx ds.length 0 (some i))).take (HT.sIx ds.length ds.length (some j) - HT.sIx ds.length 0 (some i)))) else none
 |_,_,_=>none
noncomputable def kCat:Ev→Ev→Option Ev:=fun r1 r2=>match r1.d,r2.d with
 |.lst ds,.lst es=>if (r1.ok||zg9 ds)&&(r2.ok||zg9 es)&&decide (ds.length+es.length≤100000) then some (.nw (ds++es)) else none
 |_,_=>none
theorem RepEv.items {K:zbi5}{F A:List Addr}{H H':Hp}{r:Ev}{v:V}{ds:List D} (m:Lists H (A++F)) (gs:Same H H') (q:RepEv K F A H H' r v) (z:r.d=.lst ds) (c:(r.ok||zg9 ds)=true) :
  ∃p vs,v=.ref p∧SqL K H' p vs∧Reps K (hide (A++F) H') ds vs:=by
 rcases zbr1 _ _ ▸ c with c | c
 ·have w:=q.clean m gs c
  rw [z]at w
  cases w with
  |@lst _ p vs h1 h2=>exact⟨p,vs,rfl,SqL.mono (zb0 _ _) h1,h2⟩
 ·have w:=q.full
  rw [z]at w
  cases w with
  |@lst _ p vs h1 h2=>exact⟨p,vs,rfl,h1,Reps.hid (m.mono gs) c h2⟩
theorem zba2 {p2:Pos} (ha:PE X a (dE X.K F fa)) (hb:PE X b (dE X.K F fb)) (hc:PE X c (dE X.K F fc)):PE X (.Subscript a (.Slice (some b) (some c) none p2) pos) (dE X.K F (dSl fb fc fa)):=by
 refine PE.imp (zar0 zay1 ha (zal5 hb) (zal5 hc)) ?_
 rintro σ H Q ⟨A,t,r,R,e,h⟩
 unfold dSl at e
 cases e1:fa t with
 |none=>rw [e1]at e;cases e
 |some r1 =>
  cases e2:fb t with
  |none=>rw [e1,e2]at e;cases e
  |some r2 =>
   cases e3:fc t with
   |none=>rw [e1,e2,e3]at e;cases e
   |some r3 =>
    rw [e1,e2,e3]at e
    refine⟨A,t,r1,R,e1,fun x H1 gs1 q1=>⟨A,t,r2,R.grow gs1,e2,fun y H2 gs2 q2=>?_⟩⟩
    have e:(match r1.d,r2.d,r3.d with
     |.lst ds,.int i,.int j=>if r1.ok||zg9 ds then some (Ev.nw ((ds.drop (HT.sIx ds.length 0 (some i))).take (HT.sIx ds.length ds.length (some j) - HT.sIx ds.length 0 (some i)))) else none
     |_,_,_=>none)=some r:=e
    split at e
    case h_2=>cases e
    rename_i ds i j z1 z2 z3
    split at e
    case isFalse=>cases e
    rename_i c
    cases e
    have p2':=q2.full
    rw [z2]at p2'
    cases zd1 p2'
    refine⟨i,rfl,A,t,r3,(R.grow gs1).grow gs2,e3,fun w H3 gs3 q3=>?_⟩
    have p3':=q3.full
    rw [z3]at p3'
    cases zd1 p3'
    have gs:=(gs1.trans gs2).trans gs3
    obtain⟨p,vs,rfl,h1,h2⟩:=(q1.mono (gs2.trans gs3)).items R.mu gs z1 c
    refine⟨j,rfl,p,vs,rfl,h1,fun l hl=>h _ _ (gs.trans (zd2 hl)) ⟨l,_,rfl,Same.free gs hl,zc6,Reps.mono (zl1 hl) ?_⟩⟩
    unfold cutV
    rw [h2.length]
    exact (h2.drop _).take _
theorem cat_any {E:Value→zbj7→Prop}{A:Around}{prog:Program}{w:World}{s:zbj7}{l b:Addr}{vs ws:List Value}{Q:Value→zbj7→Prop} (hl:PlainL s.heap l vs.toArray) (hb:PlainL s.heap b ws.toArray)
  (h:Q (.ref s.heap.objs.size) { s with heap:=s.heap.push { cls:=.type "list",data:=.seq (vs++ws).toArray } }) (hsz:vs.length+ws.length≤sizeLine) :
  wpAny (model prog w) A (binaryOp .Add (.ref l) (.ref b)) Q E s:=by
 obtain⟨⟨cls,dd,data,sl⟩,n,ho,hc,hdd,hd⟩:=id hl
 obtain⟨⟨cls2,dd2,data2,sl2⟩,n2,ho2,hc2,hdd2,hd2⟩:=id hb
 simp only at hc hd hc2 hd2
 subst hc hd hc2 hd2
 have e:vs.toArray++ws.toArray=(vs++ws).toArray:=by simp
 refine concat_meets ⟨_,ho,rfl⟩ ⟨_,ho2,rfl⟩ noFill_list_add seq_list_add PySem.F.slot_list_add PySem.F.entry_list_add (PySem.F.args_list_add_2 _ _) (list_addW l b vs.toArray ws.toArray n n2 dd dd2 sl sl2 (by simpa using hsz)) ⟨ho,ho2,?_⟩
 rw [e]
 exact h
theorem ze2:OpD X F (binaryOp .Add) kCat:=by
 intro pins s σ H0 H A x y v u Q r1 r2 r I m g0 rx ry q1 q2 e hq
 unfold kCat at e
 split at e
 case h_2=>cases e
 rename_i ds es' z1 z2
 split at e
 case isFalse=>cases e
 rename_i c
 simp only [zbj3,decide_eq_true_eq]at c
 cases e
 obtain⟨p,vs,rfl,h1,h2⟩:=q1.items m g0 z1 c.1.1
 obtain⟨p',ws,rfl,h1',h2'⟩:=q2.items m g0 z2 c.1.2
 cases rx
 cases ry
 obtain⟨its,w1,w2,w3⟩:=I.list h1
 obtain⟨its',w1',w2',w3'⟩:=I.list h1'
 have l1:=h2.length
 have l2:=h2'.length
 have l3:=w1.length
 have l4:=w1'.length
 have hz:vs.length+ws.length≤sizeLine:=le_line (by lia)
 refine cat_any w2 w2' ⟨.ref _,_,I.lnew (t':=s.toks) (w1.append w1') (by rw [zbm4];exact hz),rfl,?_⟩ (by lia)
 refine hq _ _ (zd2 I.fresh) ⟨_,_,rfl,Same.free g0 I.fresh,zc6,Reps.mono (zl1 I.fresh) (h2.app h2')⟩
mutual
def eqD:D→D→Bool
 |.non,.non=>true
 |.bl a,.bl b=>decide (a=b)
 |.int a,.int b=>decide (a=b)
 |.str a,.str b=>decide (a=b)
 |.tup a,.tup b=>eqDs a b
 |.lst a,.lst b=>eqDs a b
 |.dct ks a,.dct ks' b=>decide (ks=ks')&&eqDs a b
 |.pdc a,.pdc b=>decide (a=b)
 |_,_=>false
def eqDs:List D→List D→Bool
 |[],[]=>true
 |a::as,b::bs=>eqD a b&&eqDs as bs
 |_,_=>false
end
noncomputable def eqOk:Nat→D→D→Bool
 |_,.non,.non=>true
 |_,.bl _,.bl _=>true
 |_,.int _,.int _=>true
 |_,.str _,.str _=>true
 |_,.non,.int _=>true
 |_,.int _,.non=>true
 |_,.non,.str _=>true
 |_,.str _,.non=>true
 |_,.non,.bl _=>true
 |_,.bl _,.non=>true
 |_,.int _,.str _=>true
 |_,.str _,.int _=>true
 |n+1,.tup xs,.tup ys=>(xs.zip ys).all fun p=>eqOk n p.1 p.2
 |n+1,.lst xs,.lst ys=>(xs.zip ys).all fun p=>eqOk n p.1 p.2
 |_,_,_=>false
theorem zz0 {pins:List (Addr×Obj)}{s:zbj7}{σ:L2.St}{H:Hp}{p:Addr}{kvs:List (Key×V)} (I:Inv X pins σ H s) (h:H p=some (.dK kvs)):∃o,s.heap.get? p=some o∧o.cls=.type "dict":=by
 obtain⟨_,_,vs,_,m⟩:kvs.length≤sizeLine∧(p == sysModules)=false∧∃vs,KV kvs vs∧s.heap.DictOf (zg6 X.prog X.w) p vs:=I.hok p _ h
 exact m.typeIs
theorem zx0 {pins:List (Addr×Obj)}{s:zbj7}{σ:L2.St}{H:Hp}{p:Addr}{kvs:List (List Key×V)} (I:Inv X pins σ H s) (h:H p=some (.dT kvs)):∃o,s.heap.get? p=some o∧o.cls=.type "dict":=by
 obtain⟨_,_,xs,_,o,es,ep,h1,h2,_⟩:=(show ObjOk X.prog X.w H s.heap p (.dT kvs) from I.hok p _ h)
 exact⟨o,h1,h2.1⟩
theorem zaz6:∀ {a b:List (Int×Int)},pkv a=pkv b→a=b
 |[],[],_=>rfl
 |[],_::_,h=>by simp [pkv]at h
 |_::_,[],h=>by simp [pkv]at h
 |(x,y)::a,(z,w)::b,h=>by
  simp only [pkv,zbk5,List.cons.injEq,Prod.mk.injEq,Sum.inl.injEq,and_true]at h
  rw [h.1.1,h.1.2,zaz6 (a:=a) (b:=b) h.2]
theorem zip_inj {ks ks':List Key}{vs vs':List V} (l:ks.length=vs.length) (l':ks'.length=vs'.length) (h:mkKV ks vs=mkKV ks' vs'):ks=ks'∧vs=vs':=by
 unfold mkKV at h
 have h1:=congrArg (List.map Prod.fst) h
 have h2:=congrArg (List.map Prod.snd) h
 rw [zbz8 (by lia),zbz8 (by lia)]at h1
 rw [zbz9 (by lia),zbz9 (by lia)]at h2
 exact⟨h1,h2⟩
theorem Rep.injR {pins:List (Addr×Obj)}{s:zbj7}{σ:L2.St}{H:Hp} (I:Inv X pins σ H s):(∀ {d:D}{v:V},Rep X.K H d v→∀e,Rep X.K H e v→d=e)∧∀ {ds:List D}{vs:List V},Reps X.K H ds vs→∀es,Reps X.K H es vs→ds=es:=by
 have cl:∀ {p:Addr}{A B:String},(∃o,s.heap.get? p=some o∧o.cls=.type A)→(∃o,s.heap.get? p=some o∧o.cls=.type B)→A≠B→False:=fun ⟨o,e,c⟩ ⟨o',e',c'⟩ n=>by
  rw [e]at e';cases e'
  rw [c]at c';injection c' with c';exact n c'
 have ct:∀ {p:Addr}{vs:List V},SqT X.K H p vs→∃o,s.heap.get? p=some o∧o.cls=.type "tuple":=fun h=>by
  obtain⟨its,_,⟨o,e,c,_⟩,_⟩:=I.tuple h
  exact⟨o,e,c⟩
 have cL:∀ {p:Addr}{vs:List V},SqL X.K H p vs→∃o,s.heap.get? p=some o∧o.cls=.type "list":=fun h=>by
  obtain⟨its,_,⟨o,n,e,c,_⟩,_⟩:=I.list h
  exact⟨o,e,c⟩
 have key:∀ {d:D}{v:V},Rep X.K H d v→∀e,Rep X.K H e v→d=e:=fun h=>by
  refine Rep.rec (motive_1:=fun d v _ => ∀e,Rep X.K H e v→d=e) (motive_2:=fun ds vs _ => ∀es,Reps X.K H es vs→ds=es) ?_ ?_ ?_ ?_ ?_ ?_ ?_ ?_ ?_ ?_ h
  ·intro e h';cases h';rfl
  ·intro b e h';cases h';rfl
  ·intro b e h';cases h';rfl
  ·intro b e h';cases h';rfl
  ·intro ds p vs h1 r1 ih e h'
   cases h' with
   |tup h2 r2 =>
    have ev:=I.tuple_inj h1 h2
    subst ev
    rw [ih _ r2]
   |lst h2 r2=>exact (cl (ct h1) (cL h2) (by decide +kernel)).elim
   |dct _ h2 r2=>exact (cl (ct h1) (zz0 I h2) (by decide +kernel)).elim
   |pdc h2=>exact (cl (ct h1) (zx0 I h2) (by decide +kernel)).elim
  ·intro ds p vs h1 r1 ih e h'
   cases h' with
   |tup h2 r2=>exact (cl (cL h1) (ct h2) (by decide +kernel)).elim
   |lst h2 r2 =>
    have ev:=I.list_inj h1 h2
    subst ev
    rw [ih _ r2]
   |dct _ h2 r2=>exact (cl (cL h1) (zz0 I h2) (by decide +kernel)).elim
   |pdc h2=>exact (cl (cL h1) (zx0 I h2) (by decide +kernel)).elim
  ·intro ks ds p vs l1 h1 r1 ih e h'
   cases h' with
   |tup h2 r2=>exact (cl (zz0 I h1) (ct h2) (by decide +kernel)).elim
   |lst h2 r2=>exact (cl (zz0 I h1) (cL h2) (by decide +kernel)).elim
   |dct l2 h2 r2 =>
    rw [h1]at h2
    obtain⟨e1,e2⟩:=zip_inj l1 l2 (by injection h2 with h2;injection h2)
    subst e1 e2
    rw [ih _ r2]
   |pdc h2=>rw [h1]at h2;cases h2
  ·intro ps p h1 e h'
   cases h' with
   |tup h2 r2=>exact (cl (zx0 I h1) (ct h2) (by decide +kernel)).elim
   |lst h2 r2=>exact (cl (zx0 I h1) (cL h2) (by decide +kernel)).elim
   |dct _ h2 r2=>rw [h1]at h2;cases h2
   |pdc h2 =>
    rw [h1]at h2
    injection h2 with h2
    injection h2 with h2
    rw [zaz6 h2]
  ·intro es h';cases h';rfl
  ·intro d v ds vs h r ih1 ih2 es h'
   cases h' with
   |cons h' r'=>rw [ih1 _ h',ih2 _ r']
 refine⟨key,fun {ds vs} h=>?_⟩
 induction ds generalizing vs with
 |nil=>intro es h';cases h;cases h';rfl
 |cons d ds ih =>
  intro es h'
  cases h with
  |cons h r =>
   cases h' with
   |cons h' r'=>rw [key h _ h',ih r _ r']
theorem Rep.inj {pins:List (Addr×Obj)}{s:zbj7}{σ:L2.St}{H:Hp} (I:Inv X pins σ H s) {d e:D}{v:V} (h:Rep X.K H d v) (h':Rep X.K H e v):d=e:=(Rep.injR I).1 h e h'
mutual
theorem zbe0:∀ {a b:D},eqD a b=true↔a=b
 |.non,b=>by cases b<;>simp [eqD]
 |.bl _,b=>by cases b<;>simp [eqD]
 |.int _,b=>by cases b<;>simp [eqD]
 |.str _,b=>by cases b<;>simp [eqD]
 |.tup xs,b=>by
  cases b with
  |tup ys=>simp only [eqD,D.tup.injEq];exact zv7
  |_=>simp [eqD]
 |.lst xs,b=>by
  cases b with
  |lst ys=>simp only [eqD,D.lst.injEq];exact zv7
  |_=>simp [eqD]
 |.dct ks xs,b=>by
  cases b with
  |dct ks' ys=>simp only [eqD,D.dct.injEq,zbj3,decide_eq_true_eq];rw [zv7 (a:=xs) (b:=ys)]
  |_=>simp [eqD]
 |.pdc a,b=>by cases b<;>simp [eqD]
theorem zv7:∀ {a b:List D},eqDs a b=true↔a=b
 |[],b=>by cases b<;>simp [eqDs]
 |x::xs,b=>by
  cases b with
  |nil=>simp [eqDs]
  |cons y ys =>
   simp only [eqDs,zbj3,List.cons.injEq]
   rw [zbe0 (a:=x) (b:=y),zv7 (a:=xs) (b:=ys)]
end
theorem eqD_true {a b:D}:eqD a b=true↔a=b:=zbe0
theorem eqD_false {a b:D}:eqD a b=false↔¬ a=b:=by rw [← eqD_true];simp
def eAt (xs ys:List D) (j:Nat):Bool:=match xs[j]?,ys[j]? with
 |some a,some b=>eqD a b
 |_,_=>true
end
end DL
namespace DL
open PySem.Spec L2
theorem PlainL.isL {h:Heap}{a:Addr}{its:Array Value} (p:PlainL h a its):h.IsList a its:=by
 obtain⟨o,n,e,c,_,d⟩:=p
 exact⟨o,e,c,n,d⟩
section
variable {X:Cx}{F:List Addr}{a b c:Expr}{es:List Expr}{fa fb fc:DE}{g g1 g2:DS}{ft fu:DT}{pos:Pos}{st:Stmt}{rest:List Stmt}{tg:Expr}{gt:TG}{kt:D→Th→Option Th}
def scD:D→Bool
 |.tup _=>false
 |.lst _=>false
 |.dct _ _=>false
 |.pdc _=>false
 |_=>true
theorem eqV_D {K:zbi5}{H:Hp}{n:Nat}{d e:D}{v u:V} (r:Rep K H d v) (q:Rep K H e u) (s1:scD d=true) (s2:scD e=true) (ok:eqOk n d e=true):zs5 v=true∧zs5 u=true∧eqV v u=eqD d e:=by
 cases r<;>cases q<;>simp_all [scD,eqOk,zs5,eqV,eqD]
 all_goals (rw [zbp1];simp)
theorem zaf6 {xs ys:List D} (h:xs.length=ys.length):(zbm1 xs.length).all (eAt xs ys)=eqD (.lst xs) (.lst ys):=by
 rw [zbp1,eqD_true,zbm6]
 constructor
 ·intro hh
  congr 1
  apply zbt4 h
  intro i h1 h2
  have:=hh i (zbp4.mpr h1)
  simp only [eAt,zbj6 h1,zbj6 h2]at this
  exact eqD_true.mp this
 ·intro hh i hi
  injection hh with hh
  subst hh
  simp only [eAt]
  split
  ·rename_i a b z1 z2
   rw [z1]at z2;cases z2
   exact eqD_true.mpr rfl
  ·rfl
theorem zaf5 {xs ys:List D}:((zbm1 (min xs.length ys.length)).all (eAt xs ys)&&xs.length == ys.length)=eqD (.tup xs) (.tup ys):=by
 by_cases h:xs.length=ys.length
 ·have e:min xs.length ys.length=xs.length:=by lia
  rw [e,zaf6 h,beq_iff_eq.mpr h,Bool.and_true]
  rw [zbp1,eqD_true,eqD_true]
  simp
 ·have e:(xs.length == ys.length)=false:=by simpa using h
  rw [e,Bool.and_false]
  symm
  rw [eqD_false]
  intro z
  injection z with z
  exact h (by rw [z])
theorem zak3 {n:Nat}{xs ys:List D} (h:((xs.zip ys).all fun p=>eqOk n p.1 p.2)=true) {j:Nat}{x y:D} (hx:xs[j]?=some x) (hy:ys[j]?=some y):eqOk n x y=true:=by
 rw [zbm6]at h
 refine h (x,y) (zbx2 (i:=j) ?_)
 rw [List.getElem?_zip_eq_some]
 exact⟨hx,hy⟩
theorem zaj0 {A:Around}:A.in1.units=A.units+1:=rfl
theorem Vals.getL {vs:List V}{us:List Value} (h:Vals vs us) {j:Nat} (hj:j<us.toArray.size):∃v,vs[j]?=some v∧RelV v us.toArray[j]:=by
 have hj':j<vs.length:=by rw [h.length];simpa using hj
 obtain⟨u,e,r⟩:=Vals.get h (zbj6 hj')
 refine⟨_,zbj6 hj',?_⟩
 have:us.toArray[j]=u:=by
  have hj2:j<us.length:=by simpa using hj
  have:=zbj6 hj2
  rw [e]at this
  simpa using (Option.some.inj this).symm
 rw [this];exact r
theorem eqAt_D {pins:List (Addr×Obj)}{s:zbj7}{σ:L2.St}{H:Hp} (I:Inv X pins σ H s):∀(n:Nat) (A:Around) (d e:D) (v u:V) (y z:Value),A.units+n<cLine→eqOk n d e=true→Rep X.K H d v→Rep X.K H e u→RelV v y→RelV u z→SeqAt.EqAt A s y z (eqD d e):=by
 intro n
 induction n with
 |zero =>
  intro A d e v u y z hu ok r q ry rz
  have s1:scD d=true:=by cases d<;>cases e<;>simp_all [scD,eqOk]
  have s2:scD e=true:=by cases d<;>cases e<;>simp_all [scD,eqOk]
  obtain⟨f1,f2,ee⟩:=eqV_D r q s1 s2 ok
  rw [← ee]
  exact zbe1 ry rz f1 f2
 |succ n ih =>
  intro A d e v u y z hu ok r q ry rz
  by_cases s1:scD d=true
  ·have s2:scD e=true:=by cases d<;>cases e<;>simp_all [scD,eqOk]
   obtain⟨f1,f2,ee⟩:=eqV_D r q s1 s2 ok
   rw [← ee]
   exact zbe1 ry rz f1 f2
  ·have hu':A.in1.units+n<cLine:=by rw [zaj0];lia
   have hu0:A.units<cLine:=by lia
   cases r with
   |@tup xs p vs h1 h2 =>
    cases q with
    |@tup ys p' ws h1' h2' =>
     cases ry;cases rz
     by_cases z:p=p'
     ·subst z
      have e:=Rep.inj I (.tup h1 h2) (.tup h1' h2')
      rw [eqD_true.mpr e]
      exact SeqAt.EqAt.same _
     ·obtain⟨its,w1,w2,_⟩:=I.tuple h1
      obtain⟨its',w1',w2',_⟩:=I.tuple h1'
      refine SeqAt.EqAt.of_refs z ?_
      have k:=SeqAt.RcAt.tuples (A:=A) (e:=eAt xs ys) w2 w2' hu0 (fun j g1 g2=>by
       obtain⟨v1,a1,a2⟩:=Vals.getL w1 g1
       obtain⟨v2,b1,b2⟩:=Vals.getL w1' g2
       obtain⟨x1,c1,c2⟩:=h2.getV a1
       obtain⟨x2,d1,d2⟩:=h2'.getV b1
       have:=ih A.in1 x1 x2 v1 v2 _ _ hu' (zak3 (by simpa [eqOk] using ok) c1 d1) c2 d2 a2 b2
       have ee:eAt xs ys j=eqD x1 x2:=by simp only [eAt,c1,d1]
       rw [ee];exact this)
      have l1:its.toArray.size=xs.length:=by have:=w1.length;have:=h2.length;simp;lia
      have l2:its'.toArray.size=ys.length:=by have:=w1'.length;have:=h2'.length;simp;lia
      rw [l1,l2,zaf5]at k
      exact k
    |_=>simp_all [eqOk]
   |@lst xs p vs h1 h2 =>
    cases q with
    |@lst ys p' ws h1' h2' =>
     cases ry;cases rz
     by_cases z:p=p'
     ·subst z
      have e:=Rep.inj I (.lst h1 h2) (.lst h1' h2')
      rw [eqD_true.mpr e]
      exact SeqAt.EqAt.same _
     ·obtain⟨its,w1,w2,_⟩:=I.list h1
      obtain⟨its',w1',w2',_⟩:=I.list h1'
      refine SeqAt.EqAt.of_refs z ?_
      have l1:its.toArray.size=xs.length:=by have:=w1.length;have:=h2.length;simp;lia
      have l2:its'.toArray.size=ys.length:=by have:=w1'.length;have:=h2'.length;simp;lia
      by_cases hl:xs.length=ys.length
      ·have k:=SeqAt.RcAt.lists (A:=A) (e:=eAt xs ys) (PlainL.isL w2) (PlainL.isL w2') (by rw [l1,l2];exact hl) hu0 (fun j g1 g2=>by
        obtain⟨v1,a1,a2⟩:=Vals.getL w1 g1
        obtain⟨v2,b1,b2⟩:=Vals.getL w1' g2
        obtain⟨x1,c1,c2⟩:=h2.getV a1
        obtain⟨x2,d1,d2⟩:=h2'.getV b1
        have:=ih A.in1 x1 x2 v1 v2 _ _ hu' (zak3 (by simpa [eqOk] using ok) c1 d1) c2 d2 a2 b2
        have ee:eAt xs ys j=eqD x1 x2:=by simp only [eAt,c1,d1]
        rw [ee];exact this)
       rw [l1,zaf6 hl]at k
       exact k
      ·have ee:eqD (.lst xs) (.lst ys)=false:=eqD_false.mpr fun z=>hl (by injection z with z;rw [z])
       rw [ee]
       exact SeqAt.RcAt.lists_lengths (PlainL.isL w2) (PlainL.isL w2') (by rw [l1,l2];simpa using hl) hu0
    |_=>simp_all [eqOk]
   |dct=>exact absurd ok (by cases e<;>simp [eqOk])
   |pdc=>exact absurd ok (by cases e<;>simp [eqOk])
   |_=>simp_all [scD]
theorem zap4 {pins:List (Addr×Obj)}{s:zbj7}{σ:L2.St}{H:Hp} (I:Inv X pins σ H s) {n:Nat}{A:Around}{xs ys:List D}{vs ws:List V}{its its':List Value} (hu:A.units+n+1<cLine) (ok:((xs.zip ys).all fun p=>eqOk n p.1 p.2)=true)
  (h2:Reps X.K H xs vs) (h2':Reps X.K H ys ws) (w1:Vals vs its) (w1':Vals ws its'):∀j (g1:j<its.toArray.size) (g2:j<its'.toArray.size),SeqAt.EqAt A.in1 s its.toArray[j] its'.toArray[j] (eAt xs ys j):=fun j g1 g2=>by
 obtain⟨v1,a1,a2⟩:=Vals.getL w1 g1
 obtain⟨v2,b1,b2⟩:=Vals.getL w1' g2
 obtain⟨x1,c1,c2⟩:=h2.getV a1
 obtain⟨x2,d1,d2⟩:=h2'.getV b1
 have:=eqAt_D I n A.in1 x1 x2 v1 v2 _ _ (by rw [zaj0];lia) (zak3 ok c1 d1) c2 d2 a2 b2
 have ee:eAt xs ys j=eqD x1 x2:=by simp only [eAt,c1,d1]
 rw [ee];exact this
def kEq:Ev→Ev→Option Ev:=fun r1 r2=>if eqOk 6 r1.d r2.d then some (.cl (.bl (eqD r1.d r2.d))) else none
def kNe:Ev→Ev→Option Ev:=fun r1 r2=>if eqOk 6 r1.d r2.d then some (.cl (.bl (!eqD r1.d r2.d))) else none
theorem scal_D {K:zbi5}{H:Hp}{n:Nat}{d e:D}{v u:V} (r:Rep K H d v) (q:Rep K H e u) (s1:scD d=true) (ok:eqOk n d e=true):scal v u=true∧decide (v=u)=eqD d e:=by
 cases r<;>cases q<;>simp_all [scD,eqOk,scal,eqD]
theorem zx2 (hu:X.A.units+64<cLine):OpD X F (compareOp .Eq) kEq:=by
 intro pins s σ H0 H A x y v u Q r1 r2 r I m g0 rx ry q1 q2 e hq
 unfold kEq at e
 split at e
 case isFalse=>cases e
 rename_i ok
 cases e
 have p1:=q1.full
 have p2:=q2.full
 by_cases s1:scD r1.d=true
 ·obtain⟨a1,a2⟩:=scal_D p1 p2 s1 ok
  exact op_eq pins s σ H x y v u Q I rx ry ⟨a1,by rw [a2];exact hq _ H (Same.refl H) (.bl _)⟩
 ·generalize r1.d=d1 at *
  generalize r2.d=d2 at *
  have hu0:X.A.units<cLine:=by lia
  cases p1 with
  |@tup xs p vs h1 h2 =>
   cases p2 with
   |@tup ys p' ws h1' h2' =>
    cases rx;cases ry
    obtain⟨its,w1,w2,_⟩:=I.tuple h1
    obtain⟨its',w1',w2',_⟩:=I.tuple h1'
    have l1:its.toArray.size=xs.length:=by have:=w1.length;have:=h2.length;simp;lia
    have l2:its'.toArray.size=ys.length:=by have:=w1'.length;have:=h2'.length;simp;lia
    refine SeqAt.eq_tupleAt w2 w2' hu0 (zap4 I (n:=5) (by lia) (by simpa [eqOk] using ok) h2 h2' w1 w1') ?_
    rw [l1,l2,zaf5]
    exact⟨.bl _,H,I,rfl,hq _ H (Same.refl H) (.bl _)⟩
   |_=>simp_all [eqOk]
  |@lst xs p vs h1 h2 =>
   cases p2 with
   |@lst ys p' ws h1' h2' =>
    cases rx;cases ry
    obtain⟨its,w1,w2,_⟩:=I.list h1
    obtain⟨its',w1',w2',_⟩:=I.list h1'
    have l1:its.toArray.size=xs.length:=by have:=w1.length;have:=h2.length;simp;lia
    have l2:its'.toArray.size=ys.length:=by have:=w1'.length;have:=h2'.length;simp;lia
    by_cases hl:xs.length=ys.length
    ·refine SeqAt.eq_listAt (PlainL.isL w2) (PlainL.isL w2') (by rw [l1,l2];exact hl) hu0 (zap4 I (n:=5) (by lia) (by simpa [eqOk] using ok) h2 h2' w1 w1') ?_
     rw [l1,zaf6 hl]
     exact⟨.bl _,H,I,rfl,hq _ H (Same.refl H) (.bl _)⟩
    ·have ee:eqD (.lst xs) (.lst ys)=false:=eqD_false.mpr fun z=>hl (by injection z with z;rw [z])
     rw [ee]at hq
     exact SeqAt.eq_list_lengthsAt (PlainL.isL w2) (PlainL.isL w2') (by rw [l1,l2];simpa using hl) hu0 ⟨.bl _,H,I,rfl,hq _ H (Same.refl H) (.bl _)⟩
   |_=>simp_all [eqOk]
  |dct=>exact absurd ok (by cases d2<;>simp [eqOk])
  |pdc=>exact absurd ok (by cases d2<;>simp [eqOk])
  |_=>simp_all [scD]
theorem od_ne (hu:X.A.units+64<cLine):OpD X F (compareOp .NotEq) kNe:=by
 intro pins s σ H0 H A x y v u Q r1 r2 r I m g0 rx ry q1 q2 e hq
 unfold kNe at e
 split at e
 case isFalse=>cases e
 rename_i ok
 cases e
 have p1:=q1.full
 have p2:=q2.full
 by_cases s1:scD r1.d=true
 ·obtain⟨a1,a2⟩:=scal_D p1 p2 s1 ok
  exact op_ne pins s σ H x y v u Q I rx ry ⟨a1,by rw [a2];exact hq _ H (Same.refl H) (.bl _)⟩
 ·generalize r1.d=d1 at *
  generalize r2.d=d2 at *
  have hu0:X.A.units<cLine:=by lia
  cases p1 with
  |@tup xs p vs h1 h2 =>
   cases p2 with
   |@tup ys p' ws h1' h2' =>
    cases rx;cases ry
    obtain⟨its,w1,w2,_⟩:=I.tuple h1
    obtain⟨its',w1',w2',_⟩:=I.tuple h1'
    have l1:its.toArray.size=xs.length:=by have:=w1.length;have:=h2.length;simp;lia
    have l2:its'.toArray.size=ys.length:=by have:=w1'.length;have:=h2'.length;simp;lia
    have k:=SeqAt.RcNeAt.tuples (A:=X.A) w2 w2' hu0 (zap4 I (n:=5) (by lia) (by simpa [eqOk] using ok) h2 h2' w1 w1')
    rw [l1,l2,zaf5]at k
    exact k _ _ _ _ ⟨.bl _,H,I,rfl,hq _ H (Same.refl H) (.bl _)⟩
   |_=>simp_all [eqOk]
  |@lst xs p vs h1 h2 =>
   cases p2 with
   |@lst ys p' ws h1' h2' =>
    cases rx;cases ry
    obtain⟨its,w1,w2,_⟩:=I.list h1
    obtain⟨its',w1',w2',_⟩:=I.list h1'
    have l1:its.toArray.size=xs.length:=by have:=w1.length;have:=h2.length;simp;lia
    have l2:its'.toArray.size=ys.length:=by have:=w1'.length;have:=h2'.length;simp;lia
    by_cases hl:xs.length=ys.length
    ·have k:=SeqAt.RcNeAt.lists (A:=X.A) (PlainL.isL w2) (PlainL.isL w2') (by rw [l1,l2];exact hl) hu0 (zap4 I (n:=5) (by lia) (by simpa [eqOk] using ok) h2 h2' w1 w1')
     rw [l1,zaf6 hl]at k
     exact k _ _ _ _ ⟨.bl _,H,I,rfl,hq _ H (Same.refl H) (.bl _)⟩
    ·have ee:eqD (.lst xs) (.lst ys)=false:=eqD_false.mpr fun z=>hl (by injection z with z;rw [z])
     rw [ee]at hq
     exact SeqAt.RcNeAt.lists_lengths (A:=X.A) (PlainL.isL w2) (PlainL.isL w2') (by rw [l1,l2];simpa using hl) hu0 _ _ _ _ ⟨.bl _,H,I,rfl,hq _ H (Same.refl H) (.bl _)⟩
   |_=>simp_all [eqOk]
  |dct=>exact absurd ok (by cases d2<;>simp [eqOk])
  |pdc=>exact absurd ok (by cases d2<;>simp [eqOk])
  |_=>simp_all [scD]
noncomputable def tyD:D→String
 |.non => "NoneType"
 |.bl _ => "bool"
 |.int _ => "int"
 |.str _ => "str"
 |.tup _ => "tuple"
 |.lst _ => "list"
 |.dct _ _ => "dict"
 |.pdc _ => "dict"
def isiT (d:D) (T:String):Bool:=tyD d == T||(tyD d == "bool"&&T == "int")
def dIsi (T:String) (f:DE):DE:=fun t=>(f t).bind fun r=>some (.cl (.bl (isiT r.d T)))
def IsiOk (K:zbi5) (T:String):Prop := ∀d:D,PySem.W.kitOne K (.type (tyD d)) (.type T)=some (isiT d T)
theorem ped_isi {T:String}{x:Str}{p p2:Pos} (ok:IsiOk X.K T) (ha:PE X a (dE X.K F fa)) (hg:Gl X "isinstance") (hm:X.mg "isinstance"=none) (hgT:Gl X x) (hmT:X.mg x=none) (hvT:bootBuiltins x=some (.type T)) (hnT:x≠"__name__":=by decide) (hdT:(x ==("__debug__":Str))=false:=by decide)
  (he:zbk2 (a::[Expr.Name x p2]) X.env=(false,eval a X.env)::zbk2 [.Name x p2] X.env:=by rfl) (he2:zbk2 [Expr.Name x p2] X.env=[(false,eval (.Name x p2) X.env)]:=by rfl) (hpl:(zbq3 pos (zbk2 [Expr.Name x p2] X.env)).any (·.1)=false:=by rfl) :
  PE X (.Call (.Name "isinstance" p) [a,.Name x p2] [] pos) (dE X.K F (dIsi T fa)):=by
 have rule:zn7 X (.builtin "isinstance") (fun xs H Q => ∃v d,xs=[v,.ty T]∧Rep X.K H d v∧Q (.bl (isiT d T)) H):=by
  intro pins s σ H xs us Q I r h
  obtain⟨v,d,rfl,rp,hq⟩:=h
  obtain⟨u,w',rfl,r1,r2⟩:=vals2 r
  cases (show w'=Value.type T from r2)
  have fin:∀tk,EP X pins σ Q (.bool (isiT d T)) { s with toks:=tk }:=fun tk=>⟨.bl _,H,I.tok tk,rfl,hq⟩
  have e:=ok d
  cases rp with
  |non=>cases (show u=Value.none from r1);exact zbp2 PySem.W.kitx_none I.kIn True.intro e (fun z=>nomatch z) fin
  |bl y=>cases (show u=Value.bool y from r1);exact zbp2 PySem.W.kitx_bool I.kIn True.intro e (fun z=>nomatch z) fin
  |int i=>obtain⟨t,q⟩:=(show ∃t,u=Value.int i t from r1);cases q;exact zbp2 PySem.W.kitx_int I.kIn True.intro e (fun z=>nomatch z) fin
  |str y=>obtain⟨t,q⟩:=(show ∃t,u=Value.str y t from r1);cases q;exact zbp2 PySem.W.kitx_str I.kIn True.intro e (fun z=>nomatch z) fin
  |@tup _ p _ h1 h2 =>
   cases (show u=Value.ref p from r1)
   obtain⟨its,_,⟨o,e1,c1,_⟩,_⟩:=I.tuple h1
   exact zbp2 PySem.W.kitx_tuple I.kIn ⟨o,e1,c1⟩ e (fun z=>nomatch z) fin
  |@lst _ p _ h1 h2 =>
   cases (show u=Value.ref p from r1)
   obtain⟨its,_,⟨o,n,e1,c1,_⟩,_⟩:=I.list h1
   exact zbp2 PySem.W.kitx_list I.kIn ⟨o,e1,c1⟩ e (fun z=>nomatch z) fin
  |@dct _ _ p _ _ h1 h2 =>
   cases (show u=Value.ref p from r1)
   exact zbp2 zbz1 I.kIn (zz0 I h1) e (fun z=>nomatch z) fin
  |@pdc _ p h1 =>
   cases (show u=Value.ref p from r1)
   exact zbp2 zbz1 I.kIn (zx0 I h1) e (fun z=>nomatch z) fin
 refine PE.imp (zar1 rule hg hm boot_isinstance (zf9 ha (zf9 (pe_bltn (v:=.ty T) hgT hmT hvT rfl hnT hdT) zn9 he2) he) (by decide) (by decide) he hpl) ?_
 rintro σ H Q ⟨A,t,r,R,e,h⟩
 unfold dIsi at e
 cases e1:fa t with
 |none=>rw [e1]at e;cases e
 |some r1 =>
  rw [e1]at e
  cases e
  exact⟨A,t,r1,R,e1,fun v H' gs q=>⟨v,r1.d,rfl,q.full,h _ H' gs (.bl _)⟩⟩
end
def zaa9 (N:List Str) (ds:List D):Th:=ds.map Sl.val++zbk7 (N.length - ds.length) Sl.no
theorem RSl.no_all {K:zbi5}{H0 H:Hp}:∀n,RSl K H0 H (zbk7 n Sl.no) (zbk7 n none) []
 |0=>.nil
 |n+1=>.no (RSl.no_all n)
theorem RSl.start {K:zbi5}{H0 H:Hp}{t:Th}{σ:L2.St} (r0:RSl K H0 H t σ []):∀ {ds:List D}{vs:List V},Reps K H0 ds vs→RSl K H0 H (ds.map Sl.val++t) (vs.map some++σ) []
 |_,_,.nil=>r0
 |_,_,.cons h r=>.val h (RSl.start r0 r)
def zi7:Out→Option Ev
 |.rt r=>some r
 |.nx _=>some (.cl .non)
 |_=>none
theorem zh9 {P:Program}{w:World}{K:zbi5}{mg:Str→Option Value}{base:BHeap}{x qual:Str}{st:Stmt}{f:Addr}{fd:FuncData}{N ps:List Str}{k:Nat}{G:List D→Option Ev} (Fn:L2.Fun K x qual st f fd) (S:FnScope N ps (zb8 st))
  (hlen:∀ds r,G ds=some r→ds.length=ps.length) (g:DS) (hG:∀ds r,G ds=some r→∃o,g (zaa9 N ds)=some o∧zi7 o=some r)
  (hbody:∀(cdv:Value) (A:Around) (outer:List Env) (s:zbj7) (H:Hp) (E:XK) (F:List Addr),Room k (A.deeper (envOfC qual (zb8 st) s.heap.objs.size f cdv)) →
   PSs (cxOf CX0 P w K mg base N qual (zb8 st) f cdv A outer s H E).nox (zj1 st) (dS K F g)):FnOk P w K mg base CX0 (k+1) f fd ps (spD K G):=by
 refine Fn.ok S (fun vs H Q E h=>?_) (fun cdv A outer s H vs Q E hr h=>?_)
 ·obtain⟨Fo,ds,r,_,hr,hg,_⟩:=h
  rw [hr.length];exact hlen ds r hg
 ·obtain⟨Fo,ds,r,hl,hr',hg,cont⟩:=h
  obtain⟨o,ho,hoe⟩:=hG ds r hg
  refine⟨_,hbody cdv A outer s H E Fo hr,dS_mk (A:=[]) (t:=zaa9 N ds) ⟨hl,zbo5,fun p hp=>(by cases hp),?_⟩ ho ?_⟩
  ·unfold zaa9 L2.start
   rw [hr'.length]
   exact RSl.start (RSl.no_all _) hr'
  ·have sm:∀ {A' H'},Gr [] H A' H'→Same H H':=fun g b o q=>g.kp b o (by simp) q
   cases o with
   |nx t' =>
    cases hoe
    exact fun σ' H' A' g' R'=>cont .non H' (sm g') .non
   |bk t'=>cases hoe
   |ct t'=>cases hoe
   |rt r' =>
    cases hoe
    intro v H' A' g' q
    refine cont v H' (sm g') ?_
    cases r with
    |cl d=>exact q
    |tm d=>exact q
    |nw xs =>
     obtain⟨p,vs',rfl,h1,h2,h3,h4⟩:=q
     rcases h1 with h1 | h1
     ·cases h1
     ·exact⟨p,vs',rfl,h1,h3,h4⟩
    |dn d =>
     obtain⟨B,h1,h2,h3⟩:=q
     exact⟨B,h1,fun b hb=>by rcases (h2 b hb).1 with z | z;cases z;exact z,h3⟩
end DL
namespace DL
open PySem.Spec L2
structure Cal (P:Program) (w:World) (K:zbi5) (mg:Str→Option Value) (base:BHeap) (x:Str) (k:Nat) (G:List D→Option Ev):Prop where
 ex:∃(a:Addr) (fd:FuncData) (ps:List Str),mg x=some (.ref a)∧zbo3 K (.ref a)=true∧L2.Binds K fd ps []∧FnOk P w K mg base CX0 k a fd ps (spD K G)
section
variable {X:Cx}{F:List Addr}{a b c:Expr}{es:List Expr}{fa fb fc:DE}{ga:DA}{pos:Pos}
theorem zb6 {k:Nat}{G:List D→Option Ev}{x:Str}{p:Pos} (c:Cal X.prog X.w X.K X.mg X.base x k G) (hr:Room k X.A) (ha:PA X (a::es) (dA X.K F ga)) (hg:Gl X x:=by rfl) (hdb:(x ==("__debug__":Str))=false:=by decide)
  (he:zbk2 (a::es) X.env=(false,eval a X.env)::zbk2 es X.env:=by rfl) (hpl:(zbq3 pos (zbk2 es X.env)).any (·.1)=false:=by rfl):PE X (.Call (.Name x p) (a::es) [] pos) (dE X.K F (dT1 (zc9 G) ga)):=by
 obtain⟨f,fd,ps,h1,h2,h3,h4⟩:=c.ex
 exact ped_call h4 hr hg h1 h2 h3 ha hdb he hpl
end
structure Df (K:zbi5) (mg:Str→Option Value) (x:Str) (st:Stmt) (ps:List Str) (a:Addr) (fd:FuncData):Prop where
 fn:L2.Fun K x x st a fd
 mgx:mg x=some (.ref a)
 bd:L2.Binds K fd ps []
theorem Df.cal {P:Program}{w:World}{K:zbi5}{mg:Str→Option Value}{base:BHeap}{x:Str}{st:Stmt}{ps:List Str}{a:Addr}{fd:FuncData}{k:Nat}{G:List D→Option Ev} (d:Df K mg x st ps a fd) (h:FnOk P w K mg base CX0 k a fd ps (spD K G)):Cal P w K mg base x k G :=
 ⟨a,fd,ps,d.mgx,d.fn.kp,d.bd,h⟩
theorem bt_int:bootBuiltins "int"=some (.type "int"):=by decide +kernel
theorem zu0:bootBuiltins "list"=some (.type "list"):=by decide +kernel
end DL
namespace DL
open PySem.Spec L2
theorem cut1 {n:Nat}:∀ {us:List Value},us.length=n+1→∃a t,us=a::t∧t.length=n
 |a::t,h=>⟨a,t,rfl,Nat.succ.inj h⟩
theorem binds1 {K:zbi5}{x qual:Str}{st:Stmt}{f:Addr}{fd:FuncData}{p0:Str} (F:L2.Fun K x qual st f fd) (h:∀(kV doc pm:Value) (an:Option Addr) (cdv ct:Value),∀a0:Value,bindArgs (zbo8 x qual (zl5 st) (zj1 st) (zb8 st) .none kV doc pm an cdv ct) ⟨[a0],[]⟩=pure [(p0,a0)]):Binds K fd [p0] [] :=
 F.binds fun kV doc pm an cdv ct u0 h0=>by
  obtain⟨a0,u1,rfl,h1⟩:=cut1 h0
  cases zbl8.mp h1
  exact h kV doc pm an cdv ct a0
theorem zo0 {K:zbi5}{x qual:Str}{st:Stmt}{f:Addr}{fd:FuncData}{p0 p1:Str} (F:L2.Fun K x qual st f fd) (h:∀(kV doc pm:Value) (an:Option Addr) (cdv ct:Value),∀a0 a1:Value,bindArgs (zbo8 x qual (zl5 st) (zj1 st) (zb8 st) .none kV doc pm an cdv ct) ⟨[a0,a1],[]⟩=pure [(p0,a0),(p1,a1)]):Binds K fd [p0,p1] [] :=
 F.binds fun kV doc pm an cdv ct u0 h0=>by
  obtain⟨a0,u1,rfl,h1⟩:=cut1 h0
  obtain⟨a1,u2,rfl,h2⟩:=cut1 h1
  cases zbl8.mp h2
  exact h kV doc pm an cdv ct a0 a1
theorem zas8 {K:zbi5}{x qual:Str}{st:Stmt}{f:Addr}{fd:FuncData}{p0 p1 p2:Str} (F:L2.Fun K x qual st f fd) (h:∀(kV doc pm:Value) (an:Option Addr) (cdv ct:Value),∀a0 a1 a2:Value,bindArgs (zbo8 x qual (zl5 st) (zj1 st) (zb8 st) .none kV doc pm an cdv ct) ⟨[a0,a1,a2],[]⟩=pure [(p0,a0),(p1,a1),(p2,a2)]):Binds K fd [p0,p1,p2] [] :=
 F.binds fun kV doc pm an cdv ct u0 h0=>by
  obtain⟨a0,u1,rfl,h1⟩:=cut1 h0
  obtain⟨a1,u2,rfl,h2⟩:=cut1 h1
  obtain⟨a2,u3,rfl,h3⟩:=cut1 h2
  cases zbl8.mp h3
  exact h kV doc pm an cdv ct a0 a1 a2
theorem binds4 {K:zbi5}{x qual:Str}{st:Stmt}{f:Addr}{fd:FuncData}{p0 p1 p2 p3:Str} (F:L2.Fun K x qual st f fd) (h:∀(kV doc pm:Value) (an:Option Addr) (cdv ct:Value),∀a0 a1 a2 a3:Value,bindArgs (zbo8 x qual (zl5 st) (zj1 st) (zb8 st) .none kV doc pm an cdv ct) ⟨[a0,a1,a2,a3],[]⟩=pure [(p0,a0),(p1,a1),(p2,a2),(p3,a3)]):Binds K fd [p0,p1,p2,p3] [] :=
 F.binds fun kV doc pm an cdv ct u0 h0=>by
  obtain⟨a0,u1,rfl,h1⟩:=cut1 h0
  obtain⟨a1,u2,rfl,h2⟩:=cut1 h1
  obtain⟨a2,u3,rfl,h3⟩:=cut1 h2
  obtain⟨a3,u4,rfl,h4⟩:=cut1 h3
  cases zbl8.mp h4
  exact h kV doc pm an cdv ct a0 a1 a2 a3
inductive Hv (K:zbi5) (x:Str) (st:Stmt) (f:Addr):Prop
 |mk {od an:Option Addr}{sl:Array (Option Value)}{oc kV dc pm cd ct:Value} (a:zbo1 K mainGlobals x=some (some (.ref f))) (l:K.lookup f=some ⟨oc,od,.func (zbo8 x x (zl5 st) (zj1 st) (zb8 st) .none kV dc pm an cd ct),sl⟩) (c:zbv1 K cd x=true) (k:zbo3 K (.ref f)=true):Hv K x st f
theorem Hv.fn {K:zbi5}{x:Str}{st:Stmt}{f:Addr} (h:Hv K x st f):∃fd,L2.Fun K x x st f fd:=by
 cases h with
 |mk a l c k=>exact⟨_,fun_mk l c k⟩
theorem Hv.mg {K:zbi5}{x:Str}{st:Stmt}{f:Addr}{hp:Heap}{mg:Str→Option Value} (h:Hv K x st f) (X:K.In hp) (G:hp.Ns mainGlobals mg):mg x=some (.ref f):=by
 cases h with
 |mk a l c k=>exact PySem.W.mg_of X G a
theorem zm8 {N P:List Str}{sc:Scope} (h1:sc.kind=.function) (h2:sc.isCoroutine=false) (h3:sc.isGenerator=false) (h5:N.take P.length=P) (h:(decide N.Nodup&&(decide (∀x∈P,sc.names.lookup x=some .local∨sc.names.lookup x=some .cell)&&decide (∀y∈sc.names,y.2≠.free)))=true):FnScope N P sc:=by
 rw [zbj3,zbj3,decide_eq_true_eq,decide_eq_true_eq,decide_eq_true_eq]at h
 exact⟨h1,h2,h3,h.1,h5,h.2.1,h.2.2⟩
theorem Hv.bt {K:zbi5}{x:Str}{st:Stmt}{f:Addr}{fd:FuncData}{p:Str} (F:L2.Fun K x x st f fd) (h:∀(kV doc pm:Value) (an:Option Addr) (cdv ct:Value) (v:Value),bindArgs (zbo8 x x (zl5 st) (zj1 st) (zb8 st) .none kV doc pm an cdv ct) ⟨[v],[]⟩=pure [(p,v)]) (s:zbj7) (v:Value):BindsTo s fd ⟨[v],[]⟩ [(p,v)]:=by
 obtain⟨oc,od,kV,doc,pm,an,cdv,ct,osl,rfl,lk,hcd⟩:=F.ex
 exact .of_eq (h ..)
def locB (sc:Scope) (x:Str):Bool:=match sc.names.lookup x with
 |some .local=>true
 |some .cell=>true
 |_=>false
theorem za8 {sc:Scope}{x:Str} (h:locB sc x=true):L2.Loc sc x:=by
 unfold locB at h
 unfold L2.Loc
 cases e:sc.names.lookup x with
 |none=>rw [e]at h;cases h
 |some k=>rw [e]at h;cases k<;>first | exact .inl rfl | exact .inr rfl | cases h
end DL
namespace L2
open PySem.Spec
section
variable {X:Cx}{pins:List (Addr×Obj)}{σ:L2.St}{H:Hp}{s:zbj7}{h':Heap}
theorem Inv.turnedNew {t':Nat}{fp:List Addr}{a:Addr}{o:HO} (I:Inv X pins σ H s) (k:∀b u,b∉fp→s.heap.get? b=some u→h'.get? b=some u) (hf:∀b∈fp,FpOk X pins H b) (hp:s.heap.objs.size≤a)
  (new:ObjOk X.prog X.w (upd H a o) h' a o):Inv X pins σ (upd H a o) { s with heap:=h',toks:=t' }:=by
 have ha:H a=none:=I.hok.fresh hp
 have sm:∀b u,H b=some u→upd H a o b=some u:=fun b u e=>by rw [zd3 (fun z=>by rw [z,ha]at e;cases e)];exact e
 have nfp:∀b u,H b=some u→b∉fp:=fun b u e z=>by rw [(hf b z).1]at e;cases e
 refine I.step (g':=s.gens) (d':=s.drawn) (ch:=fp) (fun b hb=>?_) (fun b u _ _ hc e _=>k b u hc e) (fun b u _ _ hc e _=>⟨u.slots,k b u hc e⟩) (fun b u _ e n=>?_)
  (fun b u hc e=>⟨u,k b u hc e⟩) (fun b xs e=>sm b _ e) (fun b q u e=>sm b _ e) (fun b ps e=>sm b _ e) (fun m hm=>?_) (fun b u e=>?_) I.bare
 ·obtain⟨f0,f1,f2,f3,f4,f5⟩:=hf b hb
  exact⟨f3,f1,f4,f5⟩
 ·rw [zd3 (zbl3 (zbk6 (zbj8 e) hp))];exact n
 ·obtain⟨q,es,ep,ho,r⟩:=hm
  exact⟨q,es,ep,k _ q (fun z=>(hf _ z).2.1 rfl) ho,r⟩
 ·by_cases z:b=a
  ·subst z
   rw [zc6]at e
   cases e
   exact new
  ·rw [zd3 z]at e
   refine (I.hok b u e).stay (fun c v hc q=>k c v ?_ q) (fun c q=>sm c _ q) (fun c xs q=>sm c _ q) fun c o u q=>sm c _ q
   rcases hc with w | w
   ·rw [w];exact nfp b u e
   ·exact nfp c _ w
theorem Inv.turnedL {t':Nat}{fp:List Addr} (I:Inv X pins σ H s) (k:∀b u,b∉fp→s.heap.get? b=some u→h'.get? b=some u) (hf:∀b∈fp,FpOk X pins H b):Inv X pins σ H { s with heap:=h',toks:=t' }:=by
 have nfp:∀b u,H b=some u→b∉fp:=fun b u e z=>by rw [(hf b z).1]at e;cases e
 refine I.step (g':=s.gens) (d':=s.drawn) (ch:=fp) (fun b hb=>?_) (fun b u _ _ hc e _=>k b u hc e) (fun b u _ _ hc e _=>⟨u.slots,k b u hc e⟩) (fun b u _ e n=>n)
  (fun b u hc e=>⟨u,k b u hc e⟩) (fun b xs e=>e) (fun b q u e=>e) (fun b ps e=>e) (fun m hm=>?_) (fun b u e=>?_) I.bare
 ·obtain⟨f0,f1,f2,f3,f4,f5⟩:=hf b hb
  exact⟨f3,f1,f4,f5⟩
 ·obtain⟨q,es,ep,ho,r⟩:=hm
  exact⟨q,es,ep,k _ q (fun z=>(hf _ z).2.1 rfl) ho,r⟩
 ·refine (I.hok b u e).stay (fun c v hc q=>k c v ?_ q) (fun c q=>q) (fun c xs q=>q) fun c o u q=>q
  rcases hc with w | w
  ·rw [w];exact nfp b u e
  ·exact nfp c _ w
end
noncomputable def Ite (K:zbi5) (a:Addr):It :=
 ⟨fun i H => ∃xs x,SqL K H a xs∧xs[i]?=some x,fun i H x H' => ∃p v,H p=none∧x=.ref p∧H'=upd H p (.tup [.int i,v])∧∀xs,SqL K H a xs→xs[i]?=some v,fun i H => ∃xs,SqL K H a xs∧xs.length≤i⟩
def EnumAt (e it a:Addr) (i:Nat) (h:Heap):Prop:=(∃old,IsEnum h e it (i:Int) old)∧h.IsListIter it a i∧e≠it
theorem zax0 {P:Program}{w:World}{K:zbi5}{elts:List Expr}{k:Nat}{pos:Pos} (a e it:Addr):Turn P w K (.Tuple elts k pos) (Ite K a) [e,it] e (EnumAt e it a) where
 mem:=by simp
 obj:=fun i h st b hb=>by
  obtain⟨⟨old,h1⟩,h2,_⟩:=st
  rcases (by simpa using hb:b=e∨b=it) with rfl | rfl
  ·exact⟨_,h1,fun v z=>by cases z⟩
  ·obtain⟨o,e1,c,d⟩:=h2
   exact⟨o,e1,fun v z=>by rw [d]at z;cases z⟩
 keep:=fun i h h' st kk=>by
  obtain⟨⟨old,h1⟩,h2,ne⟩:=st
  exact⟨⟨old,kk e (by simp) _ h1⟩,h2.at fun o q=>kk it (by simp) o q,ne⟩
 item:=by
  intro X hP hw hK hc i pins s σ H E I hf st hg
  subst hP hw hK
  obtain⟨xs,x,hq,hx⟩:=hg
  obtain⟨its,rv,p,hz⟩:=I.list hq
  obtain⟨u,hu,ru⟩:=rv.get hx
  obtain⟨⟨old,h1⟩,h2,ne⟩:=st
  refine wpAny_pyNext_enum_item h1 h2 p.isList (x:=u) (by simpa using hu) ne fun h1' heo hit1 ht1 hz1 hk1=>?_
  refine⟨_,rfl,wpAny_letOwnedTupleGo_enum heo fun h2' he2 hs2=>?_⟩
  replace hs2:Heap.SameBut e h1' h2':=hs2
  have es:e<s.heap.objs.size:=zbj8 h1
  have kp:∀b o,b∉[e,it]→s.heap.get? b=some o→h2'.get? b=some o:=fun b o nb q=>by
   have n1:b≠e:=fun z=>nb (by simp [z])
   have n2:b≠it:=fun z=>nb (by simp [z])
   exact (hs2.2 b n1).trans (hk1 b o n1 n2 q)
  have ht2:h2'.get? s.heap.objs.size=some { cls:=.type "tuple",data:=.seq #[.int i s.toks,u] }:=(hs2.2 _ (zbr5 es)).trans ht1
  have I2:Inv X pins σ (upd H s.heap.objs.size (.tup [.int i,x])) { s with heap:=h2',toks:=s.toks+1 }:=I.turnedNew (t':=s.toks+1) kp hf (zbk1 _)
   ⟨by show 2≤sizeLine;decide,[.int i s.toks,u],.cons ⟨_,rfl⟩ (.cons ru .nil),⟨_,ht2,rfl,_,rfl⟩⟩
  refine⟨.ref s.heap.objs.size,_,I2,rfl,⟨s.heap.objs.size,x,I.hok.fresh (zbk1 _),rfl,rfl,fun ys hy=>by rw [I.list_inj hy hq];exact hx⟩,⟨⟨u,?_⟩,?_,ne⟩,fun b hb=>?_⟩
  ·exact he2
  ·exact hit1.extBut hs2.extBut (Ne.symm ne)
  ·rw [zd3 (fun z=>?_)]
   ·exact (hf b hb).1
   ·rcases (by simpa using hb:b=e∨b=it) with w' |w'
    ·rw [← z,w']at es;exact absurd es (zbo6 _)
    ·obtain⟨o,e1,_⟩:=h2
     have:=zbj8 e1
     rw [← w',z]at this;exact absurd this (zbo6 _)
 done:=by
  intro X hP hw hK hc i pins s σ H E I hf st hg
  subst hP hw hK
  obtain⟨xs,hq,hx⟩:=hg
  obtain⟨its,rv,p,hz⟩:=I.list hq
  obtain⟨⟨old,h1⟩,h2,ne⟩:=st
  have hl:=rv.length
  refine wpAny_pyNext_enum_end (I.ok.hd hc) h1 h2 p.isList (by simp;lia) fun h' eb=>⟨rfl,I.turnedL (t':=s.toks) (fun b o nb q=>eb b o (fun z=>nb (by simp [z])) q) hf⟩
 self:=fun _ _ _ _ _ st h=>by
  obtain⟨⟨old,h1⟩,_,_⟩:=st
  exact wpAny_pyIter_enum h1 h
def iEnum (K:zbi5) (tl:TE):TI:=fun σ H R=>tl σ H fun x H1 => ∃a,x=.ref a∧(∃xs,SqL K H1 a xs)∧R (Ite K a) H1
theorem bt_enum:bootBuiltins "enumerate"=some (.type "enumerate"):=by decide +kernel
theorem zba1 {X:Cx}{l:Expr}{tl:TE}{elts:List Expr}{k:Nat}{tp p pos:Pos} (hg:Gl X "enumerate") (hm:X.mg "enumerate"=none) (hl:PE X l tl) (hs:zbk2 [l] X.env=[(false,eval l X.env)]:=by rfl) :
  PI X (.Tuple elts k tp) (.Call (.Name "enumerate" p) [l] [] pos) (iEnum X.K tl):=by
 intro pins s σ H R I h
 refine Call_ (zl9 I hg hm bt_enum (PyProof.Rows.callWith_type1 (thn ((zf9 hl zn9 hs) pos pins s σ H (fun vs H1=>match vs with | [x] => ∃a,x=.ref a∧(∃xs,SqL X.K H1 a xs)∧R (Ite X.K a) H1 | _=>False) I h) fun us s1 ⟨vs,H1,I1,r1,q1⟩=>?_) hs rfl))
 cases r1 with
 |nil=>exact q1.elim
 |@cons x u xr ur ru rr =>
  cases rr with
  |cons _ _=>exact q1.elim
  |nil =>
  obtain⟨a,rfl,⟨xs,hq⟩,q⟩:=q1
  cases ru
  obtain⟨its,rv,p,hz⟩:=I1.list hq
  refine call_enumerate_list p.isList fun h' he hit hz' hk=>?_
  have I2:Inv X pins σ H1 { s1 with heap:=h' }:=I1.kept (t':=s1.toks) hk
  refine wpAny_pyIter_enum he ?_
  refine⟨s1.heap.objs.size+1,[s1.heap.objs.size+1,s1.heap.objs.size],EnumAt (s1.heap.objs.size+1) s1.heap.objs.size a,Ite X.K a,H1,rfl,I2,zax0 a _ _,⟨⟨_,he⟩,hit,Nat.succ_ne_self _⟩,fun b hb=>?_,q⟩
  rcases (by simpa using hb:b=s1.heap.objs.size+1∨b=s1.heap.objs.size) with rfl | rfl
  ·exact I1.fpOk (zbt1 _) (I1.hok.fresh (zbt1 _))
  ·exact I1.fpOk (zbk1 _) (I1.hok.fresh (zbk1 _))
end L2
namespace DL
open PySem.Spec L2
def zo9 (i:Nat):List D→List D
 |[]=>[]
 |d::ds=>.tup [.int i,d]::zo9 (i+1) ds
theorem zi8:∀(i:Nat) (ds:List D),(zo9 i ds).length=ds.length
 |_,[]=>rfl
 |i,d::ds=>by simp [zo9,zi8 (i+1) ds]
theorem zy9:∀(i:Nat) (ds:List D) (j:Nat) (d:D),ds[j]?=some d→(zo9 i ds)[j]?=some (.tup [.int ((i+j:Nat):Int),d])
 |_,[],j,d,h=>by simp at h
 |i,e::ds,0,d,h=>by simp at h;subst h;simp [zo9]
 |i,e::ds,j+1,d,h=>by
  have:=zy9 (i+1) ds j d (by simpa using h)
  simp only [zo9,zbq0,this]
  rw [show i+1+j=i+(j+1) by lia]
noncomputable def zbf3 (k:D→Th→Option Th) (f:DE) (body:DS):DS:=fun t=>(f t).bind fun r=>match r.d with
 |.lst ds=>if r.ok then forD k body (zo9 0 ds) t else none
 |_=>none
section
variable {X:Cx}{F:List Addr}{a b c:Expr}{es:List Expr}{fa fb fc:DE}{g g1 g2:DS}{pos:Pos}{gt:TG}{kt:D→Th→Option Th}
theorem psd_enum {body:List Stmt}{elts:List Expr}{kk:Nat}{tp p1 p2:Pos} (hp:PassesOwn (model X.prog X.w) X.A X.env X.xe) (hc:X.calm=true) (hge:Gl X "enumerate") (hm:X.mg "enumerate"=none) (hl:PE X a (dE X.K F fa)) (hg:PG X (.Tuple elts kk tp) gt) (ht:TgOk X.K F gt kt) (hb:PSs X body (dS X.K F g))
  (hst:zbk2 [a] X.env=[(false,eval a X.env)]:=by rfl) (hs:∀x,foldedSetIterable (.Call (.Name "enumerate" p1) [a] [] p2) X.env x=pure x:=by intro _;rfl):PS X (.For (.Tuple elts kk tp) (.Call (.Name "enumerate" p1) [a] [] p2) body [] pos) (dS X.K F (zbf3 kt fa g)):=by
 refine PS.imp (zaq5 hp hc (zba1 hge hm hl hst) hg hb hs) ?_
 intro E σ H hh
 obtain⟨A,t,o,R,e,h⟩:=zbe8 hh
 unfold zbf3 at e
 cases e1:fa t with
 |none=>rw [e1]at e;cases e
 |some r =>
  rw [e1]at e
  refine⟨A,t,r,R,e1,fun v H1 gs q=>?_⟩
  have e:(match r.d with
   |.lst ds=>if r.ok then forD kt g (zo9 0 ds) t else none
   |_=>none)=some o:=e
  split at e
  case h_2=>cases e
  rename_i ds z
  split at e
  case isFalse=>cases e
  rename_i ok
  have cl:=q.clean R.mu gs ok
  rw [z]at cl
  cases cl with
  |@lst _ p vs h1 h2 =>
   refine⟨p,rfl,⟨vs,SqL.mono (zb0 _ _) h1⟩,?_⟩
   refine zae5 (fun A H=>SqL X.K (hide (A++F) H) p vs∧Reps X.K (hide (A++F) H) ds vs) ht (R.grow gs) e (h.back (Gr.of_same R.mu.left gs)) ⟨h1,h2⟩ (fun A H A' H' q gr=>⟨SqL.mono gr.same q.1,Reps.mono gr.same q.2⟩)
    (fun A H q=>⟨vs,SqL.mono (zb0 _ _) q.1,by rw [h2.length,zi8];exact zbk1 _⟩) (fun A H i q hi=>?_) (fun A H i x H' q mu y hi=>?_)
   ·have hi':i<vs.length:=by rw [h2.length];rw [zi8]at hi;exact hi
    exact⟨vs,vs[i],SqL.mono (zb0 _ _) q.1,zbj6 hi'⟩
   ·obtain⟨l,v,hl0,rfl,rfl,hv⟩:=y
    have zz:=hv vs (SqL.mono (zb0 _ _) q.1)
    obtain⟨d,hd,rd⟩:=q.2.getV zz
    have sm:=zd2 (o:=HO.tup [.int i,v]) hl0
    refine⟨sm,_,zy9 0 ds i d hd,?_⟩
    rw [Nat.zero_add]
    exact .tup (SqT.of (zc7 zc6 (zd4 mu hl0))) (.cons (.int _) (.cons (Rep.mono (zc8 sm) rd) .nil))
end
end DL
namespace L2
open PySem.Spec
noncomputable def clOf (cells:List (Str×Addr)):List (Str×NameKind)→List (Str×Addr)→List (Str×Addr)
 |[],acc=>acc
 |(n,k)::r,acc=>if k == .free then clOf cells r ((n,(cells.lookup n).getD 0)::acc) else clOf cells r acc
theorem zq9 {cells:List (Str×Addr)}:∀ {names:List (Str×NameKind)}{acc:List (Str×Addr)}{x:Str}{c:Addr},(∀y∈names,y.2=.free→∃c,cells.lookup y.1=some c)→(clOf cells names acc).lookup x=some c→acc.lookup x=some c∨cells.lookup x=some c
 |[],acc,x,c,_,h=>.inl h
 |(n,k)::r,acc,x,c,hy,h=>by
  unfold clOf at h
  have hr:∀y∈r,y.2=.free→∃c,cells.lookup y.1=some c:=fun y h1=>hy y (zbi6 _ h1)
  split at h
  ·rename_i hk
   rcases zq9 hr h with z | z
   ·rw [zbm0]at z
    split at z
    ·rename_i e
     have e:x=n:=by simpa using e
     obtain⟨c',hc'⟩:=hy (n,k) (zbi9 ..) (by simpa using hk)
     simp only [hc',zbt5]at z
     cases z
     rw [e];exact .inr hc'
    ·exact .inl z
   ·exact .inr z
  ·exact zq9 hr h
theorem zz5 {cells:List (Str×Addr)}:∀ {names:List (Str×NameKind)}{acc:List (Str×Addr)}{x:Str},(∃c,acc.lookup x=some c)→∃c,(clOf cells names acc).lookup x=some c
 |[],acc,x,h=>h
 |(n,k)::r,acc,x,h=>by
  unfold clOf
  split
  ·refine zz5 ?_
   rw [zbm0]
   split
   ·exact⟨_,rfl⟩
   ·exact h
  ·exact zz5 h
theorem zv8 {cells:List (Str×Addr)}:∀ {names:List (Str×NameKind)}{acc:List (Str×Addr)}{x:Str},(x,NameKind.free)∈names→∃c,(clOf cells names acc).lookup x=some c
 |(n,k)::r,acc,x,h=>by
  unfold clOf
  rcases zbj4.mp h with z | z
  ·cases z
   rw [if_pos (by rfl)]
   refine zz5 ⟨(cells.lookup n).getD 0,?_⟩
   simp [zbm0]
  ·split
   ·exact zv8 z
   ·exact zv8 z
theorem zac1 {scope:Scope}{env:Env} (h:∀y∈scope.names,y.2=.free→∃c,env.cells.lookup y.1=some c):closureFor scope env=pure (clOf env.cells scope.names []):=by
 unfold closureFor
 have key:∀(names:List (Str×NameKind)) (acc:List (Str×Addr)),(∀y∈names,y.2=.free→∃c,env.cells.lookup y.1=some c) →
   (forIn names acc fun (x:Str×NameKind) (cs:List (Str×Addr))=>(do
    if x.2 == .free then
     let a ← cellOf env x.1
     pure (ForInStep.yield ((x.1,a)::cs))
    else pure (ForInStep.yield cs):Sem (ForInStep (List (Str×Addr)))))=pure (clOf env.cells names acc):=by
  intro names
  induction names with
  |nil=>intro acc _;rfl
  |cons y r ih =>
   intro acc hy
   obtain⟨n,k⟩:=y
   have hr:∀y∈r,y.2=.free→∃c,env.cells.lookup y.1=some c:=fun y h1=>hy y (zbi6 _ h1)
   rw [List.forIn_cons]
   unfold clOf
   by_cases hk:(k == NameKind.free)=true
   ·obtain⟨c,hc⟩:=hy (n,k) (zbi9 ..) (by simpa using hk)
    have hc':cellOf env n=pure c:=by unfold cellOf;rw [hc]
    simp only [hk,if_true,hc']
    rw [← ih _ hr]
    simp only [hc,zbt5]
    rfl
   ·have hk':(k == NameKind.free)=false:=by simpa using hk
    simp only [hk',zbl2,if_false]
    rw [← ih _ hr]
    rfl
 have:=key scope.names [] h
 simp only [bind_pure_comp]at this ⊢
 rw [this]
 rfl
theorem zg1 {env:Env}:∀ {names:List (Str×NameKind)}{x:Str}{k':NameKind},(names.map fun (n,k)=>if (k == NameKind.free&&env.scope.kind == .function&&env.kindOf n == some .cell) then (n,NameKind.cell) else (n,k)).lookup x=some k' →
  ∃k,(x,k)∈names∧(k'=k∨(k=.free∧k'=.cell))
 |[],x,k',h=>by simp at h
 |(n,k)::r,x,k',h=>by
  rw [zbk5]at h
  by_cases hc:(k == NameKind.free&&env.scope.kind == .function&&env.kindOf n == some .cell)=true
  ·simp only [hc,if_true,zbm0]at h
   split at h
   ·rename_i e
    have e:x=n:=by simpa using e
    cases h
    simp only [zbj3,beq_iff_eq]at hc
    have hk:k=.free:=by simpa using hc.1.1
    exact⟨k,by rw [e];exact zbi9 ..,.inr ⟨hk,rfl⟩⟩
   ·obtain⟨q,a,b⟩:=zg1 h
    exact⟨q,zbi6 _ a,b⟩
  ·have hc':(k == NameKind.free&&env.scope.kind == .function&&env.kindOf n == some .cell)=false:=by simpa using hc
   simp only [hc',zbl2,if_false,zbm0]at h
   split at h
   ·rename_i e
    have e:x=n:=by simpa using e
    cases h
    exact⟨_,by rw [e];exact zbi9 ..,.inl rfl⟩
   ·obtain⟨q,a,b⟩:=zg1 h
    exact⟨q,zbi6 _ a,b⟩
theorem zv0 {prog:Program}{w:World}{A:Around}{R:Result→zbj7→Prop}{s:zbj7}{elt target iter:Expr}{ifs:List Expr}{scope:Scope}{pos:Pos}{it acc:Value}{env:Env} (I:Nat→zbj7→Prop)
  (turn:∀n s,I n s→wpAny (model prog w) A (pyNext it) (fun r s₁=>match r with
   |none=>R (.ok .next) s₁
   |some v=>wpAny (model prog w) A (letOwnedTupleGo target it v) (fun _ s₁'=>wpAny (model prog w) A (assign target env v) (fun _ s₂ =>
     wpAny (model prog w) A (forIn ifs true fun c r=>if r=true then do let ok ← isTrue c env (eval c env);pure (ForInStep.yield ok) else pure (ForInStep.yield r)) (fun ok s₃ =>
      if ok=true then wpAny (model prog w) A (eval elt env) (fun x s₄ =>
       wpAny (model prog w) A (call (.builtin "list.append") [acc,x]) (fun _ s₅ => ∃m,m<n∧I m s₅) (fun _ _=>False) s₄) (fun _ _=>False) s₃
      else ∃m,m<n∧I m s₃) (fun _ _=>False) s₂) (fun _ _=>False) s₁') (fun _ _=>False) s₁) (fun _ _=>False) s)
  (n:Nat) (h:I n s):codeAny (model prog w) A (.compLoop (.ListComp elt [⟨target,iter,ifs,0⟩] scope pos) 0 it acc env) R s:=by
 refine codeAny_loop rfl I (fun n s hI=>?_) n h
 show wpAny _ A ((compTurn (.ListComp elt [⟨target,iter,ifs,0⟩] scope pos) 0 it acc env).onRaise (fun x=>do noteFrame x env;theTreesLotGoes x)) _ _ s
 refine wpAny_noted ?_
 rw [compTurn_list]
 refine zbi8 (wpAny_standAt (zbi8 (wpAny_mono (turn n s hI) (fun r s₁ h₁=>?_) fun _ _ h'=>h'.elim)))
 cases r with
 |none=>exact zbj5 h₁
 |some v =>
  refine zbi8 (wpAny_mono h₁ (fun _ s₁' h₁'=>?_) fun _ _ h'=>h'.elim)
  refine zbi8 (wpAny_mono h₁' (fun _ s₂ h₂=>zbi8 (wpAny_mono h₂ (fun ok s₃ h₃=>?_) fun _ _ h'=>h'.elim)) fun _ _ h'=>h'.elim)
  cases ok with
  |false=>exact zbj5 ⟨rfl,h₃⟩
  |true =>
   exact zbi8 (zbi8 (wpAny_mono h₃ (fun x s₄ h₄=>zbi8 (wpAny_mono h₄ (fun _ s₅ h₅=>zbj5 (zbj5 ⟨rfl,h₅⟩)) fun _ _ h'=>h'.elim)) fun _ _ h'=>h'.elim))
theorem zaf1 {x:Str}{c:Addr}:∀ {names:List (Str×NameKind)}{n:Nat}{acc:List (Str×Addr)},(cellsFrom n names acc).lookup x=some c→acc.lookup x=some c∨n≤c
 |[],n,acc,h=>.inl h
 |(y,k)::r,n,acc,h=>by
  unfold cellsFrom at h
  split at h
  ·rcases zaf1 h with z | z
   ·rw [zbm0]at z
    split at z
    ·cases z;exact .inr (zbk1 _)
    ·exact .inl z
   ·exact .inr (by lia)
  ·exact zaf1 h
theorem zas1 {x:Str}:∀ {names:List (Str×NameKind)}{n:Nat}{acc:List (Str×Addr)},(∃c,acc.lookup x=some c)→∃c,(cellsFrom n names acc).lookup x=some c
 |[],n,acc,h=>h
 |(y,k)::r,n,acc,h=>by
  unfold cellsFrom
  split
  ·refine zas1 ?_
   rw [zbm0]
   split
   ·exact⟨_,rfl⟩
   ·exact h
  ·exact zas1 h
theorem zan9 {x:Str}:∀ {names:List (Str×NameKind)}{n:Nat}{acc:List (Str×Addr)},(x,NameKind.cell)∈names→∃c,(cellsFrom n names acc).lookup x=some c
 |(y,k)::r,n,acc,h=>by
  unfold cellsFrom
  rcases zbj4.mp h with z | z
  ·cases z
   rw [if_pos (by rfl)]
   exact zas1 ⟨n,by simp [zbm0]⟩
  ·split
   ·exact zan9 z
   ·exact zan9 z
theorem cf_ge {x:Str}{c:Addr}{lo:Nat}:∀ {names:List (Str×NameKind)}{n:Nat}{acc:List (Str×Addr)},lo≤n→(∀c,acc.lookup x=some c→lo≤c)→(cellsFrom n names acc).lookup x=some c→lo≤c
 |[],n,acc,_,ha,h=>ha c h
 |(y,k)::r,n,acc,hn,ha,h=>by
  unfold cellsFrom at h
  split at h
  ·refine cf_ge (n:=n+1) (by lia) (fun c' h'=>?_) h
   rw [zbm0]at h'
   split at h'
   ·cases h';exact hn
   ·exact ha c' h'
  ·exact cf_ge hn ha h
theorem zbg2 {x:Str}{c:Addr}:∀ {names:List (Str×NameKind)}{n:Nat}{acc:List (Str×Addr)},(x,NameKind.cell)∈names→(cellsFrom n names acc).lookup x=some c→n≤c
 |(y,k)::r,n,acc,hm,h=>by
  unfold cellsFrom at h
  rcases zbj4.mp hm with z | z
  ·cases z
   rw [if_pos (by rfl)]at h
   refine cf_ge (lo:=n) (n:=n+1) (by lia) (fun c' h'=>?_) h
   rw [zbm0,beq_self_eq_true]at h'
   cases h'
   exact zbk1 _
  ·split at h
   ·have:=zbg2 z h;lia
   ·exact zbg2 z h
theorem zbg1 {x:Str}:∀ {names:List (Str×NameKind)}{n:Nat}{acc:List (Str×Addr)},(x,NameKind.cell)∉names→(cellsFrom n names acc).lookup x=acc.lookup x
 |[],n,acc,_=>rfl
 |(y,k)::r,n,acc,h=>by
  have hr:(x,NameKind.cell)∉r:=fun z=>h (zbi6 _ z)
  unfold cellsFrom
  split
  ·rename_i hk
   rw [zbg1 hr,zbm0]
   split
   ·rename_i e
    exact absurd (zbj4.mpr (.inl (by rw [show x=y by simpa using e,show k=NameKind.cell by simpa using hk]))) h
   ·rfl
  ·exact zbg1 hr
theorem zbg3:∀ {names:List (Str×NameKind)}{n:Nat}{acc:List (Str×Addr)},(∀x c,acc.lookup x=some c→c<n)→(∀x y c,acc.lookup x=some c→acc.lookup y=some c→x=y) →
  ∀x y c,(cellsFrom n names acc).lookup x=some c→(cellsFrom n names acc).lookup y=some c→x=y
 |[],n,acc,_,hi=>hi
 |(z,k)::r,n,acc,hb,hi=>by
  unfold cellsFrom
  split
  ·refine zbg3 (n:=n+1) (fun x c h=>?_) (fun x y c h1 h2=>?_)
   ·rw [zbm0]at h
    split at h
    ·cases h;exact zbs0 _
    ·exact zbo9 (hb x c h)
   ·rw [zbm0]at h1 h2
    split at h1
    ·rename_i e1
     cases h1
     split at h2
     ·rename_i e2;rw [show x=z by simpa using e1,show y=z by simpa using e2]
     ·exact absurd (hb y _ h2) (zbo6 _)
    ·split at h2
     ·cases h2;exact absurd (hb x _ h1) (zbo6 _)
     ·exact hi x y c h1 h2
  ·exact zbg3 hb hi
theorem zao0 {x:Str}{c:Addr}:∀ {names:List (Str×NameKind)}{h:Heap}{acc:List (Str×Addr)},(∀c,acc.lookup x=some c→∃v,h.IsCell c v)→(cellsFrom h.objs.size names acc).lookup x=some c→∃v,(pushCells h names).IsCell c v
 |[],h,acc,ha,e=>ha c e
 |(y,k)::r,h,acc,ha,e=>by
  unfold cellsFrom at e
  unfold pushCells
  split at e
  ·rename_i hk
   rw [if_pos hk]
   rw [show h.objs.size+1=(h.push { cls:=.type "cell",data:=.cell none }).objs.size from (zbp7 ..).symm]at e
   refine zao0 (fun c' e'=>?_) e
   rw [zbm0]at e'
   split at e'
   ·cases e';exact⟨none,_,zbj9 _ rfl,rfl⟩
   ·obtain⟨v,z⟩:=ha c' e'
    exact⟨v,z.keeps fun b o q=>zbj0 _ q⟩
  ·rename_i hk
   rw [if_neg hk]
   exact zao0 ha e
theorem zq4 {M:Model}{A:Around}{E:Value→zbj7→Prop}{s:zbj7}{scope:Scope}{globals:Addr}{cl:List (Str×Addr)}{qual:Str}{func:Option Addr}{code:Value}{env:Env}{builtins:Addr}{Q:Env→zbj7→Prop}
  (hQ:∀h',h'.Ns s.heap.objs.size (fun _=>none)→(∀b o,s.heap.get? b=some o→h'.get? b=some o)→(∀x c,(∀c,cl.lookup x=some c→∃v,s.heap.IsCell c v)→(cellsFrom (s.heap.objs.size+1) scope.names cl).lookup x=some c→∃v,h'.IsCell c v) →
   Q (newEnv scope s.heap.objs.size globals (cellsFrom (s.heap.objs.size+1) scope.names cl) qual func code (some env) builtins) { s with heap:=h',toks:=s.toks }) :
  wpAny M A (newFunctionEnv scope globals cl [] qual func code (some env) builtins) Q E s:=by
 simp only [newFunctionEnv,zby2,if_true]
 refine zbi8 (wpAny_alloc ?_)
 refine zbi8 (wpAny_layCells _ (fun name kind cells=>by cases hkc:kind == NameKind.cell<;>simp [hkc]) _ _ _ _ ?_)
 have sz:(s.heap.push { cls:=.type "dict",data:=.dict #[] }).objs.size=s.heap.objs.size+1:=zbp7 ..
 rw [show ({ s with heap:=s.heap.push { cls:=.type "dict",data:=.dict #[] } }:zbj7).heap.objs.size=s.heap.objs.size+1 from sz]
 rw [List.forIn_nil]
 refine zbi8 (zbj5 (zbj5 ?_))
 refine hQ _ ((Heap.Ns.new s.heap (.type "dict")).keeps (pushCells_keeps _ _)) (fun b o e=>pushCells_keeps _ _ b o (zbj0 _ e)) fun x c ha e=>?_
 rw [← sz]at e
 exact zao0 (fun c' e'=>let ⟨v,z⟩:=ha c' e';⟨v,z.keeps fun b o q=>zbj0 _ q⟩) e
noncomputable abbrev blk (X:Cx) (N':List Str) (scope:Scope) (C:Addr) (s₃:zbj7) (H₃:Hp) (fp:List Addr) (pins:List (Addr×Obj)):Cx :=
 { X with N:=N',s₀:=s₃,H₀:=H₃,env:=compEnvC scope (cellsFrom (C+1) scope.names (clOf X.env.cells scope.names [])) C X.env,outer:=X.stack,stack:=X.stack,ex:=fp,fn:=fun x=>scope.names.lookup x == some .cell,calm:=true,pn:=X.pn++pins,xe:=fun _ _=>False }
structure CompSc (X:Cx) (scope:Scope):Prop where
 kind:scope.kind=.function
 free:∀y∈scope.names,y.2=.free→X.env.kindOf y.1=some .cell∨X.env.kindOf y.1=some .free
 names:∀y∈scope.names,scope.names.lookup y.1=some y.2
section
variable {X:Cx}{pins:List (Addr×Obj)}{σ:L2.St}{H:Hp}{s:zbj7}{scope:Scope}{N':List Str}{fp:List Addr}
theorem CompSc.frees (S:CompSc X scope) (ok:X.Ok):∀y∈scope.names,y.2=.free→∃c,X.env.cells.lookup y.1=some c:=fun y hy hf=>ok.has y.1 (S.free y hy hf)
theorem CompSc.cells (S:CompSc X scope) (ok:X.Ok) {x:Str}{c:Addr} (h:(clOf X.env.cells scope.names []).lookup x=some c):X.env.cells.lookup x=some c:=by
 rcases zq9 (S.frees ok) h with z | z
 ·simp at z
 ·exact z
theorem CompSc.nc (S:CompSc X scope) {x:Str} (h:(x,NameKind.free)∈scope.names):(x,NameKind.cell)∉scope.names:=fun z=>by
 have w1:=S.names _ h
 have w2:=S.names _ z
 rw [show (x,NameKind.cell).1=(x,NameKind.free).1 from rfl,w1]at w2
 cases w2
theorem CompSc.cls (S:CompSc X scope) (I:Inv X pins σ H s) {x:Str}{c:Addr} (h:(clOf X.env.cells scope.names []).lookup x=some c):c<s.heap.objs.size:=by
 obtain⟨v,o,ho,_⟩:=I.cell x c (S.cells I.ok h)
 exact zbj8 ho
theorem CompSc.old (S:CompSc X scope) (I:Inv X pins σ H s) {x:Str}{c:Addr} (h:(cellsFrom (s.heap.objs.size+1) scope.names (clOf X.env.cells scope.names [])).lookup x=some c):X.env.cells.lookup x=some c∨s.heap.objs.size<c:=by
 rcases zaf1 h with z | z
 ·exact .inl (S.cells I.ok z)
 ·exact .inr z
theorem blk_ok (I:Inv X pins σ H s) (S:CompSc X scope) (hc:X.calm=true) (hf:∀b∈fp,FpOk X pins H b) (hlt:∀b∈fp,b<s.heap.objs.size):(blk X N' scope s.heap.objs.size s H fp pins).Ok where
 mod:=I.ok.mod
 kind:=S.kind
 glob:=I.ok.glob
 blt:=I.ok.blt
 above:=zbk1 _
 inj:=zbg3 (fun x c h=>zbo9 (S.cls I h)) fun x y c h1 h2=>I.ok.inj x y c (S.cells I.ok h1) (S.cells I.ok h2)
 has:=fun x hx=>by
  have hx:(relabel scope X.env).names.lookup x=some .cell∨(relabel scope X.env).names.lookup x=some .free:=hx
  have:(x,NameKind.free)∈scope.names∨(x,NameKind.cell)∈scope.names:=by
   rcases hx with hx | hx
   ·obtain⟨k,a,b⟩:=zg1 hx
    rcases b with b | b
    ·rw [← b]at a;exact .inr a
    ·rw [b.1]at a;exact .inl a
   ·obtain⟨k,a,b⟩:=zg1 hx
    rcases b with b | b
    ·rw [← b]at a;exact .inl a
    ·cases b.2
  rcases this with z | z
  ·exact zas1 (zv8 z)
  ·exact zan9 z
 cab:=fun x c h e=>by
  have h:(scope.names.lookup x == some NameKind.cell)=true:=h
  have h:scope.names.lookup x=some .cell:=by simpa using h
  exact Nat.le_of_succ_le (zbg2 (PySem.mem_of_lookup h) e)
 hd:=fun _=>I.ok.hd hc
 frames:=I.ok.frames
 stk:=.inl rfl
 exf:=fun b hb=>⟨zbl3 (hlt b hb),fun x c h=>by
  rcases S.old I h with z | z
  ·exact (hf b hb).2.2.2.2.1 x c z
  ·exact zbr5 (zbv2 (hlt b hb) z)⟩
 bs:=fun b o e=>I.bs b o e
 bsz:=zbn6 I.ok.bsz I.sz
 noex:=fun b o e hb=>by
  rcases (hf b hb).2.2.2.1 with z | z
  ·exact I.ok.noex b o e z
  ·exact absurd (zbk6 (zbj8 e) (zbn6 I.ok.bsz z)) (zbo6 _)
 exfs:=fun b hb z=>(zbj4.mp (I.stkSub b z)).elim (hf b hb).2.1 (hf b hb).2.2.1
 funs:=I.stack
 frf:=I.stkFree
 tabs:=fun p hp=>I.base.tbls _ _ (I.ok.tabs p hp)
theorem zbh5 (I:Inv X pins σ H s) (S:CompSc X scope) (hc:X.calm=true) (hf:∀b∈fp,FpOk X pins H b) (hlt:∀b∈fp,b<s.heap.objs.size) {h1:Heap}{t1:Nat}{m:Str→Option Value}{σ':L2.St}
  (hns:h1.Ns s.heap.objs.size m) (hk:∀b o,s.heap.get? b=some o→h1.get? b=some o) (hcl:∀x c,(∀c,(clOf X.env.cells scope.names []).lookup x=some c→∃v,s.heap.IsCell c v)→(cellsFrom (s.heap.objs.size+1) scope.names (clOf X.env.cells scope.names [])).lookup x=some c→∃v,h1.IsCell c v) (hl:σ'.length=N'.length)
  (cap:∀(i:Nat) (x:Str) (v:V),N'[i]?=some x→σ'[i]?=some (some v)→(x,NameKind.free)∈scope.names∧∃j:Nat,X.N[j]?=some x∧σ[j]?=some (some v)) :
  Inv (blk X N' scope s.heap.objs.size s H fp pins) [] σ' H { s with heap:=h1,toks:=t1 } where
 ok:=blk_ok I S hc hf hlt
 os:=rfl
 bare:=I.bare
 base:=Un.kept hk
 loc:=⟨m,hns,fun i x v e1 e2 vs=>by
  obtain⟨hfree,j,j1,j2⟩:=cap i x v e1 e2
  obtain⟨m0,hn0,hl0⟩:=I.loc
  have vis:Vis X.env.scope x:=by
   rcases S.free _ hfree rfl with z | z
   ·exact .inr (.inl z)
   ·exact .inr (.inr z)
  obtain⟨u,r,l⟩:=hl0 j x v j1 j2 vis
  refine⟨u,r,?_⟩
  rcases l with ⟨k,_⟩ | ⟨k,c,e,z⟩
  ·exfalso
   rcases S.free _ hfree rfl with q | q
   ·rw [k]at q;cases q
   ·rw [k]at q;cases q
  ·obtain⟨c',hc'⟩:=zv8 (cells:=X.env.cells) (acc:=[]) hfree
   have e':=S.cells I.ok hc'
   rw [e]at e';cases e'
   refine .inr ⟨?_,c,by rw [show (blk X N' scope s.heap.objs.size s H fp pins).env.cells.lookup x=_ from zbg1 (S.nc hfree)];exact hc',?_⟩
   ·have vs:(relabel scope X.env).names.lookup x=some .local∨(relabel scope X.env).names.lookup x=some .cell∨(relabel scope X.env).names.lookup x=some .free:=vs
    rcases vs with q | q
    ·obtain⟨k2,a,b⟩:=zg1 q
     rcases b with b | b
     ·rw [← b]at a
      have w1:=S.names _ a
      have w2:=S.names _ hfree
      rw [show (x,NameKind.local).1=(x,NameKind.free).1 from rfl,w2]at w1
      cases w1
     ·cases b.2
    ·exact q
   ·obtain⟨o,ho,hd⟩:=z
    exact⟨o,hk _ _ ho,hd⟩⟩
 cell:=fun x c h=>hcl x c (fun c' h'=>I.cell x c' (S.cells I.ok h')) h
 free:=I.hok.fresh (zbk1 _)
 freeC:=fun x c h=>by
  rcases S.old I h with z | z
  ·exact I.freeC x c z
  ·exact I.hok.fresh (zbs4 z)
 pin:=fun p hp=>by
  have hp:p∈(X.pn++pins)++[]:=hp
  rw [zbq9]at hp
  obtain⟨a,b,c,d,e⟩:=I.pin p hp
  exact⟨hk _ _ a,b,zbl3 (zbj8 a),fun z=>(zbj4.mp (I.stkSub _ z)).elim c d,e⟩
 hok:=I.hok.kept hk
 len:=hl
theorem zas7 {H3 H':Hp}{s':zbj7}{h'':Heap}{σ':L2.St}{C:Addr}{pins':List (Addr×Obj)} (I:Inv X pins σ H3 s) (hf:∀b∈fp,FpOk X pins H3 b) (hC:C=s.heap.objs.size) (I':Inv (blk X N' scope C s H3 fp pins) pins' σ' H' s') (hb:Heap.SameBut C s'.heap h''):Inv X pins σ H' { s' with heap:=h'' }:=by
 subst hC
 have bs:Un (frs X.stack) fp H3 H' s.heap s'.heap:=I'.base
 have nC:∀b o,s.heap.get? b=some o→b≠s.heap.objs.size:=fun b o e=>zbl3 (zbj8 e)
 have tr:∀b,b≠s.heap.objs.size→h''.get? b=s'.heap.get? b:=fun b n=>hb.2 b n
 have u:Un (frs X.stack) fp H3 H' s.heap h'' :=
  ⟨fun b o e n h1 h2=>(tr b (nC b o e)).trans (bs.keep b o e n h1 h2),fun b o e n h1 h2=>by obtain⟨sl,q⟩:=bs.slot b o e n h1 h2;exact⟨sl,(tr b (nC b o e)).trans q⟩,bs.free,
   fun b o e h1=>by obtain⟨o',q⟩:=bs.there b o e h1;exact⟨o',(tr b (nC b o e)).trans q⟩,bs.tups,bs.frzs,bs.tbls⟩
 have cf:H' s.heap.objs.size=none:=I'.free
 have hok:HOk X.prog X.w H' h'':=fun b o e=>by
  have nb:b≠s.heap.objs.size:=fun z=>by rw [z,cf]at e;cases e
  refine (I'.hok b o e).stay (fun c v hc q=>(tr c ?_).trans q) (fun _ q=>q) (fun _ _ q=>q) fun _ _ _ q=>q
  rcases hc with w | w
  ·rw [w];exact nb
  ·exact fun z=>by rw [z,cf]at w;cases w
 obtain⟨h0,g0,d0,t0,o0⟩:=s'
 have e:o0=s.os:=I'.os
 subst e
 exact I.call (g':=g0) (t':=t0) (d':=d0) u hok I'.bare fun b hb'=>by
  obtain⟨f0,f1,f2,f3,f4,f5⟩:=hf b hb'
  exact⟨f3,f1,f4,f5⟩
end
end L2
namespace L2
open PySem.Spec
noncomputable def PTs (Y:Cx) (ifs:List Expr) (t:TT):Prop :=
 ∀(pins:List (Addr×Obj)) (s:zbj7) (σ:L2.St) (H:Hp) (Q:Bool→Hp→Prop),Inv Y pins σ H s→t σ H Q →
  wpAny (model Y.prog Y.w) Y.A (forIn ifs true fun c r=>if r=true then do let ok ← isTrue c Y.env (eval c Y.env);pure (ForInStep.yield ok) else pure (ForInStep.yield r)) (TP Y pins σ Q) Y.xe s
theorem pts_nil {Y:Cx}:PTs Y [] (fun _ H Q=>Q true H):=fun pins s σ H Q I h=>wpAny_tests_nil ⟨H,I,h⟩
theorem pts_one {Y:Cx}{c:Expr}{t:TT} (h:PT Y c t):PTs Y [c] t:=fun pins s σ H Q I q=>wpAny_tests_one (h pins s σ H Q I q)
def capV (n:Nat) (cap:List Nat) (σ:L2.St):L2.St:=zbk7 n none++cap.map fun j=>(σ[j]?).getD none
noncomputable def zax6 (n:Nat) (cap:List Nat) (wi:TI) (g:TG) (tt:TT) (te:TE):TE:=fun σ H Q=>wi σ H fun J H1 => ∀D,H1 D=none→∃W:Nat→Nat→L2.St→Hp→Prop,(∃m,W 0 m (capV n cap σ) (upd H1 D (.lst [])))∧∀i m σ' H',W i m σ' H' →
 (J.stop i H'∧Q (.ref D) H')∨(J.go i H'∧∃N:L2.St→Hp→Prop,(∀σ'' H'',N σ'' H''→∃m',m' < m∧W (i+1) m' σ'' H'')∧∀x H2,J.yld i H' x H2→g x σ' H2 fun σ2 H3=>tt σ2 H3 fun b H4 =>
  if b=true then te σ2 H4 fun v H5 => ∃vs,H5 D=some (.lst vs)∧vs.length<sizeLine∧N σ2 (upd H5 D (.lst (vs++[v]))) else N σ2 H4)
theorem pe_comp {X:Cx}{elt tg iter:Expr}{ifs:List Expr}{scope:Scope}{pos:Pos}{n:Nat}{cap:List Nat}{N':List Str}{wi:TI}{g:TG}{tt:TT}{te:TE} (S:CompSc X scope) (hc:X.calm=true) (hi:PI X tg iter wi)
  (hN:N'.length=n+cap.length) (hcap:∀(k:Nat) (j:Nat),cap[k]?=some j→∃x,N'[n+k]?=some x∧X.N[j]?=some x∧(x,NameKind.free)∈scope.names)
  (hg:∀C s₃ H₃ fp pins,PG (blk X N' scope C s₃ H₃ fp pins) tg g) (ht:∀C s₃ H₃ fp pins,PTs (blk X N' scope C s₃ H₃ fp pins) ifs tt) (he:∀C s₃ H₃ fp pins,PE (blk X N' scope C s₃ H₃ fp pins) elt te)
  (hs:∀x,foldedSetIterable iter X.env x=pure x:=by intro _;rfl):PE X (.ListComp elt [⟨tg,iter,ifs,0⟩] scope pos) (zax6 n cap wi g tt te):=by
 intro pins s σ H Q I h
 rw [eval_ListComp]
 refine wpAny_comprehension_free (use:=none) rfl hs (zac1 (S.frees I.ok)) S.kind (fun x hx hl=>by rw [S.names x hx,hl]) (thn (hi pins s σ H _ I h) fun v s1 h1=>thn h1 fun itv s2 h2=>?_)
 obtain⟨it,fp,tn,J,H2,e,I2,T,st2,f2,R⟩:=h2
 subst e
 have lt2:∀b∈fp,b<s2.heap.objs.size:=fun b hb=>by obtain⟨o,e,_⟩:=T.obj _ _ st2 b hb;exact zbj8 e
 have hD:H2 s2.heap.objs.size=none:=I2.fresh
 obtain⟨W,⟨m0,w0⟩,turn⟩:=R s2.heap.objs.size hD
 have I3:Inv X pins σ (upd H2 s2.heap.objs.size (.lst [])) { s2 with heap:=s2.heap.push { cls:=.type "list",data:=.seq ([]:List Value).toArray },toks:=s2.toks }:=I2.lnew (t':=s2.toks) .nil (by simp)
 have f3:∀b∈fp,FpOk X pins (upd H2 s2.heap.objs.size (.lst [])) b:=fun b hb=>⟨by rw [zd3 (zbl3 (lt2 b hb))];exact (f2 b hb).1,(f2 b hb).2⟩
 refine wpAny_newObj_type (zq4 fun h₁ hns₁ hk hcl₁=>?_)
 have lt3:∀b∈fp,b<(s2.heap.push { cls:=.type "list",data:=.seq ([]:List Value).toArray }).objs.size:=fun b hb=>by rw [zbp7];exact zbo9 (lt2 b hb)
 have I4:Inv (blk X N' scope (s2.heap.push { cls:=.type "list",data:=.seq ([]:List Value).toArray }).objs.size { s2 with heap:=s2.heap.push { cls:=.type "list",data:=.seq ([]:List Value).toArray },toks:=s2.toks } (upd H2 s2.heap.objs.size (.lst [])) fp pins) [] (capV n cap σ) (upd H2 s2.heap.objs.size (.lst [])) { s2 with heap:=h₁,toks:=s2.toks } :=
  zbh5 I3 S hc f3 lt3 (t1:=s2.toks) hns₁ hk hcl₁ (by simp [capV,hN]) (fun i x v e1 e2=>by
   unfold capV at e2
   by_cases hi:i<n
   ·rw [zbo4 (by simpa using hi),zbs2]at e2
    split at e2<;>cases e2
   ·rw [zbn3 (by simpa using hi),zbs9,zbn4]at e2
    cases ej:cap[i - n]? with
    |none=>rw [ej]at e2;cases e2
    |some j =>
     rw [ej]at e2
     obtain⟨x',a1,a2,a3⟩:=hcap (i - n) j ej
     have:n+(i - n)=i:=by lia
     rw [this,e1]at a1
     cases a1
     refine⟨a3,j,a2,?_⟩
     have e2:(σ[j]?).getD none=some v:=by simpa using e2
     cases q:σ[j]? with
     |none=>rw [q]at e2;cases e2
     |some z=>rw [q]at e2;have:z=some v:=e2;rw [this])
 have loop:codeAny (model X.prog X.w) X.A (.compLoop (.ListComp elt [⟨tg,iter,ifs,0⟩] scope pos) 0 (.ref it) (.ref s2.heap.objs.size) (compEnvC scope (cellsFrom ((s2.heap.push { cls:=.type "list",data:=.seq ([]:List Value).toArray }).objs.size+1) scope.names (clOf X.env.cells scope.names [])) (s2.heap.push { cls:=.type "list",data:=.seq ([]:List Value).toArray }).objs.size X.env))
   (compPost (model X.prog X.w) X.A X.xe none (EP X pins σ Q) (.ref s2.heap.objs.size) (s2.heap.push { cls:=.type "list",data:=.seq ([]:List Value).toArray }).objs.size) { s2 with heap:=h₁,toks:=s2.toks }:=by
  generalize hY:(blk X N' scope (s2.heap.push { cls:=.type "list",data:=.seq ([]:List Value).toArray }).objs.size { s2 with heap:=s2.heap.push { cls:=.type "list",data:=.seq ([]:List Value).toArray },toks:=s2.toks } (upd H2 s2.heap.objs.size (.lst [])) fp pins)=Y at I4
  have st4:tn 0 h₁:=T.keep _ _ _ st2 fun b hb o e=>hk b o (zbj0 _ e)
  have stat:∀ {H':Hp},(∀b∈fp,H' b=none)→∀b∈fp,FpOk Y [] H' b:=fun hn b hb=>by
   subst hY
   obtain⟨f0,f1,f2',f3',f4,f5⟩:=f3 b hb
   exact⟨hn b hb,zbl3 (lt3 b hb),fun z=>(zbj4.mp (I3.stkSub b z)).elim f1 f2',.inl hb,fun x c e=>(by
    rcases S.old I3 e with z | z
    ·exact f4 x c z
    ·exact zbr5 (zbv2 (lt3 b hb) z)),fun p hp=>f5 p (by simpa using hp)⟩
  have hgY:PG Y tg g:=hY ▸ hg _ _ _ _ _
  have htY:PTs Y ifs tt:=hY ▸ ht _ _ _ _ _
  have heY:PE Y elt te:=hY ▸ he _ _ _ _ _
  have yp:Y.prog=X.prog:=by subst hY;rfl
  have yw:Y.w=X.w:=by subst hY;rfl
  have yK:Y.K=X.K:=by subst hY;rfl
  have yA:Y.A=X.A:=by subst hY;rfl
  have yc:Y.calm=true:=by subst hY;rfl
  have yx:Y.xe=fun _ _=>False:=by subst hY;rfl
  have ye:Y.env=compEnvC scope (cellsFrom ((s2.heap.push { cls:=.type "list",data:=.seq ([]:List Value).toArray }).objs.size+1) scope.names (clOf X.env.cells scope.names [])) (s2.heap.push { cls:=.type "list",data:=.seq ([]:List Value).toArray }).objs.size X.env:=by subst hY;rfl
  rw [← ye]
  refine zv0 (fun n s' => ∃i σ' H',Inv Y [] σ' H' s'∧tn i s'.heap∧(∀b∈fp,H' b=none)∧W i n σ' H') ?_ m0 ⟨0,_,_,I4,st4,fun b hb=>(f3 b hb).1,w0⟩
  rintro n s3 ⟨i,σ3,H3,I5,st3,fr3,w3⟩
  rcases turn i n σ3 H3 w3 with ⟨stop,qn⟩ | ⟨go,N,hNN,step⟩
  ·have d:=T.done Y yp yw yK yc i [] s3 σ3 H3 (fun _ _=>False) I5 (stat fr3) st3 stop
   rw [yA]at d
   refine thn d fun r s4 ⟨hr,I6⟩=>?_
   subst hr
   obtain⟨m,hm,_⟩:=I6.loc
   rw [ye]at hm
   refine⟨m,hm,fun h' hb=>⟨.ref s2.heap.objs.size,H3,?_,rfl,qn⟩⟩
   subst hY
   exact zas7 I3 f3 rfl I6 hb
  ·have d:=T.item Y yp yw yK yc i [] s3 σ3 H3 (fun _ _=>False) I5 (stat fr3) st3 go
   rw [yA]at d
   refine thn d fun r s4 ⟨u,hr,h4⟩=>?_
   subst hr
   refine thn h4 fun _ s5 ⟨x,H5,I6,r5,y5,st5,fr5⟩=>?_
   have I6':=I6.pinned (stat fr5) (T.obj _ _ st5)
   have a:=hgY _ s5 σ3 H5 x u _ I6' r5 (step x H5 y5)
   rw [yp,yw,yA,yx]at a
   refine thn a fun _ s6 ⟨σ6,H6,I7,q6⟩=>?_
   have b:=htY _ s6 σ6 H6 _ I7 q6
   rw [yp,yw,yA,yx]at b
   refine thn b fun ok s7 ⟨H7,I8,q7⟩=>?_
   have again:∀ {s9:zbj7}{H9:Hp},Inv Y ([]++zu4 fp s5.heap) σ6 H9 s9→N σ6 H9→∃m,m<n∧∃i σ' H',Inv Y [] σ' H' s9∧tn i s9.heap∧(∀b∈fp,H' b=none)∧W i m σ' H':=fun {s9 H9} I9 n9=>by
    obtain⟨m',hm,w9⟩:=hNN σ6 H9 n9
    refine⟨m',hm,i+1,σ6,H9,I9.unpinned,T.keep _ _ _ st5 fun b hb o e=>(I9.pin (b,o) (zbi4 _ (zbi4 _ (zk1 hb e)))).1,fun b hb=>?_,w9⟩
    obtain⟨o,e,d⟩:=T.obj _ _ st5 b hb
    exact (I9.pin (b,o) (zbi4 _ (zbi4 _ (zk1 hb e)))).2.1
   cases ok with
   |false=>exact iteF (again I8 (by simpa using q7))
   |true =>
    rw [if_pos rfl]at q7
    refine iteT ?_
    have c:=heY _ s7 σ6 H7 _ I8 q7
    rw [yp,yw,yA,yx]at c
    refine thn c fun z s8 ⟨vz,H8,I9,r9,vs,hv,hl,n9⟩=>?_
    have ap:=zx3 (X:=Y) ([]++zu4 fp s5.heap) s8 σ6 H8 (.ref s2.heap.objs.size) [vz] (.ref s2.heap.objs.size) [z] (fun _ H9=>N σ6 H9) I9 rfl (.cons r9 .nil) ⟨_,vs,vz,rfl,rfl,hv,hl,n9⟩
    rw [yp,yw,yA,yx]at ap
    exact thn ap fun _ s9 ⟨_,H9,I10,_,n10⟩=>again I10 n10
 exact codeAny_compStart_list loop (T.self _ 0 _ _ _ (T.keep _ _ _ st2 fun b hb o e=>hk b o (zbj0 _ e)) loop)
theorem ps_compU {X:Cx}{i₀:Nat}{y₀:Str}{py spos:Pos}{elt tg iter:Expr}{ifs:List Expr}{scope:Scope}{pos:Pos}{n:Nat}{cap:List Nat}{N':List Str}{wi:TI}{g:TG}{tt:TT}{te:TE} (S:CompSc X scope) (hc:X.calm=true) (hi:PI X tg iter wi)
  (hN:N'.length=n+cap.length) (hcap:∀(k:Nat) (j:Nat),cap[k]?=some j→∃x,N'[n+k]?=some x∧X.N[j]?=some x∧(x,NameKind.free)∈scope.names)
  (hg:∀C s₃ H₃ fp pins,PG (blk X N' scope C s₃ H₃ fp pins) tg g) (ht:∀C s₃ H₃ fp pins,PTs (blk X N' scope C s₃ H₃ fp pins) ifs tt) (he:∀C s₃ H₃ fp pins,PE (blk X N' scope C s₃ H₃ fp pins) elt te)
  (hNd:X.N.Nodup) (hi₀:X.N[i₀]?=some y₀) (hy:Loc X.env.scope y₀) (hsw:swapsWith (.ListComp elt [⟨tg,iter,ifs,0⟩] scope pos) (some (.Name y₀ py)) spos.line X.env=pure true) (hf:X.fn y₀=true∨X.env.scope.names.lookup y₀=some .local)
  (hs:∀x,foldedSetIterable iter X.env x=pure x:=by intro _;rfl):PS X (.Assign [.Name y₀ py] (.ListComp elt [⟨tg,iter,ifs,0⟩] scope pos) spos) (fun D σ H=>zax6 n cap wi g tt te σ H fun v H1=>D.nx (σ.set i₀ (some v)) H1):=by
 intro pins s σ H Ed I h
 rw [exec_Assign_Name_used y₀ py _ spos hsw]
 refine zbi8 (wpAny_standAt (zbi8 ?_))
 show wpAny (model X.prog X.w) X.A (comprehension (.ListComp elt [⟨tg,iter,ifs,0⟩] scope pos) scope X.env _ (newList []) false (eval iter X.env) (some (assign (.Name y₀ py) X.env)) >>= fun _=>pure ()) _ _ s
 refine zbi8 (thn (Q:=fun _ s'=>SP X pins Ed .next s') ?_ fun _ s' hq=>zbj5 (zbj5 hq))
 refine wpAny_comprehension_free (use:=some (assign (.Name y₀ py) X.env)) rfl hs (zac1 (S.frees I.ok)) S.kind (fun x hx hl=>by rw [S.names x hx,hl]) (thn (hi pins s σ H _ I h) fun v s1 h1=>thn h1 fun itv s2 h2=>?_)
 obtain⟨it,fp,tn,J,H2,e,I2,T,st2,f2,R⟩:=h2
 subst e
 have lt2:∀b∈fp,b<s2.heap.objs.size:=fun b hb=>by obtain⟨o,e,_⟩:=T.obj _ _ st2 b hb;exact zbj8 e
 have hD:H2 s2.heap.objs.size=none:=I2.fresh
 obtain⟨W,⟨m0,w0⟩,turn⟩:=R s2.heap.objs.size hD
 have I3:Inv X pins σ (upd H2 s2.heap.objs.size (.lst [])) { s2 with heap:=s2.heap.push { cls:=.type "list",data:=.seq ([]:List Value).toArray },toks:=s2.toks }:=I2.lnew (t':=s2.toks) .nil (by simp)
 have f3:∀b∈fp,FpOk X pins (upd H2 s2.heap.objs.size (.lst [])) b:=fun b hb=>⟨by rw [zd3 (zbl3 (lt2 b hb))];exact (f2 b hb).1,(f2 b hb).2⟩
 refine wpAny_newObj_type (zq4 fun h₁ hns₁ hk hcl₁=>?_)
 have lt3:∀b∈fp,b<(s2.heap.push { cls:=.type "list",data:=.seq ([]:List Value).toArray }).objs.size:=fun b hb=>by rw [zbp7];exact zbo9 (lt2 b hb)
 have I4:Inv (blk X N' scope (s2.heap.push { cls:=.type "list",data:=.seq ([]:List Value).toArray }).objs.size { s2 with heap:=s2.heap.push { cls:=.type "list",data:=.seq ([]:List Value).toArray },toks:=s2.toks } (upd H2 s2.heap.objs.size (.lst [])) fp pins) [] (capV n cap σ) (upd H2 s2.heap.objs.size (.lst [])) { s2 with heap:=h₁,toks:=s2.toks } :=
  zbh5 I3 S hc f3 lt3 (t1:=s2.toks) hns₁ hk hcl₁ (by simp [capV,hN]) (fun i x v e1 e2=>by
   unfold capV at e2
   by_cases hi:i<n
   ·rw [zbo4 (by simpa using hi),zbs2]at e2
    split at e2<;>cases e2
   ·rw [zbn3 (by simpa using hi),zbs9,zbn4]at e2
    cases ej:cap[i - n]? with
    |none=>rw [ej]at e2;cases e2
    |some j =>
     rw [ej]at e2
     obtain⟨x',a1,a2,a3⟩:=hcap (i - n) j ej
     have:n+(i - n)=i:=by lia
     rw [this,e1]at a1
     cases a1
     refine⟨a3,j,a2,?_⟩
     have e2:(σ[j]?).getD none=some v:=by simpa using e2
     cases q:σ[j]? with
     |none=>rw [q]at e2;cases e2
     |some z=>rw [q]at e2;have:z=some v:=e2;rw [this])
 have loop:codeAny (model X.prog X.w) X.A (.compLoop (.ListComp elt [⟨tg,iter,ifs,0⟩] scope pos) 0 (.ref it) (.ref s2.heap.objs.size) (compEnvC scope (cellsFrom ((s2.heap.push { cls:=.type "list",data:=.seq ([]:List Value).toArray }).objs.size+1) scope.names (clOf X.env.cells scope.names [])) (s2.heap.push { cls:=.type "list",data:=.seq ([]:List Value).toArray }).objs.size X.env))
   (compPost (model X.prog X.w) X.A X.xe (some (assign (.Name y₀ py) X.env)) (fun _ s'=>SP X pins Ed .next s') (.ref s2.heap.objs.size) (s2.heap.push { cls:=.type "list",data:=.seq ([]:List Value).toArray }).objs.size) { s2 with heap:=h₁,toks:=s2.toks }:=by
  generalize hY:(blk X N' scope (s2.heap.push { cls:=.type "list",data:=.seq ([]:List Value).toArray }).objs.size { s2 with heap:=s2.heap.push { cls:=.type "list",data:=.seq ([]:List Value).toArray },toks:=s2.toks } (upd H2 s2.heap.objs.size (.lst [])) fp pins)=Y at I4
  have st4:tn 0 h₁:=T.keep _ _ _ st2 fun b hb o e=>hk b o (zbj0 _ e)
  have stat:∀ {H':Hp},(∀b∈fp,H' b=none)→∀b∈fp,FpOk Y [] H' b:=fun hn b hb=>by
   subst hY
   obtain⟨f0,f1,f2',f3',f4,f5⟩:=f3 b hb
   exact⟨hn b hb,zbl3 (lt3 b hb),fun z=>(zbj4.mp (I3.stkSub b z)).elim f1 f2',.inl hb,fun x c e=>(by
    rcases S.old I3 e with z | z
    ·exact f4 x c z
    ·exact zbr5 (zbv2 (lt3 b hb) z)),fun p hp=>f5 p (by simpa using hp)⟩
  have hgY:PG Y tg g:=hY ▸ hg _ _ _ _ _
  have htY:PTs Y ifs tt:=hY ▸ ht _ _ _ _ _
  have heY:PE Y elt te:=hY ▸ he _ _ _ _ _
  have yp:Y.prog=X.prog:=by subst hY;rfl
  have yw:Y.w=X.w:=by subst hY;rfl
  have yK:Y.K=X.K:=by subst hY;rfl
  have yA:Y.A=X.A:=by subst hY;rfl
  have yc:Y.calm=true:=by subst hY;rfl
  have yx:Y.xe=fun _ _=>False:=by subst hY;rfl
  have ye:Y.env=compEnvC scope (cellsFrom ((s2.heap.push { cls:=.type "list",data:=.seq ([]:List Value).toArray }).objs.size+1) scope.names (clOf X.env.cells scope.names [])) (s2.heap.push { cls:=.type "list",data:=.seq ([]:List Value).toArray }).objs.size X.env:=by subst hY;rfl
  rw [← ye]
  refine zv0 (fun n s' => ∃i σ' H',Inv Y [] σ' H' s'∧tn i s'.heap∧(∀b∈fp,H' b=none)∧W i n σ' H') ?_ m0 ⟨0,_,_,I4,st4,fun b hb=>(f3 b hb).1,w0⟩
  rintro n s3 ⟨i,σ3,H3,I5,st3,fr3,w3⟩
  rcases turn i n σ3 H3 w3 with ⟨stop,qn⟩ | ⟨go,N,hNN,step⟩
  ·have d:=T.done Y yp yw yK yc i [] s3 σ3 H3 (fun _ _=>False) I5 (stat fr3) st3 stop
   rw [yA]at d
   refine thn d fun r s4 ⟨hr,I6⟩=>?_
   subst hr
   obtain⟨m,hm,_⟩:=I6.loc
   rw [ye]at hm
   subst hY
   have IX:=zas7 I3 f3 rfl I6 (h'':=s4.heap) ⟨rfl,fun _ _=>rfl⟩
   have cf:H3 (s2.heap.push { cls:=.type "list",data:=.seq ([]:List Value).toArray }).objs.size=none:=I6.free
   have fC:FpOk X pins H3 (s2.heap.push { cls:=.type "list",data:=.seq ([]:List Value).toArray }).objs.size:=I3.fpOk (zbk1 _) cf
   obtain⟨c0,c1,c2,c3,c4,c5⟩:=fC
   refine wpAny_assign_Name (zag1 (s:=s4) IX hNd hi₀ hy (v:=.ref s2.heap.objs.size) rfl (fun s5 I7 ⟨a,sb,ha⟩=>?_) hf)
   have na:a≠(s2.heap.push { cls:=.type "list",data:=.seq ([]:List Value).toArray }).objs.size:=by
    rcases ha with z | z
    ·rw [z];exact fun w=>c1 w.symm
    ·exact c4 _ _ z
   refine⟨m,hm.sameBut sb (Ne.symm na),fun h' hb=>⟨_,H3,?_,qn⟩⟩
   exact I7.turned (t':=s5.toks) (fun b o n e=>(hb.2 b n).trans e) c0 c1 c3 c4 c5
  ·have d:=T.item Y yp yw yK yc i [] s3 σ3 H3 (fun _ _=>False) I5 (stat fr3) st3 go
   rw [yA]at d
   refine thn d fun r s4 ⟨u,hr,h4⟩=>?_
   subst hr
   refine thn h4 fun _ s5 ⟨x,H5,I6,r5,y5,st5,fr5⟩=>?_
   have I6':=I6.pinned (stat fr5) (T.obj _ _ st5)
   have a:=hgY _ s5 σ3 H5 x u _ I6' r5 (step x H5 y5)
   rw [yp,yw,yA,yx]at a
   refine thn a fun _ s6 ⟨σ6,H6,I7,q6⟩=>?_
   have b:=htY _ s6 σ6 H6 _ I7 q6
   rw [yp,yw,yA,yx]at b
   refine thn b fun ok s7 ⟨H7,I8,q7⟩=>?_
   have again:∀ {s9:zbj7}{H9:Hp},Inv Y ([]++zu4 fp s5.heap) σ6 H9 s9→N σ6 H9→∃m,m<n∧∃i σ' H',Inv Y [] σ' H' s9∧tn i s9.heap∧(∀b∈fp,H' b=none)∧W i m σ' H':=fun {s9 H9} I9 n9=>by
    obtain⟨m',hm,w9⟩:=hNN σ6 H9 n9
    refine⟨m',hm,i+1,σ6,H9,I9.unpinned,T.keep _ _ _ st5 fun b hb o e=>(I9.pin (b,o) (zbi4 _ (zbi4 _ (zk1 hb e)))).1,fun b hb=>?_,w9⟩
    obtain⟨o,e,d⟩:=T.obj _ _ st5 b hb
    exact (I9.pin (b,o) (zbi4 _ (zbi4 _ (zk1 hb e)))).2.1
   cases ok with
   |false=>exact iteF (again I8 (by simpa using q7))
   |true =>
    rw [if_pos rfl]at q7
    refine iteT ?_
    have c:=heY _ s7 σ6 H7 _ I8 q7
    rw [yp,yw,yA,yx]at c
    refine thn c fun z s8 ⟨vz,H8,I9,r9,vs,hv,hl,n9⟩=>?_
    have ap:=zx3 (X:=Y) ([]++zu4 fp s5.heap) s8 σ6 H8 (.ref s2.heap.objs.size) [vz] (.ref s2.heap.objs.size) [z] (fun _ H9=>N σ6 H9) I9 rfl (.cons r9 .nil) ⟨_,vs,vz,rfl,rfl,hv,hl,n9⟩
    rw [yp,yw,yA,yx]at ap
    exact thn ap fun _ s9 ⟨_,H9,I10,_,n10⟩=>again I10 n10
 exact codeAny_compStart_list loop (T.self _ 0 _ _ _ (T.keep _ _ _ st2 fun b hb o e=>hk b o (zbj0 _ e)) loop)
end L2
namespace DL
open PySem.Spec L2
structure Src (K:zbi5) (ds:List D) (J:It) (Good:List Addr→Hp→Prop):Prop where
 keep:∀P H P' H',Good P H→Same (hide P H) (hide P' H')→Good P' H'
 stop:∀P H,Good P H→J.stop ds.length H
 go:∀P H i,Good P H→i<ds.length→J.go i H
 yld:∀P H i x H',Good P H→Lists H P→J.yld i H x H'→i<ds.length→Same H H'∧∃d,ds[i]?=some d∧Rep K (hide P H') d x
abbrev DI:=Th→Option (Bool×List D)
def hidF (b:Bool) (A F:List Addr):List Addr:=if b then A++F else F
noncomputable def dI (K:zbi5) (F:List Addr) (fs:DI):TI:=fun σ H R => ∃A t b ds,RS K F H A t σ∧fs t=some (b,ds)∧∀J H1 Good,Same H H1→Src K ds J Good→Good (hidF b A F) H1→R J H1
theorem PI.imp {X:Cx}{tg iter:Expr}{t t':TI} (h:PI X tg iter t) (i:∀σ H R,t' σ H R→t σ H R):PI X tg iter t':=fun pins s σ H R I q=>h pins s σ H R I (i σ H R q)
def fsL (f:DE):DI:=fun t=>(f t).bind fun r=>match r.d with
 |.lst ds=>some (r.ok,ds)
 |_=>none
def fsE (f:DE):DI:=fun t=>(f t).bind fun r=>match r.d with
 |.lst ds=>some (r.ok,zo9 0 ds)
 |_=>none
noncomputable def fsR1 (f:DE):DI:=fun t=>(f t).bind fun r=>match r.d with
 |.int n=>if bigI n then some (true,rngD 0 n.toNat) else none
 |_=>none
theorem src_list {K:zbi5}{p:Addr}{vs:List V}{ds:List D} (hl:vs.length=ds.length):Src K ds (Itl K p) (fun P H=>SqL K (hide P H) p vs∧Reps K (hide P H) ds vs) where
 keep:=fun P H P' H' q s=>⟨SqL.mono s q.1,Reps.mono s q.2⟩
 stop:=fun P H q=>⟨vs,SqL.mono (zb0 _ _) q.1,by lia⟩
 go:=fun P H i q hi=>⟨vs,vs[i]'(by lia),SqL.mono (zb0 _ _) q.1,zbj6 (by lia)⟩
 yld:=fun P H i x H' q mu y hi=>by
  obtain⟨e1,e2⟩:=y
  subst e1
  exact⟨Same.refl _,q.2.getV (e2 vs (SqL.mono (zb0 _ _) q.1))⟩
theorem src_enum {K:zbi5}{p:Addr}{vs:List V}{ds:List D} (hl:vs.length=ds.length):Src K (zo9 0 ds) (Ite K p) (fun P H=>SqL K (hide P H) p vs∧Reps K (hide P H) ds vs) where
 keep:=fun P H P' H' q s=>⟨SqL.mono s q.1,Reps.mono s q.2⟩
 stop:=fun P H q=>⟨vs,SqL.mono (zb0 _ _) q.1,by rw [zi8];lia⟩
 go:=fun P H i q hi=>by
  rw [zi8]at hi
  exact⟨vs,vs[i]'(by lia),SqL.mono (zb0 _ _) q.1,zbj6 (by lia)⟩
 yld:=fun P H i x H' q mu y hi=>by
  obtain⟨l,v,hl0,rfl,rfl,hv⟩:=y
  obtain⟨d,hd,rd⟩:=q.2.getV (hv vs (SqL.mono (zb0 _ _) q.1))
  have sm:=zd2 (o:=HO.tup [.int i,v]) hl0
  refine⟨sm,_,zy9 0 ds i d hd,?_⟩
  rw [Nat.zero_add]
  exact .tup (SqT.of (zc7 zc6 (zd4 mu hl0))) (.cons (.int _) (.cons (Rep.mono (zc8 sm) rd) .nil))
theorem src_rng {K:zbi5}{lo:Int}{n:Nat}:Src K (rngD lo n) (Itr lo n) (fun _ _=>True) where
 keep:=fun _ _ _ _ _ _=>trivial
 stop:=fun P H _=>by rw [zt1];exact zbk1 n
 go:=fun P H i _ hi=>by rw [zt1]at hi;exact hi
 yld:=fun P H i x H' _ _ y hi=>by
  rw [zt1]at hi
  obtain⟨e1,e2⟩:=y
  subst e1
  refine⟨Same.refl _,.int (lo+i),by simp [rngD,hi],?_⟩
  rw [e2];exact .int _
theorem RepEv.hidF {K:zbi5}{F A:List Addr}{H H':Hp}{r:Ev}{v:V} (m:Lists H (A++F)) (gs:Same H H') (q:RepEv K F A H H' r v):Rep K (hide (DL.hidF r.ok A F) H') r.d v:=by
 unfold DL.hidF
 split
 ·rename_i c;exact q.clean m gs c
 ·exact q.cleanF m
section
variable {X:Cx}{F:List Addr}{a b c:Expr}{es:List Expr}{fa fb fc:DE}{pos:Pos}{tg:Expr}
theorem zj8 (hl:PE X a (dE X.K F fa)):PI X tg a (dI X.K F (fsL fa)):=by
 refine PI.imp (zba0 hl) ?_
 rintro σ H R ⟨A,t,b,ds,RR,e,h⟩
 unfold fsL at e
 cases e1:fa t with
 |none=>rw [e1]at e;cases e
 |some r =>
  rw [e1]at e
  refine⟨A,t,r,RR,e1,fun v H1 gs q=>?_⟩
  have e:(match r.d with | .lst ds=>some (r.ok,ds) |_=>none)=some (b,ds):=e
  split at e
  case h_2=>cases e
  rename_i ds' z
  cases e
  have cl:=RepEv.hidF RR.mu gs q
  rw [z]at cl
  cases cl with
  |@lst _ p vs h1 h2=>exact⟨p,rfl,⟨vs,SqL.mono (zb0 _ _) h1⟩,h _ H1 _ gs (src_list h2.length) ⟨h1,h2⟩⟩
theorem pid_enum {elts:List Expr}{kk:Nat}{tp p1 p2:Pos} (hge:Gl X "enumerate") (hm:X.mg "enumerate"=none) (hl:PE X a (dE X.K F fa)) (hst:zbk2 [a] X.env=[(false,eval a X.env)]:=by rfl):PI X (.Tuple elts kk tp) (.Call (.Name "enumerate" p1) [a] [] p2) (dI X.K F (fsE fa)):=by
 refine PI.imp (zba1 hge hm hl hst) ?_
 rintro σ H R ⟨A,t,b,ds,RR,e,h⟩
 unfold fsE at e
 cases e1:fa t with
 |none=>rw [e1]at e;cases e
 |some r =>
  rw [e1]at e
  refine⟨A,t,r,RR,e1,fun v H1 gs q=>?_⟩
  have e:(match r.d with | .lst ds=>some (r.ok,zo9 0 ds) |_=>none)=some (b,ds):=e
  split at e
  case h_2=>cases e
  rename_i ds' z
  cases e
  have cl:=RepEv.hidF RR.mu gs q
  rw [z]at cl
  cases cl with
  |@lst _ p vs h1 h2=>exact⟨p,rfl,⟨vs,SqL.mono (zb0 _ _) h1⟩,h _ H1 _ gs (src_enum h2.length) ⟨h1,h2⟩⟩
theorem zr6 {p1 p2:Pos} (hgr:Gl X "range") (hm:X.mg "range"=none) (ha:PE X a (dE X.K F fa)) (hst:zbk2 [a] X.env=[(false,eval a X.env)]:=by rfl):PI X tg (.Call (.Name "range" p1) [a] [] p2) (dI X.K F (fsR1 fa)):=by
 refine PI.imp (zah2 hgr hm (zf9 ha zn9 hst) hst) ?_
 rintro σ H R ⟨A,t,b,ds,RR,e,h⟩
 unfold fsR1 at e
 cases e1:fa t with
 |none=>rw [e1]at e;cases e
 |some r =>
  rw [e1]at e
  refine⟨A,t,r,RR,e1,fun v H1 gs q=>?_⟩
  have e:(match r.d with | .int n=>if bigI n then some (true,rngD 0 n.toNat) else none | _=>none)=some (b,ds):=e
  split at e
  case h_2=>cases e
  rename_i n z
  split at e
  case isFalse=>cases e
  rename_i ok
  simp only [bigI,decide_eq_true_eq]at ok
  cases e
  have p:=q.full
  rw [z]at p
  cases zd1 p
  exact⟨n,rfl,by lia,by lia,h _ H1 _ gs src_rng trivial⟩
end
noncomputable def capD (t:Th):List Nat→Option (Bool×List D)
 |[]=>some (true,[])
 |j::js=>(capD t js).bind fun q=>match t[j]? with
  |some (.val d)=>some (q.1,d::q.2)
  |some (.own xs)=>some (false,.lst xs::q.2)
  |some (.dp d)=>some (false,d::q.2)
  |_=>none
theorem zas5 {K:zbi5}{F A:List Addr}{H:Hp}{t:Th}{σ:L2.St} (R:RS K F H A t σ):∀ {cap:List Nat}{b:Bool}{ds:List D},capD t cap=some (b,ds)→∃vs:List V,(cap.map fun j=>(σ[j]?).getD none)=vs.map some∧Reps K (hide (hidF b A F) H) ds vs
 |[],b,ds,e=>by cases e;exact⟨[],rfl,.nil⟩
 |j::js,b,ds,e=>by
  unfold capD at e
  cases e1:capD t js with
  |none=>rw [e1]at e;cases e
  |some q =>
   obtain⟨b',ds'⟩:=q
   rw [e1]at e
   obtain⟨vs,h1,h2⟩:=zas5 R e1
   have e:(match t[j]? with
    |some (.val d)=>some (b',d::ds')
    |some (.own xs)=>some (false,.lst xs::ds')
    |some (.dp d)=>some (false,d::ds')
    |_=>none)=some (b,ds):=e
   have less:∀c:Bool,Same (hide (A++F) H) (hide (hidF c A F) H):=fun c=>zb5 H fun x z=>by
    cases c with
    |true=>exact z
    |false=>exact zbi4 _ z
   split at e
   ·rename_i d z
    cases e
    obtain⟨v,a1,a2⟩:=R.rel.getVal z
    exact⟨v::vs,by simp [a1,h1],.cons (Rep.mono (less _) a2) h2⟩
   ·rename_i xs z
    cases e
    obtain⟨p,us,a1,a2,a3,a4⟩:=R.rel.getOwn z
    refine⟨.ref p::vs,by simp [a1,h1],.cons (.lst (SqL.of (zc7 a3 (R.dj p a2))) (Reps.mono (less false) a4)) (Reps.mono (zb5 H fun x z=>?_) h2)⟩
    cases b' with
    |true=>exact zbi4 _ z
    |false=>exact z
   ·rename_i d z
    cases e
    obtain⟨v,B,a1,a2,a3,a4⟩:=R.rel.getDp R.nd z
    refine⟨v::vs,by simp [a1,h1],.cons (a4.rep (less false) fun b hb o w=>zc7 w (R.dj b (a2 b hb))) (Reps.mono (zb5 H fun x z=>?_) h2)⟩
    cases b' with
    |true=>exact zbi4 _ z
    |false=>exact z
   ·cases e
noncomputable def zd5 (k:D→Th→Option Th) (ft:DT) (fe:DE):List D→Th→Option (List D)
 |[],_=>some []
 |d::ds,t=>(k d t).bind fun t1=>(ft t1).bind fun b=>if b then (fe t1).bind fun r=>(zd5 k ft fe ds t1).map fun xs=>r.d::xs else zd5 k ft fe ds t1
noncomputable def zd8 (n:Nat) (cap:List Nat) (fs:DI) (k:D→Th→Option Th) (ft:DT) (fe:DE):DE:=fun t=>(fs t).bind fun q=>(capD t cap).bind fun c=>if q.2.length≤50000 then (zd5 k ft fe q.2 (zbk7 n Sl.no++c.2.map Sl.val)).bind fun xs=>if (q.1&&c.1)||zg9 xs then some (.nw xs) else none else none
theorem zz4 {k:D→Th→Option Th}{ft:DT}{fe:DE}:∀ {ds:List D}{t:Th}{xs:List D},zd5 k ft fe ds t=some xs→xs.length≤ds.length
 |[],t,xs,e=>by cases e;simp
 |d::ds,t,xs,e=>by
  unfold zd5 at e
  cases e1:k d t with
  |none=>rw [e1]at e;cases e
  |some t1 =>
   rw [e1]at e
   have e:((ft t1).bind fun b=>if b then (fe t1).bind fun r=>(zd5 k ft fe ds t1).map fun xs=>r.d::xs else zd5 k ft fe ds t1)=some xs:=e
   cases e2:ft t1 with
   |none=>rw [e2]at e;cases e
   |some b =>
    rw [e2]at e
    cases b with
    |false=>have:=zz4 (ds:=ds) (t:=t1) e;simp;lia
    |true =>
     have e:((fe t1).bind fun r=>(zd5 k ft fe ds t1).map fun xs=>r.d::xs)=some xs:=e
     cases e3:fe t1 with
     |none=>rw [e3]at e;cases e
     |some r =>
      rw [e3]at e
      have e:((zd5 k ft fe ds t1).map fun xs=>r.d::xs)=some xs:=e
      cases e4:zd5 k ft fe ds t1 with
      |none=>rw [e4]at e;cases e
      |some ys=>rw [e4]at e;cases e;have:=zz4 e4;simp;lia
end DL
namespace DL
open PySem.Spec L2
theorem RSl.noVals {K:zbi5}{H0 H:Hp}{vs:List V}{ds:List D} (r:Reps K H0 ds vs):∀n,RSl K H0 H (zbk7 n Sl.no++ds.map Sl.val) (zbk7 n none++vs.map some) []
 |0=>by simpa using RSl.start (t:=[]) (σ:=[]) .nil r
 |n+1=>.no (RSl.noVals r n)
theorem zs2 {P:List Addr}{H:Hp}{p:Addr}{o:HO} (hp:p∈P):Same (hide P H) (hide P (upd H p o)):=fun b u e=>by
 obtain⟨n,e⟩:=zn2 e
 exact zc7 (by rw [zd3 (fun z=>n (by rw [z];exact hp))];exact e) n
theorem RS.updF {K:zbi5}{P:List Addr}{H:Hp}{t:Th}{σ:L2.St}{p:Addr}{ws:List V} (R:RS K P H [] t σ) (hp:p∈P):RS K P (upd H p (.lst ws)) [] t σ where
 mu:=fun q hq=>by
  by_cases z:q=p
  ·exact⟨mL ws,by rw [z];exact zc6⟩
  ·obtain⟨us,w⟩:=R.mu q hq
   exact⟨us,by rw [zd3 z];exact w⟩
 nd:=zbo5
 dj:=fun p hp=>by cases hp
 rel:=RSl.mono (zs2 hp) R.rel fun q hq=>by cases hq
theorem zau8 {K:zbi5}{P A:List Addr}{H:Hp}{t:Th}{σ:L2.St} (R:RS K P H A t σ) (g:Gr [] H A H):A=[]:=by
 cases A with
 |nil=>rfl
 |cons a r =>
  rcases g.nw a (zbi9 ..) with z | z
  ·cases z
  ·obtain⟨vs,q⟩:=R.mu a (zbi7 _ (zbi9 ..))
   rw [q]at z;cases z
def ze5:DT:=fun _=>some true
theorem PTs.imp {Y:Cx}{ifs:List Expr}{t t':TT} (h:PTs Y ifs t) (i:∀σ H Q,t' σ H Q→t σ H Q):PTs Y ifs t':=fun pins s σ H Q I q=>h pins s σ H Q I (i σ H Q q)
theorem zh2 {Y:Cx}{F:List Addr}:PTs Y [] (dT Y.K F ze5):=PTs.imp pts_nil fun σ H Q ⟨A,t,b,R,e,h⟩=>by cases e;exact h H (Same.refl H)
theorem zr5 {Y:Cx}{F:List Addr}{c:Expr}{ft:DT} (h:PT Y c (dT Y.K F ft)):PTs Y [c] (dT Y.K F ft):=pts_one h
theorem zap1 {X:Cx}{F:List Addr}{n:Nat}{cap:List Nat}{fs:DI}{g:TG}{kt:D→Th→Option Th}{ft:DT}{fe:DE} (hk:∀F',TgOk X.K F' g kt) {σ:L2.St}{H:Hp}{Q:VK} (h:dE X.K F (zd8 n cap fs kt ft fe) σ H Q) :
  zax6 n cap (dI X.K F fs) g (fun σ H Q => ∃F',dT X.K F' ft σ H Q) (fun σ H Q => ∃F',dE X.K F' fe σ H Q) σ H Q:=by
 obtain⟨A,t,r,R,e,h⟩:=h
 unfold zd8 at e
 cases e1:fs t with
 |none=>rw [e1]at e;cases e
 |some q =>
  obtain⟨b,ds⟩:=q
  cases e2:capD t cap with
  |none=>rw [e1,e2]at e;cases e
  |some q2 =>
   obtain⟨c,caps⟩:=q2
   rw [e1,e2]at e
   have e:(if ds.length≤50000 then (zd5 kt ft fe ds (zbk7 n Sl.no++caps.map Sl.val)).bind fun xs=>if (b&&c)||zg9 xs then some (Ev.nw xs) else none else none)=some r:=e
   split at e
   case isFalse=>cases e
   rename_i hlen
   cases e3:zd5 kt ft fe ds (zbk7 n Sl.no++caps.map Sl.val) with
   |none=>rw [e3]at e;cases e
   |some xs =>
    rw [e3]at e
    have e:(if (b&&c)||zg9 xs then some (Ev.nw xs) else none)=some r:=e
    split at e
    case isFalse=>cases e
    rename_i ok
    cases e
    have xl:=zz4 e3
    obtain⟨cvs,cv1,cv2⟩:=zas5 R e2
    -- what is hidden from the block,but its own list
    obtain⟨F',F'def⟩:∃F',F'=hidF (b&&c) A F:=⟨_,rfl⟩
    have subF:∀x∈F',x∈A++F:=fun x hx=>by
     rw [F'def]at hx
     unfold hidF at hx
     split at hx
     ·exact hx
     ·exact zbi4 _ hx
    have lessB:∀H:Hp,Same (hide (hidF b A F) H) (hide F' H):=fun H=>zb5 H fun x hx=>by
     rw [F'def]at hx
     cases b<;>cases c<;>simp [hidF]at hx ⊢<;>first | exact hx | exact .inr hx | (rcases hx with z | z<;>simp [z])
    have lessC:∀H:Hp,Same (hide (hidF c A F) H) (hide F' H):=fun H=>zb5 H fun x hx=>by
     rw [F'def]at hx
     cases b<;>cases c<;>simp [hidF]at hx ⊢<;>first | exact hx | exact .inr hx | (rcases hx with z | z<;>simp [z])
    have wi:zax6 n cap (dI X.K F fs) g (fun σ H Q => ∃F',dT X.K F' ft σ H Q) (fun σ H Q => ∃F',dE X.K F' fe σ H Q) σ H Q:=by
     refine⟨A,t,b,ds,R,e1,fun J H1 Good gs src gd Dd hD=>?_⟩
     have H1A:Lists H1 (A++F):=R.mu.mono gs
     have st0:Same (hide F' H1) (hide (Dd::F') (upd H1 Dd (.lst []))):=zl1 hD
     refine⟨fun i m σ' H'=>i+m=ds.length∧∃th acc rest vs,RS X.K (Dd::F') H' [] th σ'∧zd5 kt ft fe (ds.drop i) th=some rest∧acc++rest=xs∧H' Dd=some (.lst vs)∧Reps X.K (hide (Dd::F') H') acc vs∧Same H1 H'∧Good (Dd::F') H',
      ⟨ds.length,by lia,_,[],xs,[],⟨?_,zbo5,fun p hp=>(by cases hp),?_⟩,by simpa using e3,rfl,zc6,.nil,zd2 hD,src.keep _ _ _ _ gd (fun b o z=>st0 _ _ (lessB _ _ _ z))⟩,?_⟩
     ·intro q hq
      have hq:q∈Dd::F':=hq
      rcases zbj4.mp hq with z | z
      ·exact⟨mL [],by rw [z];exact zc6⟩
      ·obtain⟨us,w⟩:=H1A q (subF q z)
       exact⟨us,(zd2 hD) _ _ w⟩
     ·unfold capV
      rw [cv1]
      exact RSl.noVals (Reps.mono (fun b o z=>st0 _ _ (lessC H1 _ _ (zc8 gs _ _ z))) cv2) n
     ·rintro i m σ' H' ⟨hm,th,acc,rest,vs,RR,ec,ex,hv,hr,sm,gg⟩
      cases m with
      |zero =>
       have z:i=ds.length:=by lia
       subst z
       rw [zbz7]at ec
       cases ec
       rw [zbq9]at ex
       subst ex
       refine .inl ⟨src.stop _ _ gg,h _ H' (gs.trans sm) ⟨Dd,vs,rfl,Same.free gs hD,hv,?_⟩⟩
       rcases zbr1 _ _ ▸ ok with k | k
       ·have:F'=A++F:=by rw [F'def];unfold hidF;rw [k];rfl
        rw [← this];exact hr
       ·refine Reps.hid (P:=Dd ::(A++F)) (fun q hq=>?_) k (Reps.mono (zb0 _ _) hr)
        rcases zbj4.mp hq with z | z
        ·exact⟨mL vs,by rw [z];exact hv⟩
        ·obtain⟨us,w⟩:=H1A q z
         exact⟨us,sm _ _ w⟩
      |succ m =>
       have hil:i<ds.length:=by lia
       refine .inr ⟨src.go _ _ i gg hil,fun σ' H'=>i+1+m=ds.length∧∃th acc rest vs,RS X.K (Dd::F') H' [] th σ'∧zd5 kt ft fe (ds.drop (i+1)) th=some rest∧acc++rest=xs∧H' Dd=some (.lst vs)∧Reps X.K (hide (Dd::F') H') acc vs∧Same H1 H'∧Good (Dd::F') H',
        fun σ' H' q=>⟨m,zbs0 m,q⟩,fun x H2 y=>?_⟩
       obtain⟨gs2,d,hd,rd⟩:=src.yld _ _ i x H2 gg RR.mu y hil
       have ed:ds.drop i=d::ds.drop (i+1):=by
        have hd':ds[i]=d:=by
         rw [zbj6 hil]at hd
         exact Option.some.inj hd
        rw [← hd']
        exact zbv0 hil
       rw [ed]at ec
       unfold zd5 at ec
       cases k1:kt d th with
       |none=>rw [k1]at ec;cases ec
       |some t1 =>
        rw [k1]at ec
        have ec:((ft t1).bind fun b=>if b then (fe t1).bind fun r=>(zd5 kt ft fe (ds.drop (i+1)) t1).map fun xs=>r.d::xs else zd5 kt ft fe (ds.drop (i+1)) t1)=some rest:=ec
        refine hk (Dd::F') σ' H2 [] th t1 d x _ (RR.grow gs2) rd k1 fun σ2 A2 gr2 R2=>?_
        have A20:=zau8 R2 gr2
        subst A20
        cases k2:ft t1 with
        |none=>rw [k2]at ec;cases ec
        |some bb =>
         rw [k2]at ec
         refine⟨Dd::F',[],t1,bb,R2,k2,fun H3 gs3=>?_⟩
         cases bb with
         |false =>
          refine iteF ⟨by lia,t1,acc,rest,vs,R2.grow gs3,ec,ex,gs3 _ _ (gs2 _ _ hv),Reps.mono (zc8 (gs2.trans gs3)) hr,(sm.trans gs2).trans gs3,src.keep _ _ _ _ gg (zc8 (gs2.trans gs3))⟩
         |true =>
          have ec:((fe t1).bind fun r=>(zd5 kt ft fe (ds.drop (i+1)) t1).map fun xs=>r.d::xs)=some rest:=ec
          cases k3:fe t1 with
          |none=>rw [k3]at ec;cases ec
          |some re =>
           rw [k3]at ec
           have ec:((zd5 kt ft fe (ds.drop (i+1)) t1).map fun xs=>re.d::xs)=some rest:=ec
           cases k4:zd5 kt ft fe (ds.drop (i+1)) t1 with
           |none=>rw [k4]at ec;cases ec
           |some ys =>
            rw [k4]at ec
            cases ec
            refine iteT ⟨Dd::F',[],t1,re,R2.grow gs3,k3,fun v H4 gs4 q4=>⟨vs,gs4 _ _ (gs3 _ _ (gs2 _ _ hv)),?_,?_⟩⟩
            ·have l1:=hr.length
             have l2:acc.length+(ys.length+1)=xs.length:=by rw [← ex];simp
             exact zbk6 (show vs.length<50000 by lia) (by rw [sizeLine_eq];decide)
            ·have s4:=(gs2.trans gs3).trans gs4
             have hu:Same (hide (Dd::F') H4) (hide (Dd::F') (upd H4 Dd (.lst (vs++[v])))):=zs2 (zbi9 ..)
             have rv:=q4.cleanF ((R2.grow gs3).mu)
             refine⟨by lia,t1,acc++[re.d],ys,vs++[v],RS.updF ((R2.grow gs3).grow gs4) (zbi9 ..),k4,by simpa using ex,zc6,?_,?_,?_⟩
             ·exact (Reps.mono (fun b o z=>hu _ _ (zc8 s4 _ _ z)) hr).app (Reps.one (Rep.mono hu rv))
             ·exact fun b o z=>by
               rw [zd3 (fun w=>by rw [w,hD]at z;cases z)]
               exact s4 _ _ (sm _ _ z)
             ·exact src.keep _ _ _ _ gg (fun b o z=>hu _ _ (zc8 s4 _ _ z))
    exact wi
theorem ped_comp {X:Cx}{F:List Addr}{elt tg iter:Expr}{ifs:List Expr}{scope:Scope}{pos:Pos}{n:Nat}{cap:List Nat}{N':List Str}{fs:DI}{g:TG}{kt:D→Th→Option Th}{ft:DT}{fe:DE} (S:CompSc X scope) (hc:X.calm=true) (hi:PI X tg iter (dI X.K F fs))
  (hN:N'.length=n+cap.length) (hcap:∀(k:Nat) (j:Nat),cap[k]?=some j→∃x,N'[n+k]?=some x∧X.N[j]?=some x∧(x,NameKind.free)∈scope.names)
  (hg:∀C s₃ H₃ fp pins,PG (blk X N' scope C s₃ H₃ fp pins) tg g) (hk:∀F',TgOk X.K F' g kt) (ht:∀C s₃ H₃ fp pins F',PTs (blk X N' scope C s₃ H₃ fp pins) ifs (dT X.K F' ft)) (he:∀C s₃ H₃ fp pins F',PE (blk X N' scope C s₃ H₃ fp pins) elt (dE X.K F' fe))
  (hs:∀x,foldedSetIterable iter X.env x=pure x:=by intro _;rfl):PE X (.ListComp elt [⟨tg,iter,ifs,0⟩] scope pos) (dE X.K F (zd8 n cap fs kt ft fe)) :=
 PE.imp (pe_comp (g:=g) S hc hi hN hcap hg (fun C s₃ H₃ fp pins pins' s σ H Q I ⟨F',q⟩=>ht C s₃ H₃ fp pins F' pins' s σ H Q I q) (fun C s₃ H₃ fp pins pins' s σ H Q I ⟨F',q⟩=>he C s₃ H₃ fp pins F' pins' s σ H Q I q) hs) fun _ _ _ h=>zap1 hk h
noncomputable def zar9 (names:List (Str×NameKind)) (kind:Str→Option NameKind):Bool:=names.all fun y=>(y.2 != .free||kind y.1 == some .cell||kind y.1 == some .free)&&(names.lookup y.1 == some y.2)
theorem compSc {X:Cx}{scope:Scope} (hk:scope.kind=.function:=by rfl) (h:zar9 scope.names X.env.kindOf=true:=by rfl):CompSc X scope:=by
 have h':=zbm6.mp h
 refine⟨hk,fun y hy hf=>?_,fun y hy=>?_⟩
 ·have:=h' y hy
  simp only [zbj3,zbr1,bne_iff_ne,beq_iff_eq]at this
  rcases this.1 with (z | z) |z
  ·exact absurd hf z
  ·exact .inl z
  ·exact .inr z
 ·have:=h' y hy
  simp only [zbj3,beq_iff_eq]at this
  exact this.2
noncomputable def zaw0 (N' N:List Str) (n:Nat) (names:List (Str×NameKind)):Nat→List Nat→Bool
 |_,[]=>true
 |k,j::js=>(match N'[n+k]?,N[j]? with
  |some x,some y=>x == y&&names.any fun z=>z.1 == x&&z.2 == .free
  |_,_=>false)&&zaw0 N' N n names (k+1) js
theorem zaf2 {N' N:List Str}{n:Nat}{names:List (Str×NameKind)}:∀ {cap:List Nat}{k0:Nat},zaw0 N' N n names k0 cap=true→∀(k j:Nat),cap[k]?=some j→∃x,N'[n+(k0+k)]?=some x∧N[j]?=some x∧(x,NameKind.free)∈names
 |[],k0,_,k,j,e=>by simp at e
 |i::js,k0,h,k,j,e=>by
  unfold zaw0 at h
  rw [zbj3]at h
  cases k with
  |zero =>
   simp at e
   subst e
   have h1:=h.1
   split at h1
   ·rename_i x y z1 z2
    rw [zbj3,beq_iff_eq,zbs1]at h1
    obtain⟨e1,w,w1,w2⟩:=h1
    rw [zbj3,beq_iff_eq,beq_iff_eq]at w2
    obtain⟨a,b⟩:=w
    simp only at w2
    rw [w2.1,w2.2]at w1
    exact⟨x,by simpa using z1,by rw [z2,e1],w1⟩
   ·cases h1
  |succ k =>
   obtain⟨x,a,b,c⟩:=zaf2 h.2 k j (by simpa using e)
   exact⟨x,by rw [show k0+(k+1)=k0+1+k by lia];exact a,b,c⟩
theorem ze1 {X:Cx}{F:List Addr}{elt tg iter:Expr}{ifs:List Expr}{scope:Scope}{pos:Pos}{fs:DI}{g:TG}{kt:D→Th→Option Th}{ft:DT}{fe:DE} (n:Nat) (cap:List Nat) (N':List Str) (hc:X.calm=true) (hi:PI X tg iter (dI X.K F fs))
  (hg:∀C s₃ H₃ fp pins,PG (blk X N' scope C s₃ H₃ fp pins) tg g) (hk:∀F',TgOk X.K F' g kt) (ht:∀C s₃ H₃ fp pins F',PTs (blk X N' scope C s₃ H₃ fp pins) ifs (dT X.K F' ft)) (he:∀C s₃ H₃ fp pins F',PE (blk X N' scope C s₃ H₃ fp pins) elt (dE X.K F' fe))
  (hkd:scope.kind=.function:=by rfl) (hcs:zar9 scope.names X.env.kindOf=true:=by rfl) (hN:N'.length=n+cap.length:=by rfl) (hcap:zaw0 N' X.N n scope.names 0 cap=true:=by rfl)
  (hs:∀x,foldedSetIterable iter X.env x=pure x:=by intro _;rfl):PE X (.ListComp elt [⟨tg,iter,ifs,0⟩] scope pos) (dE X.K F (zd8 n cap fs kt ft fe)) :=
 ped_comp (compSc hkd hcs) hc hi hN (fun k j e=>by simpa using zaf2 hcap k j e) hg hk ht he hs
noncomputable def kIn:Ev→Ev→Option Ev:=fun r1 r2=>match r2.d with
 |.lst ds=>if scD r1.d&&ds.all (fun d=>scD d&&eqOk 0 d r1.d) then some (.cl (.bl (ds.any fun d=>eqD d r1.d))) else none
 |.tup ds=>if scD r1.d&&ds.all (fun d=>scD d&&eqOk 0 d r1.d) then some (.cl (.bl (ds.any fun d=>eqD d r1.d))) else none
 |_=>none
theorem in_D {K:zbi5}{H:Hp}{e:D}{u:V} (q:Rep K H e u) (se:scD e=true):∀ {ds:List D}{vs:List V},Reps K H ds vs→ds.all (fun d=>scD d&&eqOk 0 d e)=true→vs.all zs5=true∧inV u vs=ds.any fun d=>eqD d e
 |_,_,.nil,_=>⟨rfl,rfl⟩
 |_,_,.cons h r,k=>by
  simp only [zbo7,zbj3]at k
  obtain⟨f1,f2,e1⟩:=eqV_D h q k.1.1 se k.1.2
  obtain⟨a,b⟩:=in_D q se r (by simpa using k.2)
  unfold inV at b ⊢
  refine⟨by simp [f1,a],?_⟩
  rw [zbp0,zbp0,e1,b]
theorem zad2 {K:zbi5}{H:Hp}{e:D}{u:V} (q:Rep K H e u) (se:scD e=true):zs5 u=true:=by
 cases q<;>simp_all [scD,zs5]
theorem zai2 {X:Cx}{F:List Addr}:OpD X F (compareOp .In) kIn:=by
 intro pins s σ H0 H A x y v u Q r1 r2 r I m g0 rx ry q1 q2 e hq
 unfold kIn at e
 have p1:=q1.full
 have p2:=q2.full
 split at e
 ·rename_i ds z
  rw [z]at p2
  split at e
  case isFalse=>cases e
  rename_i c
  rw [zbj3]at c
  cases e
  cases p2 with
  |@lst _ p vs h1 h2 =>
   obtain⟨a,b⟩:=in_D p1 c.1 h2 c.2
   exact zah7 pins s σ H x _ v u Q I rx ry ⟨p,vs,rfl,.inl h1,zad2 p1 c.1,a,by
    show Q (.bl (inV x vs)) H
    rw [b];exact hq _ H (Same.refl H) (.bl _)⟩
 ·rename_i ds z
  rw [z]at p2
  split at e
  case isFalse=>cases e
  rename_i c
  rw [zbj3]at c
  cases e
  cases p2 with
  |@tup _ p vs h1 h2 =>
   obtain⟨a,b⟩:=in_D p1 c.1 h2 c.2
   exact zah7 pins s σ H x _ v u Q I rx ry ⟨p,vs,rfl,.inr h1,zad2 p1 c.1,a,by
    show Q (.bl (inV x vs)) H
    rw [b];exact hq _ H (Same.refl H) (.bl _)⟩
 ·cases e
section
variable {X:Cx}{F:List Addr}{a b c:Expr}{es:List Expr}{fa fb fc:DE}{pos:Pos}
noncomputable def zq3:List Ev→Option Ev:=fun rs=>match rs with
 |[r]=>(match r.d with
  |.lst ds=>if r.ok||zg9 ds then some (.nw ds) else none
  |_=>none)
 |_=>none
theorem zt9:CallD X F (.type "list") zq3:=CallD.of zaj6 fun H0 H A xs rs e Q m g q ek hq=>by
 unfold zq3 at ek
 split at ek
 ·rename_i r
  cases q with
  |cons q1 q2 =>
   cases q2
   split at ek
   ·rename_i ds z
    split at ek
    case isFalse=>cases ek
    rename_i c
    cases ek
    obtain⟨p,vs,rfl,h1,h2⟩:=q1.items m g z c
    exact⟨p,vs,rfl,.inl h1,fun l hl=>hq _ _ (zd2 hl) ⟨l,vs,rfl,Same.free g hl,zc6,Reps.mono (zl1 hl) h2⟩⟩
   ·cases ek
 ·cases ek
noncomputable def k2I (f:Int→Int→Int):List Ev→Option Ev:=fun rs=>match rs with
 |[r1,r2]=>(match r1.d,r2.d with
  |.int i,.int j=>some (.cl (.int (f i j)))
  |_,_=>none)
 |_=>none
theorem cd_2I {v:Value}{f:Int→Int→Int} (h:zn7 X v (fun xs H Q => ∃i j,xs=[.int i,.int j]∧Q (.int (f i j)) H)):CallD X F v (k2I f):=CallD.of h fun H0 H A xs rs e Q m g q ek hq=>by
 unfold k2I at ek
 split at ek
 ·rename_i r1 r2
  cases q with
  |cons q1 q' =>
   cases q' with
   |cons q2 q3 =>
    cases q3
    split at ek
    ·rename_i i j z1 z2
     cases ek
     have p1:=q1.full
     have p2:=q2.full
     rw [z1]at p1;rw [z2]at p2
     cases zd1 p1;cases zd1 p2
     exact⟨i,j,rfl,hq _ H (Same.refl H) (.int _)⟩
    ·cases ek
 ·cases ek
theorem zas3 (hc:X.calm=true):CallD X F (.builtin "min") (k2I fun i j=>if j<i then j else i):=cd_2I (zbg7 hc)
theorem cd_max (hc:X.calm=true):CallD X F (.builtin "max") (k2I fun i j=>if j > i then j else i):=cd_2I (zbg9 hc)
def zbc9:D→Bool
 |.non=>true
 |_=>false
def kIs:Ev→Ev→Option Ev:=fun r1 r2=>match r2.d with
 |.non=>some (.cl (.bl (zbc9 r1.d)))
 |_=>none
theorem rep_non {K:zbi5}{H:Hp}{d:D}{v:V} (h:Rep K H d v):decide (v=.non)=zbc9 d:=by
 cases h<;>simp [zbc9]
theorem od_is:OpD X F (compareOp .Is) kIs:=by
 intro pins s σ H0 H A x y v u Q r1 r2 r I m g0 rx ry q1 q2 e hq
 unfold kIs at e
 split at e
 ·rename_i z
  cases e
  have p2:=q2.full
  rw [z]at p2
  cases p2
  exact op_isN pins s σ H x _ v u Q I rx ry ⟨rfl,by rw [rep_non q1.full];exact hq _ H (Same.refl H) (.bl _)⟩
 ·cases e
noncomputable def dSlU (hi:DE) (f:DE):DE:=fun t=>(f t).bind fun r=>(hi t).bind fun l=>match r.d,l.d with
 |.lst ds,.int i=>if r.ok||zg9 ds then some (.nw (ds.take (HT.sIx ds.length ds.length (some i)))) else none
 |_,_=>none
theorem zau3 {p2:Pos} (ha:PE X a (dE X.K F fa)) (hb:PE X b (dE X.K F fb)):PE X (.Subscript a (.Slice none (some b) none p2) pos) (dE X.K F (dSlU fb fa)):=by
 refine PE.imp (zar0 zay1 ha po_none (zal5 hb)) ?_
 rintro σ H Q ⟨A,t,r,R,e,h⟩
 unfold dSlU at e
 cases e1:fa t with
 |none=>rw [e1]at e;cases e
 |some r1 =>
  cases e2:fb t with
  |none=>rw [e1,e2]at e;cases e
  |some r2 =>
   rw [e1,e2]at e
   refine⟨A,t,r1,R,e1,fun x H1 gs1 q1=>⟨A,t,r2,R.grow gs1,e2,fun y H2 gs2 q2=>?_⟩⟩
   have e:(match r1.d,r2.d with
    |.lst ds,.int i=>if r1.ok||zg9 ds then some (Ev.nw (ds.take (HT.sIx ds.length ds.length (some i)))) else none
    |_,_=>none)=some r:=e
   split at e
   case h_2=>cases e
   rename_i ds i z1 z2
   split at e
   case isFalse=>cases e
   rename_i c
   cases e
   have p2':=q2.full
   rw [z2]at p2'
   cases zd1 p2'
   have gs:=gs1.trans gs2
   obtain⟨p,vs,rfl,h1,h2⟩:=(q1.mono gs2).items R.mu gs z1 c
   refine⟨i,rfl,p,vs,rfl,h1,fun l hl=>h _ _ (gs.trans (zd2 hl)) ⟨l,_,rfl,Same.free gs hl,zc6,Reps.mono (zl1 hl) ?_⟩⟩
   have e:cutV vs none (some i)=vs.take (HT.sIx ds.length ds.length (some i)):=by
    unfold cutV
    rw [h2.length,HT.sIx_none]
    simp
   rw [e]
   exact h2.take _
noncomputable def zx7 (t:Th) (i:Nat) (r k:Ev):Option Out:=match t[i]?,k.d with
 |some (.own xs),.int n=>if r.ok then (ixN xs.length n).map fun j=>.nx (t.set i (.own (xs.set j r.d))) else none
 |_,_=>none
def zm2 (i:Nat) (fk fv:DE):DS:=fun t=>(fv t).bind fun r=>(fk t).bind fun k=>zx7 t i r k
theorem zv4 (i:Nat) {x:Str}{p0 tpos:Pos} (hb:PE X b (dE X.K F fb)) (he:PE X a (dE X.K F fa)) (hN:X.N[i]?=some x:=by rfl) (hv:Vis X.env.scope x:=by first | exact Or.inl rfl | exact Or.inr (Or.inl rfl) |exact Or.inr (Or.inr rfl)) (hd:(x ==("__debug__":Str))=false:=by decide)
  (hcd:(x ==("__classdict__":Str))=false:=by decide)
  (ha:∀v,assign (.Subscript (.Name x p0) b tpos) X.env v=(do
   let ov ← holding [v] (eval (.Name x p0) X.env)
   let iv ← holding [v,ov] (eval b X.env)
   standAt tpos
   holding [v,ov,iv] (setItem ov iv v)
   release [v,ov,iv] []):=by intro _;rfl)
  (hs:swapsWithSole [.Subscript (.Name x p0) b tpos] a pos.line X.env=pure false:=by rfl) (hw:swappedStores [.Subscript (.Name x p0) b tpos] a X.env=pure none:=by rfl)
  (h1:(assignEach [.Subscript (.Name x p0) b tpos] X.env).map (·.2)=[assign (.Subscript (.Name x p0) b tpos) X.env]:=by rfl) :
  PS X (.Assign [.Subscript (.Name x p0) b tpos] a pos) (dS X.K F (zm2 i fb fa)):=by
 refine PS.imp (zaz1 he (pg_sub (zo2 (i:=i) hN hv hd hcd) hb zac7 ha) hs hw h1) ?_
 rintro E σ H ⟨A,t,o,R,e,h⟩
 unfold zm2 at e
 cases e1:fa t with
 |none=>rw [e1]at e;cases e
 |some r =>
  cases e2:fb t with
  |none=>rw [e1,e2]at e;cases e
  |some kk =>
   rw [e1,e2]at e
   have e:zx7 t i r kk=some o:=e
   unfold zx7 at e
   split at e
   case h_2=>cases e
   rename_i xs n z1 z2
   split at e
   case isFalse=>cases e
   rename_i ok
   cases e3:ixN xs.length n with
   |none=>rw [e3]at e;cases e
   |some j =>
    rw [e3]at e
    cases e
    obtain⟨p,vs,a1,a2,a3,a4⟩:=R.rel.getOwn z1
    refine⟨A,t,r,R,e1,fun y H1 gs1 q1=>⟨_,a1,A,t,kk,R.grow gs1,e2,fun w H2 gs2 q2=>?_⟩⟩
    have p2:=q2.full
    rw [z2]at p2
    cases zd1 p2
    have gs:=gs1.trans gs2
    refine⟨p,vs,n,j,rfl,rfl,gs _ _ a3,by rw [a4.length];exact e3,?_⟩
    obtain⟨R',g'⟩:=(R.grow gs).write (es:=xs.set j r.d) (ws:=vs.set j y) z1 a1 (Reps.set ((q1.mono gs2).clean R.mu gs ok) j (Reps.mono (zc8 gs) a4))
    exact h _ _ _ ((Gr.of_same R.mu.left gs).trans g') R'
end
end DL
namespace DL
open PySem.Spec L2
def zk4:List D→Option (List Int)
 |[]=>some []
 |.int i::r=>(zk4 r).map fun ns=>i::ns
 |_::_=>none
theorem zn4:∀ {ds:List D}{ns:List Int},zk4 ds=some ns→ds=ns.map D.int
 |[],ns,e=>by cases e;rfl
 |.int i::r,ns,e=>by
  unfold zk4 at e
  cases e1:zk4 r with
  |none=>rw [e1]at e;cases e
  |some m=>rw [e1]at e;cases e;rw [zn4 e1];rfl
 |.non::r,ns,e=>by cases e
 |.bl _::r,ns,e=>by cases e
 |.str _::r,ns,e=>by cases e
 |.tup _::r,ns,e=>by cases e
 |.lst _::r,ns,e=>by cases e
theorem zk2 (ns:List Int):zk4 (ns.map D.int)=some ns:=by
 induction ns with
 |nil=>rfl
 |cons n r ih=>simp [zk4,ih]
theorem zh1 {K:zbi5}{H:Hp}:∀ {ns:List Int}{vs:List V},Reps K H (ns.map D.int) vs→vs=ns.map V.int
 |[],_,.nil=>rfl
 |n::r,_,.cons h q=>by cases zd1 h;rw [zh1 q];rfl
section
variable {X:Cx}{F:List Addr}{a b c:Expr}{es:List Expr}{fa fb fc:DE}{pos:Pos}
theorem call_sum (hc:X.calm=true):zn7 X (.builtin "sum") (fun xs H Q => ∃(p:Addr) (ns:List Int),xs=[.ref p]∧SqL X.K H p (ns.map V.int)∧Q (.int ns.sum) H):=by
 intro pins s σ H xs us Q I r h
 obtain⟨p,ns,rfl,hs,q⟩:=h
 obtain⟨u,rfl,ru⟩:=zz7 r
 cases ru
 obtain⟨its,rv,pl,_⟩:=I.list hs
 have hi:IntsAre its ns:=zm0 rv
 obtain⟨ys,e⟩:=hi.allInts.items
 have hl:s.heap.IsList p (intItems ys):=by rw [← e];exact PlainL.isL pl
 refine sum_intListG (I.ok.hd hc) hl fun h' tk t' hk=>⟨.int _,H,I.kept (t':=tk) hk,⟨t',rfl⟩,?_⟩
 have en:=nums_intItems ys
 rw [preSum_eq,zbs7 (by simp)]
 have e2:numsOf (intItems ys).toList=ns:=by rw [← e];exact hi.numsOf
 rw [← nums_intItems,e2]
 exact q
noncomputable def kSum:List Ev→Option Ev:=fun rs=>match rs with
 |[r]=>(match r.d with
  |.lst ds=>(zk4 ds).map fun ns=>.cl (.int ns.sum)
  |_=>none)
 |_=>none
theorem zaj5 (hc:X.calm=true):CallD X F (.builtin "sum") kSum:=CallD.of (call_sum hc) fun H0 H A xs rs e Q m g q ek hq=>by
 unfold kSum at ek
 split at ek
 ·rename_i r
  cases q with
  |cons q1 q2 =>
   cases q2
   split at ek
   ·rename_i ds z
    cases e1:zk4 ds with
    |none=>rw [e1]at ek;cases ek
    |some ns =>
     rw [e1]at ek
     cases ek
     have p:=q1.full
     rw [z,zn4 e1]at p
     cases p with
     |lst h1 h2 =>
      rw [zh1 h2]at h1
      exact⟨_,ns,rfl,h1,hq _ H (Same.refl H) (.int _)⟩
   ·cases ek
 ·cases ek
end
end DL
namespace DL
open PySem.Spec L2
theorem zan3 (i j:Int):eqD (.int i) (.int j)=decide (i=j):=by
 rw [zbp1,eqD_true];simp
theorem sm_iff {i:Int}:sm i=true↔i.natAbs<bnd:=by simp [sm]
theorem sm_lt {i:Int} (h:i.natAbs<2 ^ 256):sm i=true:=sm_iff.mpr (zbk6 h (by unfold bnd;exact zbp6 (by decide) (by decide)))
theorem ze9 {i:Int} (h1 : -10000000000000000000000000000000000000000000000000000000000000000000000000000<i) (h2:i<10000000000000000000000000000000000000000000000000000000000000000000000000000):sm i=true:=by
 apply sm_lt
 have:(2:Nat) ^ 256=115792089237316195423570985008687907853269984665640564039457584007913129639936:=by decide
 lia
theorem fmod_pos {a b:Int} (h:0<b):0≤a.fmod b∧a.fmod b<b:=by
 rw [Int.fmod_eq_emod_of_nonneg a (by lia)]
 exact⟨Int.emod_nonneg a (by lia),Int.emod_lt_of_pos a h⟩
theorem za9 {g1 g2:DS}{t t':Th} (h:g1 t=some (.nx t')):dSeq g1 g2 t=g2 t':=by simp [dSeq,h]
theorem seq_rt {g1 g2:DS}{t:Th}{r:Ev} (h:g1 t=some (.rt r)):dSeq g1 g2 t=some (.rt r):=by simp [dSeq,h]
theorem RepDs.length {K:zbi5}{H0 H:Hp}:∀ {ds:List D}{vs:List V}{B:List Addr},RepDs K H0 H ds vs B→vs.length=ds.length
 |_,_,_,.nil=>rfl
 |_,_,_,.cons _ r=>by simp [RepDs.length r]
theorem RSl.focusDp {K:zbi5}{H0 H:Hp}:∀ {t:Th}{σ:L2.St}{A:List Addr},RSl K H0 H t σ A→A.Nodup→∀ {i:Nat}{d:D},t[i]?=some (.dp d)→∃v B,σ[i]?=some (some v)∧(∀b∈B,b∈A)∧B.Nodup∧RepD K H0 H d v B ∧
  ∀H0' H' d2 B2,Same H0 H0'→RepD K H0' H' d2 v B2→B2.Sublist B→(∀q∈A,q∉B→∀o,H q=some o→H' q=some o)→∃A2,RSl K H0' H' (t.set i (.dp d2)) σ A2∧A2.Sublist A:=by
 intro _ _ _ h
 induction h with
 |nil =>
  intro n i d e
  simp at e
 |@no _ _ _ _ r ih =>
  intro n i d e
  cases i with
  |zero =>
   simp at e
  |succ i =>
   obtain⟨v,B,a,b,n',c,k⟩:=ih n (i:=i) (d:=d) (by simpa using e)
   refine⟨v,B,by simpa using a,b,n',c,fun H0' H' d2 B2 s q sb w=>?_⟩
   obtain⟨A2,x,y⟩:=k H0' H' d2 B2 s q sb w
   exact⟨A2,.no x,y⟩
 |@val _ v _ _ _ h r ih =>
  intro n i d e
  cases i with
  |zero =>
   simp at e
  |succ i =>
   obtain⟨v,B,a,b,n',c,k⟩:=ih n (i:=i) (d:=d) (by simpa using e)
   refine⟨v,B,by simpa using a,b,n',c,fun H0' H' d2 B2 s q sb w=>?_⟩
   obtain⟨A2,x,y⟩:=k H0' H' d2 B2 s q sb w
   exact⟨A2,.val (Rep.mono s h) x,y⟩
 |@own p _ _ _ _ _ h1 h2 r ih =>
  intro n i d e
  cases i with
  |zero =>
   simp at e
  |succ i =>
   have n0:=zbl0.mp n
   obtain⟨v,B,a,b,n',c,k⟩:=ih n0.2 (i:=i) (d:=d) (by simpa using e)
   refine⟨v,B,by simpa using a,fun x hx=>zbi6 _ (b x hx),n',c,fun H0' H' d2 B2 s q sb w=>?_⟩
   obtain⟨A2,x,y⟩:=k H0' H' d2 B2 s q sb (fun q hq=>w q (zbi6 _ hq))
   exact⟨p::A2,.own (w p (zbi9 ..) (fun z=>n0.1 (b p z)) _ h1) (Reps.mono s h2) x,y.cons₂ _⟩
 |@dp _ v C _ _ _ h r ih =>
  intro n i d e
  cases i with
  |zero =>
   simp at e;subst e
   have n0:=zbk9.mp n
   refine⟨v,C,rfl,fun x hx=>zbi7 _ hx,n0.1,h,fun H0' H' d2 B2 s q sb w=>?_⟩
   exact⟨_,.dp q (RSl.mono s r fun p hp=>w p (zbi4 _ hp) fun z=>n0.2.2 p z p hp rfl),List.Sublist.append sb (List.Sublist.refl _)⟩
  |succ i =>
   have n0:=zbk9.mp n
   obtain⟨v,B,a,b,n',c,k⟩:=ih n0.2.1 (i:=i) (d:=d) (by simpa using e)
   refine⟨v,B,by simpa using a,fun x hx=>zbi4 _ (b x hx),n',c,fun H0' H' d2 B2 s q sb w=>?_⟩
   obtain⟨A2,x,y⟩:=k H0' H' d2 B2 s q sb (fun q hq=>w q (zbi4 _ hq))
   exact⟨C++A2,.dp (RepD.mono s h fun p hp=>w p (zbi7 _ hp) fun z=>n0.2.2 p hp p (b p z) rfl) x,List.Sublist.append (List.Sublist.refl _) y⟩
noncomputable def toDn:Ev→Option D
 |.cl d=>if flat d then some d else none
 |.tm d=>if flat d then some d else none
 |.nw xs=>if zg9 xs then some (.lst xs) else none
 |.dn d=>some d
theorem RepEv.toDn {K:zbi5}{F A:List Addr}{H H':Hp}{r:Ev}{v:V}{d:D} (m:Lists H (A++F)) (g:Same H H') (h:RepEv K F A H H' r v) (e:toDn r=some d):RepEv K F A H H' (.dn d) v:=by
 cases r with
 |cl d0 =>
  simp only [DL.toDn]at e
  split at e
  ·rename_i f;cases e
   exact⟨[],zbo5,fun b hb=>(by cases hb),.flat f h⟩
  ·cases e
 |tm d0 =>
  simp only [DL.toDn]at e
  split at e
  ·rename_i f;cases e
   exact⟨[],zbo5,fun b hb=>(by cases hb),.flat f (Rep.hid (m.mono g) f (Rep.mono (zb0 _ _) h))⟩
  ·cases e
 |nw xs =>
  simp only [DL.toDn]at e
  split at e
  ·rename_i f;cases e
   obtain⟨p,vs,rfl,h1,h2,h3⟩:=h
   exact⟨[p],by simp,fun b hb=>by simp at hb;subst hb;exact h1,.lst h2 (RepDs.of_flat f h3)⟩
  ·cases e
 |dn d0=>cases e;exact h
abbrev DN:=Th→Option (D×List Nat)
abbrev DNs:=Th→Option (List D×List Nat)
def FromN (H:Hp) (t:Th) (σ:L2.St) (I:List Nat) (b:Addr):Prop:=H b=none∨∃i∈I,∃xs,t[i]?=some (.own xs)∧σ[i]?=some (some (.ref b))
noncomputable def dN (K:zbi5) (F:List Addr) (f:DN):TE:=fun σ H Q => ∃A t d I,RS K F H A t σ∧f t=some (d,I)∧∀v H' B,Same H H'→B.Nodup→(∀b∈B,FromN H t σ I b)→RepD K (hide (B++(A++F)) H') H' d v B→Q v H'
noncomputable def dNs (K:zbi5) (F:List Addr) (f:DNs):TA:=fun σ H Q => ∃A t ds I,RS K F H A t σ∧f t=some (ds,I)∧∀vs H' B,Same H H'→B.Nodup→(∀b∈B,FromN H t σ I b)→RepDs K (hide (B++(A++F)) H') H' ds vs B→Q vs H'
theorem RSl.ownUniq {K:zbi5}{H0 H:Hp}{b:Addr}:∀ {t:Th}{σ:L2.St}{A:List Addr},RSl K H0 H t σ A→A.Nodup→∀ {i j:Nat}{xs ys:List D},t[i]?=some (.own xs)→t[j]?=some (.own ys)→σ[i]?=some (some (.ref b))→σ[j]?=some (some (.ref b))→i=j:=by
 intro _ _ _ h
 induction h with
 |nil =>
  intro w0 i j xs ys e1 e2 s1 s2
  simp at e1
 |@no _ _ _ _ r ih =>
  intro n i j xs ys e1 e2 s1 s2
  cases i with
  |zero =>
   simp at e1
  |succ i =>
   cases j with
   |zero =>
    simp at e2
   |succ j =>
    exact congrArg (· + 1) (ih n (i:=i) (j:=j) (xs:=xs) (ys:=ys) (by simpa using e1) (by simpa using e2) (by simpa using s1) (by simpa using s2))
 |@val _ _ _ _ _ _ r ih =>
  intro n i j xs ys e1 e2 s1 s2
  cases i with
  |zero =>
   simp at e1
  |succ i =>
   cases j with
   |zero =>
    simp at e2
   |succ j =>
    exact congrArg (· + 1) (ih n (i:=i) (j:=j) (xs:=xs) (ys:=ys) (by simpa using e1) (by simpa using e2) (by simpa using s1) (by simpa using s2))
 |@own _ _ _ _ _ _ _ _ r ih =>
  intro n i j xs ys e1 e2 s1 s2
  cases i with
  |zero =>
   cases j with
   |zero =>
    exact rfl
   |succ j =>
    obtain⟨p,vs,a1,a2,_⟩:=r.getOwn (i:=j) (ds:=ys) (by simpa using e2)
    simp at s1 s2
    rw [a1]at s2
    simp at s2
    subst s1;subst s2
    exact absurd a2 (zbl0.mp n).1
  |succ i =>
   cases j with
   |zero =>
    obtain⟨p,vs,a1,a2,_⟩:=r.getOwn (i:=i) (ds:=xs) (by simpa using e1)
    simp at s1 s2
    rw [a1]at s1
    simp at s1
    subst s1;subst s2
    exact absurd a2 (zbl0.mp n).1
   |succ j =>
    exact congrArg (· + 1) (ih (zbl0.mp n).2 (i:=i) (j:=j) (xs:=xs) (ys:=ys) (by simpa using e1) (by simpa using e2) (by simpa using s1) (by simpa using s2))
 |@dp _ _ _ _ _ _ _ r ih =>
  intro n i j xs ys e1 e2 s1 s2
  cases i with
  |zero =>
   simp at e1
  |succ i =>
   cases j with
   |zero =>
    simp at e2
   |succ j =>
    exact congrArg (· + 1) (ih (zbk9.mp n).2.1 (i:=i) (j:=j) (xs:=xs) (ys:=ys) (by simpa using e1) (by simpa using e2) (by simpa using s1) (by simpa using s2))
section
variable {X:Cx}{F:List Addr}{a b c o:Expr}{es:List Expr}{fa fb fc:DE}{fs:List DE}{fn:DN}{fns:DNs}{pos:Pos}
def nOf (f:DE):DN:=fun t=>(f t).bind fun r=>(toDn r).map fun d=>(d,[])
theorem pn_of (he:PE X a (dE X.K F fa)):PE X a (dN X.K F (nOf fa)):=by
 refine PE.imp he ?_
 rintro σ H Q ⟨A,t,d,I,R,e,h⟩
 unfold nOf at e
 cases e1:fa t with
 |none=>rw [e1]at e;cases e
 |some r =>
  rw [e1]at e
  simp only [zbj1]at e
  cases e2:toDn r with
  |none=>rw [e2]at e;cases e
  |some d0 =>
   rw [e2]at e
   cases e
   refine⟨A,t,r,R,e1,fun v H' gs q=>?_⟩
   obtain⟨B,b1,b2,b3⟩:=q.toDn R.mu gs e2
   exact h v H' B gs b1 (fun b hb=>.inl (b2 b hb)) b3
def nNil:DNs:=fun _=>some ([],[])
noncomputable def zae1 (f:DN) (g:DNs):DNs:=fun t=>(f t).bind fun q=>(g t).bind fun w=>if q.2.all (fun i=>!w.2.contains i) then some (q.1::w.1,q.2++w.2) else none
theorem pns_nil:PA X [] (dNs X.K F nNil):=PA.imp zn9 fun σ H Q ⟨A,t,rs,I,R,e,h⟩=>by cases e;exact h [] H [] (Same.refl H) zbo5 (fun b hb=>by cases hb) .nil
theorem zaq9 (ha:PE X a (dN X.K F fn)) (hr:PA X es (dNs X.K F fns)) (hs:zbk2 (a::es) X.env=(false,eval a X.env)::zbk2 es X.env:=by rfl):PA X (a::es) (dNs X.K F (zae1 fn fns)):=by
 refine PA.imp (zf9 ha hr hs) ?_
 rintro σ H Q ⟨A,t,ds,I,R,e,h⟩
 unfold zae1 at e
 cases e1:fn t with
 |none=>rw [e1]at e;cases e
 |some q1 =>
  cases e2:fns t with
  |none=>rw [e1,e2]at e;cases e
  |some q2 =>
   obtain⟨d1,I1⟩:=q1
   obtain⟨ds2,I2⟩:=q2
   rw [e1,e2]at e
   simp only [zbj1]at e
   split at e
   case isFalse=>cases e
   rename_i dj
   cases e
   have dj:∀i∈I1,i∉I2:=fun i hi=>by
    have:=zbm6.mp dj i hi
    simpa using this
   refine⟨A,t,d1,I1,R,e1,fun v H1 B1 g1 n1 f1 r1=>⟨A,t,ds2,I2,R.grow g1,e2,fun vs H2 B2 g2 n2 f2 r2=>?_⟩⟩
   have g:=g1.trans g2
   have l1:=r1.lists
   have l1':Lists H2 B1:=l1.mono g2
   have l2:=r2.lists
   have lA:=R.mu.mono g
   refine h _ H2 (B1++B2) g (zbk9.mpr ⟨n1,n2,fun x hx y hy e=>?_⟩) (fun b hb=>?_) (.cons (RepD.hid ((l1'.app l2).app lA) (zb0 _ _) (RepD.mono (zc8 g2) r1 fun _ _ _ w=>g2 _ _ w)) (RepDs.hid ((l1'.app l2).app lA) (zb0 _ _) r2))
   ·subst e
    obtain⟨ws,hw⟩:=l1 x hx
    rcases f2 x hy with z | ⟨j,hj,ys,j1,j2⟩
    ·rw [z]at hw;cases hw
    ·rcases f1 x hx with z | ⟨i,hi,xs,i1,i2⟩
     ·obtain⟨p,us,a1,_,a3,_⟩:=R.rel.getOwn j1
      rw [a1]at j2
      simp at j2
      subst j2
      rw [z]at a3;cases a3
     ·have:=R.rel.ownUniq R.nd i1 j1 i2 j2
      subst this
      exact dj i hi hj
   ·rcases zbj2.mp hb with z | z
    ·rcases f1 b z with w | ⟨i,hi,w⟩
     ·exact .inl w
     ·exact .inr ⟨i,zbi7 _ hi,w⟩
    ·rcases f2 b z with w | ⟨i,hi,w⟩
     ·exact .inl (Same.free g1 w)
     ·exact .inr ⟨i,zbi4 _ hi,w⟩
end
end DL
namespace DL
open PySem.Spec L2
section
variable {X:Cx}{F:List Addr}{a b c o:Expr}{es:List Expr}{fa fb fc:DE}{fs:List DE}{ga:DA}{g g1 g2:DS}{ft fu:DT}{pos:Pos}{st:Stmt}{rest:List Stmt}{tg:Expr}{gt:TG}{kt:D→Th→Option Th}
theorem rep_bl {K:zbi5}{H:Hp}{p:Bool}{v:V} (h:Rep K H (.bl p) v):v=.bl p:=by cases h;rfl
noncomputable def kRep:Ev→Ev→Option Ev:=fun r1 r2=>match r1,r2.d with
 |.nw xs,.int k=>if xs.length≤100&&decide (-1000000≤k∧k≤1000) then some (.nw (zbk7 k.toNat xs).flatten) else none
 |_,_=>none
theorem Reps.rep {K:zbi5}{H:Hp}{ds:List D}{vs:List V} (r:Reps K H ds vs):∀k:Nat,Reps K H (zbk7 k ds).flatten (zbk7 k vs).flatten
 |0=>by simpa using .nil
 |k+1=>by simpa [zbn7] using r.app (Reps.rep r k)
theorem zl8:OpD X F (binaryOp .Mult) kRep:=by
 intro pins s σ H0 H A x y v u Q r1 r2 r I m g0 rx ry q1 q2 e hq
 unfold kRep at e
 split at e
 ·rename_i xs k z
  split at e
  ·rename_i ok
   simp only [zbj3,decide_eq_true_eq]at ok
   cases e
   have p2:=q2.full
   rw [z]at p2
   cases zd1 p2
   obtain⟨p,vs,rfl,h1,h2,h3⟩:=q1
   refine op_rep pins s σ H _ _ v u Q I rx ry ⟨p,k,vs,rfl,rfl,h2,by lia,by lia,?_,fun l hl=>hq _ _ (zd2 hl) ⟨l,_,rfl,Same.free g0 hl,zc6,Reps.mono (zl1 hl) (Reps.rep (Reps.mono (zb5 H fun a z=>zbi6 _ z) h3) _)⟩⟩
   refine le_line ?_
   rw [h3.length]
   have h5:k.toNat≤1000:=by lia
   exact zbn6 (Nat.mul_le_mul ok.1 h5) (by decide)
  ·cases e
 ·cases e
def blsD:List D→Option (List Bool)
 |[]=>some []
 |.bl i::r=>(blsD r).map fun ns=>i::ns
 |_::_=>none
theorem zbh4:∀ {ds:List D}{ns:List Bool},blsD ds=some ns→ds=ns.map D.bl
 |[],ns,e=>by cases e;rfl
 |.bl i::r,ns,e=>by
  unfold blsD at e
  cases e1:blsD r with
  |none=>rw [e1]at e;cases e
  |some m=>rw [e1]at e;cases e;rw [zbh4 e1];rfl
 |.non::r,ns,e=>by cases e
 |.int _::r,ns,e=>by cases e
 |.str _::r,ns,e=>by cases e
 |.tup _::r,ns,e=>by cases e
 |.lst _::r,ns,e=>by cases e
theorem zap9 {K:zbi5}{H:Hp}:∀ {ns:List Bool}{vs:List V},Reps K H (ns.map D.bl) vs→vs=ns.map V.bl
 |[],_,.nil=>rfl
 |n::r,_,.cons h q=>by cases rep_bl h;rw [zap9 q];rfl
theorem zaf4:∀ {bs:List Bool}{its:List Value},Vals (bs.map V.bl) its→LSm.BoolsAre its bs
 |[],its,h=>by cases h;exact .nil
 |b::bs,its,h=>by
  cases h with
  |cons r rr=>cases r;exact .cons b (zaf4 rr)
theorem zl6 (hc:X.calm=true):zn7 X (.builtin "all") (fun xs H Q => ∃(p:Addr) (bs:List Bool),xs=[.ref p]∧SqL X.K H p (bs.map V.bl)∧Q (.bl (bs.all id)) H):=by
 intro pins s σ H xs us Q I r h
 obtain⟨p,bs,rfl,hs,q⟩:=h
 obtain⟨u,rfl,ru⟩:=zz7 r
 cases ru
 obtain⟨its,rv,pl,_⟩:=I.list hs
 have hb:=zaf4 rv
 have hl:=PlainL.isL pl
 have hlt:p<s.heap.objs.size:=by obtain⟨_,e,_⟩:=hl;exact zbj8 e
 refine call_all_walk (wpAny_pyIter_list hl ⟨s.heap.objs.size,[s.heap.objs.size,p],[s.heap.objs.size],its.toArray.size,_,_,fun i=>(bs[i]?).getD true,rfl,
  Walks.list (A:=X.A.in1) (I.ok.hd hc) _ p (zbl3 hlt) its.toArray,⟨⟨_,zbj9 _ rfl,rfl,rfl⟩,hl.push _⟩,fun i v s' Q' E' hP hQ=>?_,fun h' tk hk=>?_⟩)
 ·obtain⟨b,e,rfl⟩:=hb.get i v (by simpa using hP)
  have hQ:Q' ((bs[i]?).getD true) s':=hQ
  rw [e]at hQ
  exact wpAny_truthy_bool hQ
 ·have e:((zbm1 its.toArray.size).all fun i=>(bs[i]?).getD true)=bs.all id:=by
   rw [zbk0,hb.length,LSm.range_all]
  refine⟨.bl _,H,I.kept (t':=tk) (LSm.kept_iter hk),rfl,?_⟩
  rw [e];exact q
theorem zaa5 (hc:X.calm=true):zn7 X (.builtin "any") (fun xs H Q => ∃(p:Addr) (bs:List Bool),xs=[.ref p]∧SqL X.K H p (bs.map V.bl)∧Q (.bl (bs.any id)) H):=by
 intro pins s σ H xs us Q I r h
 obtain⟨p,bs,rfl,hs,q⟩:=h
 obtain⟨u,rfl,ru⟩:=zz7 r
 cases ru
 obtain⟨its,rv,pl,_⟩:=I.list hs
 have hb:=zaf4 rv
 have hl:=PlainL.isL pl
 have hlt:p<s.heap.objs.size:=by obtain⟨_,e,_⟩:=hl;exact zbj8 e
 refine call_any_walk (wpAny_pyIter_list hl ⟨s.heap.objs.size,[s.heap.objs.size,p],[s.heap.objs.size],its.toArray.size,_,_,fun i=>(bs[i]?).getD false,rfl,
  Walks.list (A:=X.A.in1) (I.ok.hd hc) _ p (zbl3 hlt) its.toArray,⟨⟨_,zbj9 _ rfl,rfl,rfl⟩,hl.push _⟩,fun i v s' Q' E' hP hQ=>?_,fun h' tk hk=>?_⟩)
 ·obtain⟨b,e,rfl⟩:=hb.get i v (by simpa using hP)
  have hQ:Q' ((bs[i]?).getD false) s':=hQ
  rw [e]at hQ
  exact wpAny_truthy_bool hQ
 ·have e:((zbm1 its.toArray.size).any fun i=>(bs[i]?).getD false)=bs.any id:=by
   rw [zbk0,hb.length,LSm.range_any]
  refine⟨.bl _,H,I.kept (t':=tk) (LSm.kept_iter hk),rfl,?_⟩
  rw [e];exact q
noncomputable def kBls (f:List Bool→Bool):List Ev→Option Ev:=fun rs=>match rs with
 |[r]=>(match r.d with
  |.lst ds=>(blsD ds).map fun bs=>.cl (.bl (f bs))
  |_=>none)
 |_=>none
theorem zas4 {id':String}{f:List Bool→Bool} (h:zn7 X (.builtin id') (fun xs H Q => ∃(p:Addr) (bs:List Bool),xs=[.ref p]∧SqL X.K H p (bs.map V.bl)∧Q (.bl (f bs)) H)):CallD X F (.builtin id') (kBls f):=by
 refine CallD.of h fun H0 H A xs rs e Q m g q ek hq=>?_
 unfold kBls at ek
 split at ek
 case h_2=>cases ek
 rename_i r
 cases q with
 |@cons _ v _ vs q1 q2 =>
  cases q2
  split at ek
  case h_2=>cases ek
  rename_i ds z
  cases e1:blsD ds with
  |none=>rw [e1]at ek;cases ek
  |some bs =>
   rw [e1]at ek
   cases ek
   have p:=q1.full
   rw [z,zbh4 e1]at p
   cases p with
   |@lst _ l us h1 h2 =>
    have:=zap9 h2
    subst this
    exact⟨l,bs,rfl,h1,hq _ H (Same.refl H) (.bl _)⟩
end
end DL
namespace DL
open PySem.Spec L2
def zw4 (a b c:Int):Bool:=Builtin.Range.small a b c&&decide (c≠0∧c.natAbs<1000000∧0≤Builtin.Range.rangeSize a b c)
def rng3 (a b c:Int):List D:=(zbm1 (Builtin.Range.rangeSize a b c).toNat).map fun i=>.int (a+(i:Nat)*c)
def mkG (k:Nat) (N:List Str) (g:DS):List D→Option Ev:=fun ds=>if ds.length=k then (g (zaa9 N ds)).bind zi7 else none
theorem zf0 {k:Nat}{N:List Str}{g:DS}{ds:List D}{r:Ev} (e:mkG k N g ds=some r):ds.length=k:=by
 unfold mkG at e
 split at e
 ·assumption
 ·cases e
theorem zh8 {k:Nat}{N:List Str}{g:DS}{ds:List D}{r:Ev} (e:mkG k N g ds=some r):∃o,g (zaa9 N ds)=some o∧zi7 o=some r:=by
 unfold mkG at e
 split at e
 ·cases e1:g (zaa9 N ds) with
  |none=>rw [e1]at e;cases e
  |some o=>rw [e1]at e;exact⟨o,rfl,e⟩
 ·cases e
section
variable {X:Cx}{F:List Addr}{elt tg iter:Expr}{ifs:List Expr}{scope:Scope}{pos spos py:Pos}{fs:DI}{g:TG}{kt:D→Th→Option Th}{ft:DT}{fe fc:DE}{i:Nat}{y:Str}
theorem compU {n:Nat}{cap:List Nat}{N':List Str} (up:∀ {σ:L2.St}{H:Hp}{Q:VK},dE X.K F fc σ H Q→zax6 n cap (dI X.K F fs) g (fun σ H Q => ∃F',dT X.K F' ft σ H Q) (fun σ H Q => ∃F',dE X.K F' fe σ H Q) σ H Q) (hc:X.calm=true) (hi:PI X tg iter (dI X.K F fs))
  (hg:∀C s₃ H₃ fp pins,PG (blk X N' scope C s₃ H₃ fp pins) tg g) (ht:∀C s₃ H₃ fp pins F',PTs (blk X N' scope C s₃ H₃ fp pins) ifs (dT X.K F' ft)) (he:∀C s₃ H₃ fp pins F',PE (blk X N' scope C s₃ H₃ fp pins) elt (dE X.K F' fe))
  (hNd:X.N.Nodup) (hi₀:X.N[i]?=some y) (hy:Loc X.env.scope y) (hsw:swapsWith (.ListComp elt [⟨tg,iter,ifs,0⟩] scope pos) (some (.Name y py)) spos.line X.env=pure true) (hf:X.fn y=true∨X.env.scope.names.lookup y=some .local)
  (hkd:scope.kind=.function) (hcs:zar9 scope.names X.env.kindOf=true) (hN:N'.length=n+cap.length) (hcap:zaw0 N' X.N n scope.names 0 cap=true) (hs:∀x,foldedSetIterable iter X.env x=pure x) :
  PS X (.Assign [.Name y py] (.ListComp elt [⟨tg,iter,ifs,0⟩] scope pos) spos) (dS X.K F (dAsg i fc)):=by
 refine PS.imp (ps_compU (g:=g) (wi:=dI X.K F fs) (tt:=fun σ H Q => ∃F',dT X.K F' ft σ H Q) (te:=fun σ H Q => ∃F',dE X.K F' fe σ H Q) (compSc hkd hcs) hc hi hN (fun k j e=>by simpa using zaf2 hcap k j e) hg (fun C s₃ H₃ fp pins pins' s σ H Q I ⟨F',q⟩=>ht C s₃ H₃ fp pins F' pins' s σ H Q I q) (fun C s₃ H₃ fp pins pins' s σ H Q I ⟨F',q⟩=>he C s₃ H₃ fp pins F' pins' s σ H Q I q) hNd hi₀ hy hsw hf hs) ?_
 rintro E σ H ⟨A,t,o,R,e,h⟩
 unfold dAsg at e
 cases e1:fc t with
 |none=>rw [e1]at e;cases e
 |some r1 =>
  rw [e1]at e
  have e:(zr1 t i r1).map Out.nx=some o:=e
  cases e2:zr1 t i r1 with
  |none=>rw [e2]at e;cases e
  |some t' =>
   rw [e2]at e
   cases e
   refine up ⟨A,t,r1,R,e1,fun v H' gs q=>?_⟩
   obtain⟨A',g',R'⟩:=R.put gs q e2
   exact h _ _ _ g' R'
theorem zaq2 (n:Nat) (cap:List Nat) (N':List Str) (hNd:X.N.Nodup) (hi₀:X.N[i]?=some y) (hy:Loc X.env.scope y) (hc:X.calm=true) (hi:PI X tg iter (dI X.K F fs))
  (hg:∀C s₃ H₃ fp pins,PG (blk X N' scope C s₃ H₃ fp pins) tg g) (hk:∀F',TgOk X.K F' g kt) (ht:∀C s₃ H₃ fp pins F',PTs (blk X N' scope C s₃ H₃ fp pins) ifs (dT X.K F' ft)) (he:∀C s₃ H₃ fp pins F',PE (blk X N' scope C s₃ H₃ fp pins) elt (dE X.K F' fe))
  (hsw:swapsWith (.ListComp elt [⟨tg,iter,ifs,0⟩] scope pos) (some (.Name y py)) spos.line X.env=pure true:=by rfl) (hf:X.fn y=true∨X.env.scope.names.lookup y=some .local:=by first | exact .inl rfl | exact .inr rfl)
  (hkd:scope.kind=.function:=by rfl) (hcs:zar9 scope.names X.env.kindOf=true:=by rfl) (hN:N'.length=n+cap.length:=by rfl) (hcap:zaw0 N' X.N n scope.names 0 cap=true:=by rfl)
  (hs:∀x,foldedSetIterable iter X.env x=pure x:=by intro _;rfl):PS X (.Assign [.Name y py] (.ListComp elt [⟨tg,iter,ifs,0⟩] scope pos) spos) (dS X.K F (dAsg i (zd8 n cap fs kt ft fe))) :=
 compU (fun h=>zap1 hk h) hc hi hg ht he hNd hi₀ hy hsw hf hkd hcs hN hcap hs
end
end DL
namespace DL
open PySem.Spec L2
section
variable {X:Cx}{F:List Addr}{a b c o:Expr}{es:List Expr}{fa fb fc:DE}{fs:List DE}{ga:DA}{g g1 g2:DS}{ft fu:DT}{pos:Pos}{st:Stmt}{rest:List Stmt}{tg:Expr}{gt:TG}{kt:D→Th→Option Th}
noncomputable def kNin:Ev→Ev→Option Ev:=fun r1 r2=>match r2.d with
 |.lst ds=>if scD r1.d&&ds.all (fun d=>scD d&&eqOk 0 d r1.d) then some (.cl (.bl (!ds.any fun d=>eqD d r1.d))) else none
 |.tup ds=>if scD r1.d&&ds.all (fun d=>scD d&&eqOk 0 d r1.d) then some (.cl (.bl (!ds.any fun d=>eqD d r1.d))) else none
 |_=>none
theorem od_nin:OpD X F (compareOp .NotIn) kNin:=by
 intro pins s σ H0 H A x y v u Q r1 r2 r I m g0 rx ry q1 q2 e hq
 unfold kNin at e
 have p1:=q1.full
 have p2:=q2.full
 split at e
 ·rename_i ds z
  rw [z]at p2
  split at e
  case isFalse=>cases e
  rename_i c
  rw [zbj3]at c
  cases e
  cases p2 with
  |@lst _ p vs h1 h2 =>
   obtain⟨a,b⟩:=in_D p1 c.1 h2 c.2
   exact zu5 pins s σ H x _ v u Q I rx ry ⟨p,vs,rfl,.inl h1,zad2 p1 c.1,a,by
    show Q (.bl (!inV x vs)) H
    rw [b];exact hq _ H (Same.refl H) (.bl _)⟩
 ·rename_i ds z
  rw [z]at p2
  split at e
  case isFalse=>cases e
  rename_i c
  rw [zbj3]at c
  cases e
  cases p2 with
  |@tup _ p vs h1 h2 =>
   obtain⟨a,b⟩:=in_D p1 c.1 h2 c.2
   exact zu5 pins s σ H x _ v u Q I rx ry ⟨p,vs,rfl,.inr h1,zad2 p1 c.1,a,by
    show Q (.bl (!inV x vs)) H
    rw [b];exact hq _ H (Same.refl H) (.bl _)⟩
 ·cases e
def leastI:Int→List Int→Int
 |m,[]=>m
 |m,n::r=>leastI (if n<m then n else m) r
def zo4:Int→List Int→Int
 |m,[]=>m
 |m,n::r=>zo4 (if m<n then n else m) r
theorem zae2:∀(r:List Int) (m:Int),zo4 m r∈m::r∧∀a∈m::r,a≤zo4 m r
 |[],m=>⟨by simp [zo4],by simp [zo4]⟩
 |n::r,m=>by
  obtain⟨h1,h2⟩:=zae2 r (if m<n then n else m)
  have h3:=h2 (if m<n then n else m) (zbi9 ..)
  have k1:m≤(if m<n then n else m):=by split<;>lia
  have k2:n≤(if m<n then n else m):=by split<;>lia
  refine⟨?_,fun a ha=>?_⟩
  ·show zo4 (if m<n then n else m) r∈m::n::r
   rcases zbj4.mp h1 with z | z
   ·rw [z];split<;>simp
   ·simp [z]
  ·show a≤zo4 (if m<n then n else m) r
   rcases zbj4.mp ha with z | z
   ·subst z;lia
   ·rcases zbj4.mp z with w | w
    ·subst w;lia
    ·exact h2 a (zbi6 _ w)
theorem zbb3 {ys:Array (Int×Tok)}{j:Nat} (hj:j<ys.size):numAt ys j∈ys.toList.map (·.1):=by
 rw [numAt_eq];exact getD_mem (by simpa using hj)
theorem zbg8 (hc:X.calm=true):zn7 X (.builtin "max") (fun xs H Q => ∃(p:Addr) (ns:List Int) (M:Int),xs=[.ref p]∧SqL X.K H p (ns.map V.int)∧M∈ns∧(∀a∈ns,a≤M)∧Q (.int M) H):=by
 intro pins s σ H xs us Q I r h
 obtain⟨p,ns,M,rfl,hs,hm,hle,q⟩:=h
 obtain⟨u,rfl,ru⟩:=zz7 r
 cases ru
 obtain⟨its,rv,pl,_⟩:=I.list hs
 have hi:IntsAre its ns:=zm0 rv
 obtain⟨ys,e⟩:=hi.allInts.items
 have hl:s.heap.IsList p (intItems ys):=by rw [← e];exact PlainL.isL pl
 have hns:ys.toList.map (·.1)=ns:=by
  have e2:numsOf (intItems ys).toList=ns:=by rw [← e];exact hi.numsOf
  rw [← nums_intItems];exact e2
 have hsz:0<ys.size:=by
  have:0<ns.length:=zbw6 hm
  rw [← hns]at this;simpa using this
 refine max_intList (I.ok.hd hc) hl hsz fun v h' tk hv hk=>?_
 obtain⟨t,rfl⟩:=intItems_at hv
 obtain⟨h1,h2⟩:=argBest_gt (numAt ys) (ys.size - 1)
 refine⟨.int M,H,I.kept (t':=tk) hk,⟨t,?_⟩,q⟩
 have a1:=hle _ (hns ▸ zbb3 (ys:=ys) (j:=argBest (fun i j=>decide (numAt ys i > numAt ys j)) (ys.size - 1)) (by lia))
 rw [← hns]at hm
 obtain⟨j,hj,ej⟩:=mem_getD hm
 have hj':j<ys.size:=by simpa using hj
 have a2:=h2 j (by lia)
 rw [numAt_eq ys j,ej]at a2
 congr 1
 lia
end
end DL
namespace DL
open PySem.Spec L2
section
variable {X:Cx}{F:List Addr}{a b c o:Expr}{es:List Expr}{fa fb fc:DE}{fs:List DE}{ga:DA}{g g1 g2:DS}{ft fu:DT}{pos:Pos}{st:Stmt}{rest:List Stmt}{tg:Expr}{gt:TG}{kt:D→Th→Option Th}
noncomputable def zav2 (f:Int→List Int→Int):List Ev→Option Ev:=fun rs=>match rs with
 |[r]=>(match r.d with
  |.lst ds=>(match zk4 ds with
   |some (n::ns)=>some (.cl (.int (f n ns)))
   |_=>none)
  |_=>none)
 |_=>none
theorem cd_extr {id':String}{f:Int→List Int→Int} (h:∀n ns,zn7 X (.builtin id') (fun xs H Q => ∃p:Addr,xs=[.ref p]∧SqL X.K H p ((n::ns).map V.int)∧Q (.int (f n ns)) H)):CallD X F (.builtin id') (zav2 f):=by
 intro pins s σ H0 H A xs us Q rs r I m g v q ek hq
 unfold zav2 at ek
 split at ek
 case h_2=>cases ek
 rename_i r0
 cases q with
 |@cons _ y _ ys q1 q2 =>
  cases q2
  split at ek
  case h_2=>cases ek
  rename_i ds z
  split at ek
  case h_2=>cases ek
  rename_i n ns z2
  cases ek
  have p:=q1.full
  rw [z,zn4 z2]at p
  cases p with
  |@lst _ l ws h1 h2 =>
   rw [zh1 h2]at h1
   exact h n ns pins s σ H _ us Q I v ⟨l,rfl,h1,hq _ H (Same.refl H) (.int _)⟩
theorem cd_maxL (hc:X.calm=true):CallD X F (.builtin "max") (zav2 zo4) :=
 cd_extr fun n ns pins s σ H xs us Q I v ⟨p,e,h1,q⟩=>zbg8 hc pins s σ H xs us Q I v ⟨p,n::ns,zo4 n ns,e,h1,(zae2 ns n).1,(zae2 ns n).2,q⟩
theorem zaw2:bootBuiltins "list"=some (.type "list"):=by decide +kernel
theorem vals_get:∀ {xs:List V}{us:List Value},xs.length=us.length→(∀(i:Nat) (x:V) (u:Value),xs[i]?=some x→us[i]?=some u→RelV x u)→Vals xs us
 |[],[],_,_=>.nil
 |[],_::_,h,_=>by simp at h
 |_::_,[],h,_=>by simp at h
 |x::xs,u::us,h,k=>.cons (k 0 x u rfl rfl) (vals_get (by simpa using h) fun i y w e1 e2=>k (i+1) y w (by simpa using e1) (by simpa using e2))
theorem zav3 {lo k:Int}{n:Nat}{acc:Array Value} (h:ItemsOf (fun i v => ∃t,v=.int (lo+i*k) t) acc n):Vals ((zbm1 n).map fun i=>V.int (lo+(i:Nat)*k)) acc.toList:=by
 refine vals_get (by simp [h.1]) fun i x u e1 e2=>?_
 obtain⟨t,rfl⟩:=h.2 i u (by simpa using e2)
 have hi:i<n:=by
  cases Nat.lt_or_ge i n with
  |inl z=>exact z
  |inr z=>rw [zbn4,zbn1 (by simpa using z)]at e1;cases e1
 rw [zbn4,zbx8 hi]at e1
 simp at e1
 subst e1
 exact⟨t,rfl⟩
theorem zae3 {pins:List (Addr×Obj)}{σ:L2.St}{H:Hp}{s:zbj7}{Q:VK}{lo hi k:Int}{t u v:Tok}{tk:Nat} (hc:X.calm=true) (I:L2.Inv X pins σ H s) (ok:zw4 lo hi k=true) (sz:Builtin.Range.rangeSize lo hi k≤50000)
  (q:∀p,H p=none→Q (.ref p) (upd H p (.lst ((zbm1 (Builtin.Range.rangeSize lo hi k).toNat).map fun i=>V.int (lo+(i:Nat)*k))))) :
  wpAny (model X.prog X.w) X.A (call (.type "list") [.ref s.heap.objs.size]) (EP X pins σ Q) X.xe { s with heap:=s.heap.push { cls:=.type "range",data:=.fields #[.int lo t,.int hi u,.int k v] },toks:=tk }:=by
 simp only [zw4,zbj3,decide_eq_true_eq]at ok
 have I1:L2.Inv X pins σ H { s with heap:=s.heap.push { cls:=.type "range",data:=.fields #[.int lo t,.int hi u,.int k v] },toks:=tk }:=I.kept fun b o e=>zbj0 _ e
 have en:Builtin.Range.rangeSize lo hi k=(((Builtin.Range.rangeSize lo hi k).toNat:Nat):Int):=by lia
 refine call_list_range (I.ok.hd hc) (IsRange.new ..) ok.1 en (by lia) fun h' tk' acc c' hk hS hacc=>?_
 refine⟨.ref _,_,I1.laid (o:=HO.lst ((zbm1 (Builtin.Range.rangeSize lo hi k).toNat).map fun i=>V.int (lo+(i:Nat)*k))) (t':=tk') hk (zbk1 _) ⟨?_,acc.toList,c',zav3 hacc,by simpa using hS⟩,rfl,q _ I1.fresh⟩
 refine le_line ?_
 rw [zbk3,zbp8];lia
noncomputable def rArgs:List D→Option (Int×Int×Int)
 |[.int n]=>some (0,n,1)
 |[.int i,.int j]=>some (i,j,1)
 |[.int i,.int j,.int k]=>some (i,j,k)
 |_=>none
noncomputable def zu9 (g:DA):DE:=fun t=>(g t).bind fun rs=>(rArgs (rs.map Ev.d)).bind fun q=>if zw4 q.1 q.2.1 q.2.2&&decide (Builtin.Range.rangeSize q.1 q.2.1 q.2.2≤50000) then some (.nw (rng3 q.1 q.2.1 q.2.2)) else none
theorem zba4 {p0 p1 p2:Pos} (hc:X.calm=true) (hgl:Gl X "list") (hml:X.mg "list"=none) (hgr:Gl X "range") (hmr:X.mg "range"=none) (ha:PA X (a::es) (dA X.K F ga))
  (hst:zbk2 [.Call (.Name "range" p1) (a::es) [] p2] X.env=[(false,eval (.Call (.Name "range" p1) (a::es) [] p2) X.env)]:=by rfl)
  (hst1:zbk2 (a::es) X.env=(false,eval a X.env)::zbk2 es X.env:=by rfl) (hst2:(zbq3 p2 (zbk2 es X.env)).any (·.1)=false:=by rfl) :
  PE X (.Call (.Name "list" p0) [.Call (.Name "range" p1) (a::es) [] p2] [] pos) (dE X.K F (zu9 ga)):=by
 intro pins s σ H Q I h
 obtain⟨A,t,r,R,e,h⟩:=h
 unfold zu9 at e
 cases e1:ga t with
 |none=>rw [e1]at e;cases e
 |some rs =>
  rw [e1]at e
  simp only [zbj1]at e
  cases e2:rArgs (rs.map Ev.d) with
  |none=>rw [e2]at e;cases e
  |some q =>
   rw [e2]at e
   simp only [zbj1]at e
   split at e
   case isFalse=>cases e
   rename_i ok
   simp only [zbj3,decide_eq_true_eq]at ok
   cases e
   have mk:∀(H1:Hp),Same H H1→∀p,H1 p=none→Q (.ref p) (upd H1 p (.lst ((zbm1 (Builtin.Range.rangeSize q.1 q.2.1 q.2.2).toNat).map fun i=>V.int (q.1+(i:Nat)*q.2.2)))):=fun H1 g1 p hp=>by
    refine h _ _ (g1.trans (zd2 hp)) ⟨p,_,rfl,Same.free g1 hp,zc6,?_⟩
    have e3:rng3 q.1 q.2.1 q.2.2=((zbm1 (Builtin.Range.rangeSize q.1 q.2.1 q.2.2).toNat).map fun i=>q.1+(i:Nat)*q.2.2).map D.int:=by simp [rng3]
    have e4:((zbm1 (Builtin.Range.rangeSize q.1 q.2.1 q.2.2).toNat).map fun i=>V.int (q.1+(i:Nat)*q.2.2))=((zbm1 (Builtin.Range.rangeSize q.1 q.2.1 q.2.2).toNat).map fun i=>q.1+(i:Nat)*q.2.2).map V.int:=by simp
    rw [e3,e4]
    exact Reps.ints _
   refine wpAny_Call_Name_kw (zl9 I hgl hml zaw2 (PyProof.Rows.callWith_type1 ?_ (by rw [hst];rfl) rfl))
   rw [hst]
   show wpAny _ _ (spliced ((false,eval (.Call (.Name "range" p1) (a::es) [] p2) X.env)::zbq3 pos (zbk2 [] X.env))) _ _ s
   refine Calls.spliced_cons (Call_ (zl9 I hgr hmr boot_range (PyProof.Rows.callWith_type1 (thn (ha p2 pins s σ H (fun vs H1=>Same H H1∧RepEvs X.K F A H H1 rs vs) I ⟨A,t,rs,R,e1,fun vs H1 g1 q1=>⟨g1,q1⟩⟩) fun us s1 ⟨vs,H1,I1,r1,g1,q1⟩=>?_) hst1 hst2)))
   have full:=q1.full
   obtain⟨q0,qh,qk⟩:=q
   unfold rArgs at e2
   split at e2
   ·rename_i n z
    cases e2
    rw [z]at full
    have ev:=zh1 (ns:=[qh]) full
    subst ev
    obtain⟨u,rfl,ru⟩:=r1.one
    obtain⟨t1,rfl⟩:=ru
    exact call_range_1 (Calls.spliced_nil (zae3 hc I1 ok.1 ok.2 (mk H1 g1)))
   ·rename_i i j z
    cases e2
    rw [z]at full
    have ev:=zh1 (ns:=[q0,qh]) full
    subst ev
    obtain⟨u,w,rfl,ru,rw'⟩:=r1.two
    obtain⟨t1,rfl⟩:=ru
    obtain⟨t2,rfl⟩:=rw'
    exact call_range_2 (Calls.spliced_nil (zae3 hc I1 ok.1 ok.2 (mk H1 g1)))
   ·rename_i i j k z
    cases e2
    rw [z]at full
    have ev:=zh1 (ns:=[q0,qh,qk]) full
    subst ev
    cases r1 with
    |cons r rr =>
     cases rr with
     |cons r' rr =>
      cases rr with
      |cons r'' rr =>
       cases rr
       obtain⟨t1,rfl⟩:=r
       obtain⟨t2,rfl⟩:=r'
       obtain⟨t3,rfl⟩:=r''
       have ok':=ok.1
       simp only [zw4,zbj3,decide_eq_true_eq]at ok'
       have lg:qk.natAbs.log2<9000:=Nat.lt_of_le_of_lt (zbc1 (k:=20) (by have:=ok'.2.2.1;lia)) (by decide)
       exact call_range_3 ok'.2.1 (Calls.spliced_nil (zae3 hc I1 ok.1 ok.2 (mk H1 g1))) (.inl (PyProof.noPylong_of_log2 lg))
   ·cases e2
end
end DL
namespace DL
open PySem.Spec L2
section
variable {X:Cx}{F:List Addr}{a b c o:Expr}{es:List Expr}{fa fb fc:DE}{fs:List DE}{ga:DA}{g g1 g2:DS}{ft fu:DT}{pos:Pos}{st:Stmt}{rest:List Stmt}{tg:Expr}{gt:TG}{kt:D→Th→Option Th}
theorem get_list:PGet X (rIxL X.K):=by
 intro pins s σ H o i ov iv Q I ro ri h
 obtain⟨p,xs,k,z,rfl,rfl,hq,he,q⟩:=h
 cases ro
 obtain⟨t,rfl⟩:=ri
 obtain⟨its,r,pl,hz⟩:=I.list hq
 obtain⟨j,h1,h2,h3,h4,h5⟩:=zao2 he
 obtain⟨w,ew,rw'⟩:=r.get h2
 have hl:=r.length
 have hn:=zab4
 have fin:EP X pins σ Q w s:=⟨z,H,I,rw',q⟩
 cases Int.lt_or_le k 0 with
 |inr h0 =>
  have hj:k.toNat=j:=Option.some.inj (by rw [← seqIndex_of h0 h5];exact h1)
  exact wpAny_getItem_list (PlainL.isL pl) h0 (by lia) (by rw [hj];simpa using ew) fin
 |inl h0 =>
  have hj:(k+(its.toArray.size:Int)).toNat=j:=by
   rw [zbk0, ← hl]
   exact Option.some.inj (by rw [← seqIndex_neg h0 h4];exact h1)
  exact wpAny_getItem_list_neg (PlainL.isL pl) h0 (by rw [zbk0];lia) (by lia) (by rw [hj];simpa using ew) fin
noncomputable def zbc8 (f:Int→Int→Int) (t:Th) (i:Nat) (k r:Ev):Option Out:=match t[i]?,k.d,r.d with
 |some (.own xs),.int n,.int m=>(ixN xs.length n).bind fun j=>match xs[j]? with
  |some (.int v)=>some (.nx (t.set i (.own (xs.set j (.int (f v m))))))
  |_=>none
 |_,_,_=>none
def zav8 (f:Int→Int→Int) (i:Nat) (fk fe:DE):DS:=fun t=>(fk t).bind fun k=>(fe t).bind fun r=>zbc8 f t i k r
theorem zaq4 {op:Operator}{f:Int→Int→Int} (i:Nat) {x:Str}{p0 tpos:Pos} (ho:PIp X op (ipI f)) (hb:PE X b (dE X.K F fb)) (he:PE X a (dE X.K F fa)) (hN:X.N[i]?=some x:=by rfl) (hv:Vis X.env.scope x:=by first | exact Or.inl rfl | exact Or.inr (Or.inl rfl) |exact Or.inr (Or.inr rfl)) (hd:(x ==("__debug__":Str))=false:=by decide)
  (hcd:(x ==("__classdict__":Str))=false:=by decide) (ha:∀ov iv new,augStore b ov iv new=(do holding [new,ov,iv] (setItem ov iv new);release [new,ov,iv] [];pure .next):=by intros;rfl) :
  PS X (.AugAssign (.Subscript (.Name x p0) b tpos) op a pos) (dS X.K F (zav8 f i fb fa)):=by
 refine PS.imp (ps_augS (zo2 (i:=i) hN hv hd hcd) hb get_list he ho zac7 ha) ?_
 rintro E σ H ⟨A,t,o,R,e,h⟩
 unfold zav8 at e
 cases e1:fb t with
 |none=>rw [e1]at e;cases e
 |some kk =>
  cases e2:fa t with
  |none=>rw [e1,e2]at e;cases e
  |some r =>
   rw [e1,e2]at e
   have e:zbc8 f t i kk r=some o:=e
   unfold zbc8 at e
   split at e
   case h_2=>cases e
   rename_i xs n m z1 z2 z3
   cases e3:ixN xs.length n with
   |none=>rw [e3]at e;cases e
   |some j =>
    rw [e3]at e
    simp only [zbj1]at e
    split at e
    case h_2=>cases e
    rename_i v z4
    cases e
    obtain⟨p,vs,a1,a2,a3,a4⟩:=R.rel.getOwn z1
    obtain⟨v0,b1,b2⟩:=a4.get z4
    cases zd1 b2
    have ea:atI vs n=some (.int v):=by unfold L2.atI;rw [a4.length,e3];exact b1
    refine⟨_,a1,A,t,kk,R,e1,fun w H1 gs1 q1=>?_⟩
    have p1:=q1.full
    rw [z2]at p1
    cases zd1 p1
    refine⟨p,vs,n,.int v,rfl,rfl,SqL.of (gs1 _ _ a3),ea,A,t,r,R.grow gs1,e2,fun y H2 gs2 q2=>?_⟩
    have p2:=q2.full
    rw [z3]at p2
    cases zd1 p2
    have gs:=gs1.trans gs2
    refine⟨v,m,rfl,rfl,p,vs,n,j,rfl,rfl,gs _ _ a3,by rw [a4.length];exact e3,?_⟩
    obtain⟨R',g'⟩:=(R.grow gs).write (es:=xs.set j (.int (f v m))) (ws:=vs.set j (.int (f v m))) z1 a1 (Reps.set (.int _) j (Reps.mono (zc8 gs) a4))
    exact h _ _ _ ((Gr.of_same R.mu.left gs).trans g') R'
end
end DL
namespace DL
open PySem.Spec L2
def frzD:Sl→Sl
 |.own xs=>.val (.lst xs)
 |.dp d=>.val d
 |s=>s
def frzT (t:Th) (i:Nat):Th:=match t[i]? with
 |some s=>t.set i (frzD s)
 |none=>t
theorem zs4 (s:Sl) (t:Th) (i:Nat):frzT (s::t) (i+1)=s::frzT t i:=by
 unfold frzT
 simp only [zbq0]
 cases t[i]?<;>simp
theorem RSl.give {K:zbi5}{H0 H:Hp}:∀ {t:Th}{σ:L2.St}{A:List Addr} (i:Nat),RSl K H0 H t σ A→A.Nodup→∃(B A':List Addr),A'.Sublist A∧(∀b∈B,b∈A∧b∉A')∧∀H1,Same H0 H1→(∀b∈B,∀o,H b=some o→H1 b=some o)→RSl K H1 H (frzT t i) σ A'
 |_,_,_,i,.nil,_=>⟨[],[],List.Sublist.refl _,fun b hb=>(by cases hb),fun H1 e _=>by simpa [frzT] using RSl.nil⟩
 |_,_,A,0,.no r,n=>⟨[],A,List.Sublist.refl _,fun b hb=>(by cases hb),fun H1 e _=>.no (RSl.mono e r fun _ _ _ h=>h)⟩
 |_,_,A,0,.val h r,n=>⟨[],A,List.Sublist.refl _,fun b hb=>(by cases hb),fun H1 e _=>.val (Rep.mono e h) (RSl.mono e r fun _ _ _ h=>h)⟩
 |_,_,_,0,.own (p:=p) (A:=A) h1 h2 r,n=>by
  have n0:=zbl0.mp n
  refine⟨[p],A,zbw5 _ _,fun b hb=>?_,fun H1 e k=>?_⟩
  ·simp at hb;subst hb;exact⟨zbi9 ..,n0.1⟩
  ·exact .val (.lst (SqL.of (k p (by simp) _ h1)) (Reps.mono e h2)) (RSl.mono e r fun _ _ _ h=>h)
 |_,_,_,0,.dp (B:=B) (A:=A) h r,n=>by
  have n0:=zbk9.mp n
  refine⟨B,A,zbu9 _ _,fun b hb=>⟨zbi7 _ hb,fun z=>n0.2.2 b hb b z rfl⟩,fun H1 e k=>?_⟩
  exact .val (h.rep e k) (RSl.mono e r fun _ _ _ h=>h)
 |_,_,_,i+1,.no r,n=>by
  obtain⟨B,A',a1,a2,a3⟩:=RSl.give i r n
  refine⟨B,A',a1,a2,fun H1 e k=>?_⟩
  rw [zs4];exact .no (a3 H1 e k)
 |_,_,_,i+1,.val h r,n=>by
  obtain⟨B,A',a1,a2,a3⟩:=RSl.give i r n
  refine⟨B,A',a1,a2,fun H1 e k=>?_⟩
  rw [zs4];exact .val (Rep.mono e h) (a3 H1 e k)
 |_,_,_,i+1,.own (p:=p) h1 h2 r,n=>by
  have n0:=zbl0.mp n
  obtain⟨B,A',a1,a2,a3⟩:=RSl.give i r n0.2
  refine⟨B,p::A',a1.cons₂ _,fun b hb=>⟨zbi6 _ (a2 b hb).1,fun z=>?_⟩,fun H1 e k=>?_⟩
  ·rcases zbj4.mp z with w | w
   ·exact n0.1 (w ▸ (a2 b hb).1)
   ·exact (a2 b hb).2 w
  ·rw [zs4];exact .own h1 (Reps.mono e h2) (a3 H1 e k)
 |_,_,_,i+1,.dp (B:=C) h r,n=>by
  have n0:=zbk9.mp n
  obtain⟨B,A',a1,a2,a3⟩:=RSl.give i r n0.2.1
  refine⟨B,C++A',List.Sublist.append (List.Sublist.refl _) a1,fun b hb=>⟨zbi4 _ (a2 b hb).1,fun z=>?_⟩,fun H1 e k=>?_⟩
  ·rcases zbj2.mp z with w | w
   ·exact n0.2.2 b w b (a2 b hb).1 rfl
   ·exact (a2 b hb).2 w
  ·rw [zs4];exact .dp (RepD.mono e h fun _ _ _ w=>w) (a3 H1 e k)
theorem RS.give {K:zbi5}{F A:List Addr}{H:Hp}{t:Th}{σ:L2.St} (R:RS K F H A t σ) (i:Nat):∃A',RS K F H A' (frzT t i) σ∧Gr A H A' H:=by
 obtain⟨B,A',a1,a2,a3⟩:=R.rel.give i R.nd
 have sub:∀x∈A',x∈A:=fun x hx=>a1.subset hx
 refine⟨A',⟨fun q hq=>R.mu q ((zbj2.mp hq).elim (fun z=>zbi7 _ (sub q z)) fun z=>zbi4 _ z),R.nd.sublist a1,fun p hp=>R.dj p (sub p hp),a3 _ (zb5 H fun a z=>(zbj2.mp z).elim (fun z=>zbi7 _ (sub a z)) fun z=>zbi4 _ z) fun b hb o h=>zc7 h fun z=>?_⟩,⟨fun _ _ _ h=>h,fun b hb=>?_,fun b hb=>.inl (sub b hb)⟩⟩
 ·rcases zbj2.mp z with w | w
  ·exact (a2 b hb).2 w
  ·exact R.dj b (a2 b hb).1 w
 ·obtain⟨vs,q⟩:=R.mu b (zbi7 _ hb)
  rw [q];simp
def dFrz (i:Nat) (g:DS):DS:=fun t=>g (frzT t i)
theorem dS_frz {K:zbi5}{F:List Addr}{g:DS}{i:Nat}{E:Ends}{σ:L2.St}{H:Hp} (h:dS K F (dFrz i g) E σ H):dS K F g E σ H:=by
 obtain⟨A,t,o,R,e,p⟩:=zbe8 h
 obtain⟨A',R',gr⟩:=R.give i
 exact dS_mk R' e (p.back gr)
theorem zad5 {X:Cx}{F:List Addr}{g:DS}{st:Stmt} (i:Nat) (h:PS X st (dS X.K F g)):PS X st (dS X.K F (dFrz i g)):=PS.imp h fun _ _ _ q=>dS_frz q
end DL
namespace L2
open PySem.Spec
noncomputable def Itz (K:zbi5) (a b:Addr):It :=
 ⟨fun i H => ∃xs ys x y,SqL K H a xs∧SqL K H b ys∧xs[i]?=some x∧ys[i]?=some y,
  fun i H x H' => ∃p v u,H p=none∧x=.ref p∧H'=upd H p (.tup [v,u])∧(∀xs,SqL K H a xs→xs[i]?=some v)∧∀ys,SqL K H b ys→ys[i]?=some u,
  fun i H => ∃xs ys,SqL K H a xs∧SqL K H b ys∧i=min xs.length ys.length⟩
noncomputable def ZipAt (z TI TO i1 i2 l1 l2:Addr) (i:Nat) (h:Heap):Prop:=IsZip h z TI TO .none∧IsPair h TI (.ref i1) (.ref i2)∧(∃a b,IsPair h TO a b)∧h.IsListIter i1 l1 i∧h.IsListIter i2 l2 i
theorem turn_zip {P:Program}{w:World}{K:zbi5}{elts:List Expr}{k:Nat}{pos:Pos} (l1 l2 z TI TO i1 i2:Addr) (D:ZipApart z TI TO i1 i2 l1 l2):Turn P w K (.Tuple elts k pos) (Itz K l1 l2) [z,TI,TO,i1,i2] z (ZipAt z TI TO i1 i2 l1 l2) where
 mem:=zbi9 ..
 obj:=fun i h st b hb=>by
  obtain⟨h1,h2,⟨a,c,h3⟩,h4,h5⟩:=st
  simp only [zbj4,zbm7,or_false]at hb
  rcases hb with rfl | rfl | rfl | rfl | rfl
  ·exact⟨_,h1,fun v q=>by cases q⟩
  ·exact⟨_,h2,fun v q=>by cases q⟩
  ·exact⟨_,h3,fun v q=>by cases q⟩
  ·obtain⟨o,e1,_,d⟩:=h4
   exact⟨o,e1,fun v q=>by rw [d]at q;cases q⟩
  ·obtain⟨o,e1,_,d⟩:=h5
   exact⟨o,e1,fun v q=>by rw [d]at q;cases q⟩
 keep:=fun i h h' st kk=>by
  obtain⟨h1,h2,⟨a,c,h3⟩,h4,h5⟩:=st
  exact⟨kk z (by simp) _ h1,kk TI (by simp) _ h2,⟨a,c,kk TO (by simp) _ h3⟩,h4.at fun o q=>kk i1 (by simp) o q,h5.at fun o q=>kk i2 (by simp) o q⟩
 item:=fun X hP hw hK hc i pins s σ H E I hf st hg=>by
  subst hP hw hK
  obtain⟨xs,ys,x,y,hq1,hq2,hx,hy⟩:=hg
  obtain⟨its1,rv1,p1,_⟩:=I.list hq1
  obtain⟨its2,rv2,p2,_⟩:=I.list hq2
  obtain⟨u1,hu1,ru1⟩:=rv1.get hx
  obtain⟨u2,hu2,ru2⟩:=rv2.get hy
  have W:=WalksT.zip2 (prog:=X.prog) (w:=X.w) (I.ok.hd hc) z TI TO i1 i2 l1 l2 D its1.toArray its2.toArray
  have L1:i<its1.length:=(zbn0.mp hu1).1
  have L2':i<its2.length:=(zbn0.mp hu2).1
  obtain⟨z1,z2,z3,z4,z5⟩:=st
  refine W.item i s _ _ (by simp;lia) ⟨z1,z2,z3,z4,z5,p1.isList,p2.isList⟩ fun T vals h1 tk pt hT it md kp=>?_
  obtain⟨w1,w2,e1,e2,rfl⟩:=pt
  have e1':w1=u1:=by
   have:its1[i]?=some w1:=by simpa using e1
   rw [hu1]at this;exact (Option.some.inj this).symm
  have e2':w2=u2:=by
   have:its2[i]?=some w2:=by simpa using e2
   rw [hu2]at this;exact (Option.some.inj this).symm
  subst e1';subst e2'
  have nT:=W.apart i T h1 md
  refine⟨_,rfl,W.go elts k pos i T { s with heap:=h1,toks:=tk } _ _ md fun h2 st2 kp2=>?_⟩
  have kk:∀b o,b∉[z,TI,TO,i1,i2]→s.heap.get? b=some o→h2.get? b=some o:=fun b o nb q=>by
   have nw:b∉[z,TO,i1,i2]:=fun w=>nb (by simp only [zbj4,zbm7,or_false]at w ⊢;rcases w with w | w | w | w<;>simp [w])
   exact kp2 b o nw (kp b o nw q)
  obtain⟨o,t1,t2,t3⟩:=it
  have it2:IsTup h2 T #[w1,w2]:=⟨o,kp2 T o nT t1,t2,t3⟩
  have I2:Inv X pins σ (upd H T (.tup [x,y])) { s with heap:=h2,toks:=tk }:=I.turnedNew (t':=tk) kk hf hT
   ⟨by show 2≤sizeLine;decide,[w1,w2],.cons ru1 (.cons ru2 .nil),it2⟩
  obtain⟨y1,y2,y3,y4,y5,_,_⟩:=st2
  refine⟨.ref T,_,I2,rfl,⟨T,x,y,I.hok.fresh hT,rfl,rfl,fun as ha=>by rw [I.list_inj ha hq1];exact hx,fun bs hb=>by rw [I.list_inj hb hq2];exact hy⟩,⟨y1,y2,y3,y4,y5⟩,fun b hb=>?_⟩
  have hlt:b<s.heap.objs.size:=by
   simp only [zbj4,zbm7,or_false]at hb
   rcases hb with rfl | rfl | rfl | rfl | rfl
   ·exact zbj8 z1
   ·exact zbj8 z2
   ·obtain⟨_,_,e⟩:=z3;exact zbj8 e
   ·obtain⟨_,e,_⟩:=z4;exact zbj8 e
   ·obtain⟨_,e,_⟩:=z5;exact zbj8 e
  have nb:b≠T:=fun e=>by rw [e]at hlt;exact absurd hlt (Nat.not_lt.mpr hT)
  rw [zd3 nb]
  exact (hf b hb).1
 done:=fun X hP hw hK hc i pins s σ H E I hf st hg=>by
  subst hP hw hK
  obtain⟨xs,ys,hq1,hq2,hi⟩:=hg
  obtain⟨its1,rv1,p1,_⟩:=I.list hq1
  obtain⟨its2,rv2,p2,_⟩:=I.list hq2
  have W:=WalksT.zip2 (prog:=X.prog) (w:=X.w) (I.ok.hd hc) z TI TO i1 i2 l1 l2 D its1.toArray its2.toArray
  have e:i=min its1.toArray.size its2.toArray.size:=by
   have:=rv1.length;have:=rv2.length
   simp only [zbk0];lia
  obtain⟨z1,z2,z3,z4,z5⟩:=st
  refine W.done s _ _ (e ▸ ⟨z1,z2,z3,z4,z5,p1.isList,p2.isList⟩) fun h' tk kp=>⟨rfl,I.turnedL (t':=tk) (fun b o nb q=>kp b o (fun w=>nb (by simp only [zbj4,zbm7,or_false]at w ⊢;rcases w with w | w | w | w<;>simp [w])) q) hf⟩
 self:=fun X i s Q E st h=>by
  obtain⟨z1,_⟩:=st
  exact wpAny_pyIter_zip z1 h
noncomputable def iZip (K:zbi5) (ta:TA):TI:=fun σ H R=>ta σ H fun vs H1 => ∃a b,vs=[.ref a,.ref b]∧(∃xs,SqL K H1 a xs)∧(∃ys,SqL K H1 b ys)∧R (Itz K a b) H1
theorem bt_zip:bootBuiltins "zip"=some (.type "zip"):=by decide +kernel
theorem pi_zip {X:Cx}{a b:Expr}{ta:TA}{elts:List Expr}{k:Nat}{tp p pos:Pos} (hg:Gl X "zip") (hm:X.mg "zip"=none) (ha:PA X [a,b] ta) (hs:zbk2 [a,b] X.env=(false,eval a X.env)::zbk2 [b] X.env:=by rfl) (hs2:(zbq3 pos (zbk2 [b] X.env)).any (·.1)=false:=by rfl) :
  PI X (.Tuple elts k tp) (.Call (.Name "zip" p) [a,b] [] pos) (iZip X.K ta):=by
 intro pins s σ H R I h
 refine Call_ (zl9 I hg hm bt_zip (PyProof.Rows.callWith_type1 (thn (ha pos pins s σ H _ I h) fun us s1 ⟨vs,H1,I1,r1,q1⟩=>?_) hs hs2))
 obtain⟨l1,l2,rfl,⟨xs,hx⟩,⟨ys,hy⟩,q⟩:=q1
 obtain⟨u,w,rfl,ru,rw'⟩:=r1.two
 cases ru;cases rw'
 obtain⟨its1,rv1,p1,_⟩:=I1.list hx
 obtain⟨its2,rv2,p2,_⟩:=I1.list hy
 have t1:l1<s1.heap.objs.size:=by obtain⟨_,e,_⟩:=p1.isList;exact zbj8 e
 have t2:l2<s1.heap.objs.size:=by obtain⟨_,e,_⟩:=p2.isList;exact zbj8 e
 refine call_zip_2 p1.isList p2.isList fun h' z1 z2 z3 z4 z5 z6 hk=>?_
 have I2:Inv X pins σ H1 { s1 with heap:=h' }:=I1.kept (t':=s1.toks) hk
 refine wpAny_pyIter_zip z1 ⟨s1.heap.objs.size+4,[s1.heap.objs.size+4,s1.heap.objs.size+2,s1.heap.objs.size+3,s1.heap.objs.size,s1.heap.objs.size+1],ZipAt _ _ _ _ _ l1 l2,Itz X.K l1 l2,H1,rfl,I2,turn_zip l1 l2 _ _ _ _ _ (zipApart_new t1 t2),⟨z1,z2,⟨_,_,z3⟩,z4,z5⟩,fun c hc=>?_,q⟩
 have le:s1.heap.objs.size≤c:=by
  simp only [zbj4,zbm7,or_false]at hc
  rcases hc with rfl | rfl | rfl | rfl | rfl
  ·exact zbt6 _ _
  ·exact zbt6 _ _
  ·exact zbt6 _ _
  ·exact zbk1 _
  ·exact zbt6 _ _
 exact I1.fpOk le (I1.hok.fresh le)
end L2
namespace DL
open PySem.Spec L2
section
variable {X:Cx}{F:List Addr}{a b c:Expr}{es:List Expr}{fa fb fc:DE}{g g1 g2:DS}{pos:Pos}{gt:TG}{kt:D→Th→Option Th}
def zipD:List D→List D→List D
 |x::xs,y::ys=>.tup [x,y]::zipD xs ys
 |_,_=>[]
theorem zv3:∀(xs ys:List D),(zipD xs ys).length=min xs.length ys.length
 |[],ys=>by simp [zipD]
 |x::xs,[]=>by simp [zipD]
 |x::xs,y::ys=>by simp [zipD,zv3 xs ys]
theorem zao6:∀(xs ys:List D) (j:Nat) (x y:D),xs[j]?=some x→ys[j]?=some y→(zipD xs ys)[j]?=some (.tup [x,y])
 |[],ys,j,x,y,e1,e2=>by simp at e1
 |x'::xs,[],j,x,y,e1,e2=>by simp at e2
 |x'::xs,y'::ys,0,x,y,e1,e2=>by simp at e1 e2;subst e1;subst e2;rfl
 |x'::xs,y'::ys,j+1,x,y,e1,e2=>by simpa [zipD] using zao6 xs ys j x y (by simpa using e1) (by simpa using e2)
end
end DL
namespace DL
open PySem.Spec L2
section
variable {X:Cx}{F:List Addr}{a b c o:Expr}{es:List Expr}{fa fb fc:DE}{fs:List DE}{ga:DA}{g g1 g2:DS}{ft fu:DT}{pos:Pos}{st:Stmt}{rest:List Stmt}{tg:Expr}{gt:TG}{kt:D→Th→Option Th}
def insI (n:Int):List Int→List Int
 |[]=>[n]
 |m::r=>if n≤m then n::m::r else m::insI n r
def sortI':List Int→List Int
 |[]=>[]
 |n::r=>insI n (sortI' r)
theorem zy4 (n:Int):∀r:List Int,(insI n r).Perm (n::r)
 |[]=>List.Perm.refl _
 |m::r=>by
  unfold insI
  split
  ·exact List.Perm.refl _
  ·exact (List.Perm.cons m (zy4 n r)).trans (List.Perm.swap n m r)
theorem sortI'_perm:∀r:List Int,(sortI' r).Perm r
 |[]=>List.Perm.refl _
 |n::r=>(zy4 n _).trans (List.Perm.cons n (sortI'_perm r))
theorem zy3 (n:Int):∀r:List Int,r.Pairwise (·≤·)→(insI n r).Pairwise (·≤·)
 |[],_=>by simp [insI]
 |m::r,h=>by
  unfold insI
  have hc:=zbm8.mp h
  split
  ·rename_i hle
   refine zbm8.mpr ⟨fun x hx=>?_,h⟩
   rcases zbj4.mp hx with rfl | z
   ·exact hle
   ·exact zca0 hle (hc.1 x z)
  ·rename_i hle
   refine zbm8.mpr ⟨fun x hx=>?_,zy3 n r hc.2⟩
   rcases zbj4.mp ((zy4 n r).mem_iff.mp hx) with rfl | z
   ·lia
   ·exact hc.1 x z
theorem sortI'_sorted:∀r:List Int,(sortI' r).Pairwise (·≤·)
 |[]=>List.Pairwise.nil
 |n::r=>zy3 n _ (sortI'_sorted r)
theorem sorted_uniq:∀ {xs ys:List Int},xs.Perm ys→xs.Pairwise (·≤·)→ys.Pairwise (·≤·)→xs=ys
 |[],ys,p,_,_=>(List.Perm.nil_eq p)
 |x::xs,[],p,_,_=>absurd p.length_eq (by simp)
 |x::xs,y::ys,p,h1,h2=>by
  have c1:=zbm8.mp h1
  have c2:=zbm8.mp h2
  have e:x=y:=by
   have m1:x∈y::ys:=p.mem_iff.mp (zbi9 ..)
   have m2:y∈x::xs:=p.mem_iff.mpr (zbi9 ..)
   have l1:y≤x:=by rcases zbj4.mp m1 with z | z;lia;exact c2.1 x z
   have l2:x≤y:=by rcases zbj4.mp m2 with z | z;lia;exact c1.1 y z
   lia
  subst e
  rw [sorted_uniq (List.Perm.cons_inv p) c1.2 c2.2]
end
end DL
namespace L2
open PySem.W
def bndS:Nat:=2 ^ 1048576
theorem zaa7:∀ {ns:List Int}{n:Int},n∈ns→WData.weight (.int n)≤WData.weightAll (ns.map WData.int)
 |m::r,n,h=>by
  rw [zbk5]
  unfold WData.weightAll
  rcases zbj4.mp h with rfl | z
  ·lia
  ·have:=zaa7 z;lia
theorem bnd_of {ns:List Int} (h:WData.layableAll [WData.list (ns.map WData.int)]=true):∀n∈ns,n.natAbs<bndS:=fun n hn=>by
 have h1:WData.layable (WData.list (ns.map WData.int))=true:=by simpa [WData.layableAll] using h
 have h2:WData.weight (WData.list (ns.map WData.int))≤2 ^ 20:=by
  unfold WData.layable at h1
  simp only [zbj3,decide_eq_true_eq]at h1
  exact h1.2
 have h3:WData.weight (.int n)≤2 ^ 20:=by
  refine zbn6 (zaa7 hn) ?_
  have e:WData.weight (WData.list (ns.map WData.int))=WData.weightAll (ns.map WData.int):=by simp [WData.weight]
  rw [← e];exact h2
 by_cases z:n=0
 ·subst z;unfold bndS;exact Nat.pow_pos (by decide)
 ·have h4:n.natAbs.log2+1≤2 ^ 20:=by
   have:WData.weight (.int n)=n.natAbs.log2+1:=by simp [WData.weight,z]
   rw [← this];exact h3
  have h5:n.natAbs.log2<1048576:=by lia
  exact (Nat.log2_lt (by lia)).mp h5
end L2
namespace DL
open PySem.Spec L2
section
variable {X:Cx}{F:List Addr}{a b c o:Expr}{es:List Expr}{fa fb fc:DE}{ga:DA}{pos:Pos}
theorem Reps.erase {K:zbi5}{H:Hp}:∀ {ds:List D}{vs:List V} (j:Nat),Reps K H ds vs→Reps K H (ds.eraseIdx j) (vs.eraseIdx j)
 |_,_,_,.nil=>.nil
 |_,_,0,.cons _ rs=>rs
 |_,_,j+1,.cons r rs=>.cons r (Reps.erase j rs)
end
end DL
namespace DL
open PySem.Spec L2
noncomputable def spM (K:zbi5) (G:List D→Option Ev):Sp:=fun vs H Q _ => ∃(Fo:List Addr) (p:Addr) (ws vs':List V) (xs ds:List D) (d:D),vs=.ref p::vs'∧Lists H (p::Fo)∧p∉Fo∧H p=some (.lst ws)∧Reps K (hide (p::Fo) H) xs ws∧Reps K (hide (p::Fo) H) ds vs'∧G (.lst xs::ds)=some (.cl d)∧scD d=true ∧
 ∀v H',(∀b o,b≠p→H b=some o→H' b=some o)→H' p≠none→(∀Hx,Rep K Hx d v)→Q v H'
structure CalM (P:Program) (w:World) (K:zbi5) (mg:Str→Option Value) (base:BHeap) (x:Str) (k:Nat) (G:List D→Option Ev):Prop where
 ex:∃(a:Addr) (fd:FuncData) (ps:List Str),mg x=some (.ref a)∧zbo3 K (.ref a)=true∧L2.Binds K fd ps []∧FnOk P w K mg base CX0 k a fd ps (spM K G)
section
variable {X:Cx}{F:List Addr}{a b c o:Expr}{es:List Expr}{fa fb fc:DE}{ga:DA}{pos pos2:Pos}
def ddp (ns:List Int):List Int:=ns.foldl step_dedup []
theorem first_met (ns:List Int):firstMet (fun i=>ns.getD i 0) ns.length=ddp ns:=by
 unfold firstMet ddp
 congr 1
 apply zbt4
 ·simp
 ·intro i h1 h2
  simp [zbl1,h2]
theorem zbg6 (hc:X.calm=true):zn7 X (.type "set") (fun xs H Q => ∃(p:Addr) (ns:List Int),xs=[.ref p]∧SqL X.K H p (ns.map V.int)∧ns.length≤3000∧∀l,H l=none→Q (.ref l) (upd H l (.set (fun k=>(ddp ns).any (· == k)) (ddp ns).length))):=by
 intro pins s σ H xs us Q I r h
 obtain⟨p,ns,rfl,hs,hz,q⟩:=h
 obtain⟨u,rfl,ru⟩:=zz7 r
 cases ru
 obtain⟨its,rv,pl,_⟩:=I.list hs
 have hi:IntsAre its ns:=zm0 rv
 have hl:=hi.length
 refine call_set_list (ns:=ns) (I.ok.hd hc) (PlainL.isL pl) (by simpa using hi) (by rw [zbk0];unfold scanBound;lia) fun h' tk hS hk=>?_
 have e0:its.toArray.size=ns.length:=by rw [zbk0];exact hl
 rw [e0,first_met]at hS
 refine⟨.ref _,_,I.laid (o:=HO.set (fun k=>(ddp ns).any (· == k)) (ddp ns).length) (t':=tk) (fun b u e=>hk b u (zbj8 e) e) (zbk1 _) hS,rfl,q _ (I.hok.fresh (zbk1 _))⟩
theorem zbh0:zn7 X (.builtin "len") (fun xs H Q => ∃(p:Addr) (S:Int→Bool) (n:Nat),xs=[.ref p]∧H p=some (.set S n)∧n≤100000∧Q (.int n) H):=by
 intro pins s σ H xs us Q I r h
 obtain⟨p,S,n,rfl,hH,hn,q⟩:=h
 obtain⟨u,rfl,ru⟩:=zz7 r
 cases ru
 have hS:s.heap.SetOf (intKind X.prog X.w) p S n:=I.hok _ _ hH
 obtain⟨ob,ho,ex,el,ep,tb,hd,_,_,en,hf⟩:=hS.objOf
 subst en
 have hfit:(el.size:Int)<2 ^ 63:=Int.lt_of_le_of_lt (show (el.size:Int)≤100000 by lia) (by decide)
 exact call_len_set ho ex hd hf hfit ⟨.int el.size,H,I.tok _,⟨_,rfl⟩,q⟩
noncomputable def zx8:List Ev→Option Ev:=fun rs=>match rs with
 |[r]=>(match r.d with
  |.lst ds=>(zk4 ds).bind fun ns=>if ns.length≤3000 then some (.cl (.int (ddp ns).length)) else none
  |_=>none)
 |_=>none
theorem ddp_le (ns:List Int):(ddp ns).length≤ns.length:=by
 rw [← first_met]
 exact firstMet_length_le _ _
theorem bt_set:bootBuiltins "set"=some (.type "set"):=by decide +kernel
theorem zau4 {p1 p2:Pos} (hc:X.calm=true) (hg1:Gl X "len") (hm1:X.mg "len"=none) (hg2:Gl X "set") (hm2:X.mg "set"=none) (ha:PE X a (dE X.K F fa)) (hst:zbk2 [a] X.env=[(false,eval a X.env)]:=by rfl) (hst2:zbk2 [.Call (.Name "set" p2) [a] [] pos2] X.env=[(false,eval (.Call (.Name "set" p2) [a] [] pos2) X.env)]:=by rfl)
  (hpl:(zbq3 pos2 (zbk2 [] X.env)).any (·.1)=false:=by rfl) (hpl2:(zbq3 pos (zbk2 [] X.env)).any (·.1)=false:=by rfl) :
  PE X (.Call (.Name "len" p1) [.Call (.Name "set" p2) [a] [] pos2] [] pos) (dE X.K F (dT1 zx8 (za2 fa dNil))):=by
 refine PE.imp (zar1 zbh0 hg1 hm1 PySem.boot_len (zf9 (zba5 (zbg6 hc) hg2 hm2 bt_set (zf9 ha zn9 hst) (by decide) (by decide) hst hpl) zn9 hst2) (by decide) (by decide) hst2 hpl2) ?_
 rintro σ H Q ⟨A,t,r,R,e,h⟩
 unfold dT1 za2 dNil at e
 cases e1:fa t with
 |none=>rw [e1]at e;cases e
 |some r1 =>
  rw [e1]at e
  simp only [zbj1]at e
  unfold zx8 at e
  simp only at e
  split at e
  case h_2=>cases e
  rename_i ds z
  cases e2:zk4 ds with
  |none=>rw [e2]at e;cases e
  |some ns =>
   rw [e2]at e
   simp only [zbj1]at e
   split at e
   case isFalse=>cases e
   rename_i hz
   cases e
   refine⟨A,t,r1,R,e1,fun x H1 gs q=>?_⟩
   have p:=q.full
   rw [z,zn4 e2]at p
   cases p with
   |@lst _ l ws h1 h2 =>
    rw [zh1 h2]at h1
    refine⟨l,ns,rfl,h1,hz,fun l2 hl2=>?_⟩
    have:=ddp_le ns
    exact⟨l2,_,_,rfl,zc6,by lia,h _ _ (gs.trans (zd2 hl2)) (.int _)⟩
end
end DL
namespace DL
open PySem.Spec L2
def sV:D→V
 |.bl b=>.bl b
 |.int i=>.int i
 |.str x=>.str x
 |_=>.non
theorem rep_sc {K:zbi5}{H:Hp}{d:D}{v:V} (r:Rep K H d v) (s:scD d=true):v=sV d:=by
 cases r with
 |non=>rfl
 |bl b=>rfl
 |int i=>rfl
 |str x=>rfl
 |tup _ _=>cases s
 |lst _ _=>cases s
 |dct _ _ _=>cases s
 |pdc _=>cases s
theorem sc_rep {K:zbi5}{H:Hp}:∀ {d:D},scD d=true→Rep K H d (sV d)
 |.non,_=>.non
 |.bl b,_=>.bl b
 |.int i,_=>.int i
 |.str x,_=>.str x
 |.tup _,s=>by cases s
 |.lst _,s=>by cases s
 |.dct _ _,s=>by cases s
 |.pdc _,s=>by cases s
theorem sc_flatD:∀ {d:D},scD d=true→flat d=true
 |.non,_=>rfl
 |.bl b,_=>rfl
 |.int i,_=>rfl
 |.str x,_=>rfl
 |.tup _,s=>by cases s
 |.lst _,s=>by cases s
 |.dct _ _,s=>by cases s
 |.pdc _,s=>by cases s
theorem zay7 {K:zbi5}{H:Hp}:∀ {ds:List D}{vs:List V},Reps K H ds vs→ds.all scD=true→vs=ds.map sV
 |_,_,.nil,_=>rfl
 |_,_,.cons h r,s=>by
  simp only [zbo7,zbj3]at s
  rw [rep_sc h s.1,zay7 r s.2];rfl
theorem zaq0 {K:zbi5}{H0 H:Hp}:∀ {ds:List D}{vs:List V}{B:List Addr},RepDs K H0 H ds vs B→ds.all scD=true→vs=ds.map sV∧B=[]
 |_,_,_,.nil,_=>⟨rfl,rfl⟩
 |_,_,_,.cons h r,s=>by
  simp only [zbo7,zbj3]at s
  obtain⟨a,b⟩:=zaq0 r s.2
  subst a b
  cases h with
  |flat f q=>rw [rep_sc q s.1];exact⟨rfl,rfl⟩
  |tup _ _=>exact absurd s.1 (by simp [scD])
  |lst _ _=>exact absurd s.1 (by simp [scD])
  |dct _ _ _=>exact absurd s.1 (by simp [scD])
  |pdc _=>exact absurd s.1 (by simp [scD])
theorem zap5 {K:zbi5}{H0 H:Hp}:∀ {ds:List D},ds.all scD=true→RepDs K H0 H ds (ds.map sV) []
 |[],_=>.nil
 |d::ds,s=>by
  simp only [zbo7,zbj3]at s
  exact .cons (B:=[]) (C:=[]) (.flat (sc_flatD s.1) (sc_rep s.1)) (zap5 s.2)
def zau0 (ps:List (Int×Int)) (q:Int×Int):List (Int×Int):=if q∈ps then ps else ps++[q]
theorem zaz7 (q:Int×Int):∀ps:List (Int×Int),((pkv ps).any fun kv=>decide (kv.1=[Sum.inl q.1,Sum.inl q.2]))=decide (q∈ps)
 |[]=>rfl
 |p::ps=>by
  have ih:=zaz7 q ps
  unfold pkv at ih ⊢
  simp only [zbk5,zbp0,ih]
  by_cases e:p=q
  ·subst e;simp
  ·have : ¬ (([Sum.inl p.1,Sum.inl p.2]:List Key)=[Sum.inl q.1,Sum.inl q.2]):=fun z=>by
    simp only [List.cons.injEq,Sum.inl.injEq,and_true]at z
    exact e (Prod.ext z.1 z.2)
   rw [decide_eq_false this,zby5]
   simp only [zbj4]
   by_cases m:q∈ps
   ·rw [decide_eq_true m,decide_eq_true (Or.inr m)]
   ·rw [decide_eq_false m,decide_eq_false (fun z=>z.elim (fun w=>e w.symm) m)]
theorem putK_pkv (ps:List (Int×Int)) (q:Int×Int):putK (pkv ps) [Sum.inl q.1,Sum.inl q.2] (V.bl true)=pkv (zau0 ps q):=by
 unfold putK zau0
 rw [zaz7]
 by_cases m:q∈ps
 ·rw [if_pos (decide_eq_true m),if_pos m]
  unfold pkv
  rw [zbs5]
  refine zbx9 fun p _=>?_
  show (if _ then _ else _)=_
  split<;>rfl
 ·rw [if_neg (by simpa using m),if_neg m]
  unfold pkv
  rw [zbu6]
  rfl
theorem pkv_len (ps:List (Int×Int)):(pkv ps).length=ps.length:=by simp [pkv]
theorem RS.placeP {K:zbi5}{F A:List Addr}{H:Hp}{t:Th}{σ:L2.St}{i:Nat}{ps:List (Int×Int)} (R:RS K F H A t σ) (e:t[i]?=some (.dp (.pdc ps))) :
  ∃p,σ[i]?=some (some (.ref p))∧p∈A∧H p=some (.dT (pkv ps)) ∧
   ∀H2 ps2,(∀b o,b≠p→H b=some o→H2 b=some o)→H2 p=some (.dT (pkv ps2))→∃A2,RS K F H2 A2 (t.set i (.dp (.pdc ps2))) σ∧Gr A H A2 H2:=by
 obtain⟨v,B,a1,a2,a3,a4,a5⟩:=R.rel.focusDp R.nd e
 cases a4 with
 |flat f _=>simp [flat]at f
 |@pdc _ p h =>
  have pA:p∈A:=a2 p (by simp)
  refine⟨p,a1,pA,h,fun H2 ps2 kp hp=>?_⟩
  have hh:Same (hide (A++F) H) (hide (A++F) H2):=fun b o q=>by
   obtain⟨n,q⟩:=zn2 q
   exact zc7 (kp b o (fun z=>n (zbi7 _ (z ▸ pA))) q) n
  obtain⟨A2,d1,d3⟩:=a5 _ _ (.pdc ps2) [p] hh (.pdc hp) (List.Sublist.refl _) (fun q hq nq o w=>kp q o (by simpa using nq) w)
  have sub:∀x∈A2,x∈A:=fun x hx=>d3.subset hx
  have mu:Lists H2 (A++F):=fun q hq=>by
   by_cases z:q=p
   ·exact⟨mT _,by rw [z];exact hp⟩
   ·obtain⟨us,w⟩:=R.mu q hq
    exact⟨us,kp q _ z w⟩
  refine⟨A2,⟨fun q hq=>mu q ?_,R.nd.sublist d3,fun q hq=>R.dj q (sub q hq),RSl.mono (zb5 _ fun a z=>?_) d1 fun _ _ _ h=>h⟩,fun b o n h=>?_,fun b hb=>?_,fun b hb=>.inl (sub b hb)⟩
  ·exact (zbj2.mp hq).elim (fun z=>zbi7 _ (sub q z)) (fun z=>zbi4 _ z)
  ·exact (zbj2.mp z).elim (fun z=>zbi7 _ (sub a z)) (fun z=>zbi4 _ z)
  ·exact kp b o (fun z=>n (z ▸ pA)) h
  ·obtain⟨us,w⟩:=mu b (zbi7 _ hb)
   rw [w];simp
section
variable {X:Cx}{F:List Addr}{a b c o:Expr}{es:List Expr}{fa fb fc:DE}{ga:DA}{pos pos1:Pos}
def dNewP:DE:=fun _=>some (.dn (.pdc []))
theorem ped_newP:PE X (.Dict [] [] pos) (dE X.K F dNewP):=by
 refine PE.imp pe_dnewT ?_
 rintro σ H Q ⟨A,t,r,R,e,h⟩
 cases e
 intro p hp
 refine h _ _ (zd2 hp) ⟨[p],by simp,fun b hb=>by simp at hb;subst hb;exact hp,.pdc zc6⟩
noncomputable def spP (G:List (Int×Int)→List Int→Option (List (Int×Int))):Sp:=fun vs H Q _ => ∃(p:Addr) (ps ps':List (Int×Int)) (ns:List Int),vs=.ref p::ns.map V.int∧H p=some (.dT (pkv ps))∧G ps ns=some ps' ∧
 ∀H',(∀b o,b≠p→H b=some o→H' b=some o)→H' p=some (.dT (pkv ps'))→Q .non H'
structure CalP (P:Program) (w:World) (K:zbi5) (mg:Str→Option Value) (base:BHeap) (x:Str) (k:Nat) (G:List (Int×Int)→List Int→Option (List (Int×Int))):Prop where
 ex:∃(a:Addr) (fd:FuncData) (ps:List Str),mg x=some (.ref a)∧zbo3 K (.ref a)=true∧L2.Binds K fd ps []∧FnOk P w K mg base CX0 k a fd ps (spP G)
theorem Df.calP {P:Program}{w:World}{K:zbi5}{mg:Str→Option Value}{base:BHeap}{x:Str}{st:Stmt}{ps:List Str}{a:Addr}{fd:FuncData}{k:Nat}{G:List (Int×Int)→List Int→Option (List (Int×Int))} (d:Df K mg x st ps a fd) (h:FnOk P w K mg base CX0 k a fd ps (spP G)):CalP P w K mg base x k G :=
 ⟨a,fd,ps,d.mgx,d.fn.kp,d.bd,h⟩
noncomputable def zac0 (i:Nat) (G:List (Int×Int)→List Int→Option (List (Int×Int))) (ga:DA):DS:=fun t=>match t[i]? with
 |some (.dp (.pdc ps))=>(ga t).bind fun rs=>(zk4 (rs.map Ev.d)).bind fun ns=>(G ps ns).map fun ps'=>.nx (t.set i (.dp (.pdc ps')))
 |_=>none
theorem zae7 {K:zbi5}{F A:List Addr}{H H':Hp}:∀ {rs:List Ev}{vs:List V}{ns:List Int},RepEvs K F A H H' rs vs→zk4 (rs.map Ev.d)=some ns→vs=ns.map V.int
 |_,_,ns,.nil,e=>by cases e;rfl
 |_,_,ns,.cons (r:=r) (rs:=rs) h q,e=>by
  have e':=zn4 e
  cases ns with
  |nil=>simp at e'
  |cons n ns =>
   simp only [zbk5,List.cons.injEq]at e'
   have p:=h.full
   rw [e'.1]at p
   cases zd1 p
   rw [zae7 q (by rw [e'.2];exact zk2 ns)]
   rfl
theorem zag9 {k:Nat}{G:List (Int×Int)→List Int→Option (List (Int×Int))}{x y:Str}{p py:Pos} (i:Nat) (c:CalP X.prog X.w X.K X.mg X.base x k G) (hr:Room k X.A) (ha:PA X es (dA X.K F ga)) (hN:X.N[i]?=some y:=by rfl) (hv:Vis X.env.scope y:=by first | exact Or.inl rfl | exact Or.inr (Or.inl rfl) |exact Or.inr (Or.inr rfl)) (hd:(y ==("__debug__":Str))=false:=by decide)
  (hcd:(y ==("__classdict__":Str))=false:=by decide) (hg:Gl X x:=by rfl) (hdb:(x ==("__debug__":Str))=false:=by decide)
  (he:zbk2 (.Name y py::es) X.env=(false,eval (.Name y py) X.env)::zbk2 es X.env:=by rfl) (hpl:(zbq3 pos1 (zbk2 es X.env)).any (·.1)=false:=by rfl)
  (hs:swapsWith (.Call (.Name x p) (.Name y py::es) [] pos1) none pos.line X.env=pure false:=by rfl) :
  PS X (.Expr (.Call (.Name x p) (.Name y py::es) [] pos1) pos) (dS X.K F (zac0 i G ga)):=by
 obtain⟨f,fd,ps,h1,h2,h3,h4⟩:=c.ex
 refine PS.imp (zad6 (zba6 h4 hr hg h1 h2 h3 .nil (E:=E0) pass0 (zf9 (zo2 (i:=i) hN hv hd hcd) ha he) hdb he hpl) hs) ?_
 rintro E σ H ⟨A,t,o,R,e,h⟩
 unfold zac0 at e
 split at e
 case h_2=>cases e
 rename_i pz z
 cases e1:ga t with
 |none=>rw [e1]at e;cases e
 |some rs =>
  rw [e1]at e
  simp only [zbj1]at e
  cases e2:zk4 (rs.map Ev.d) with
  |none=>rw [e2]at e;cases e
  |some ns =>
   rw [e2]at e
   simp only [zbj1]at e
   cases e3:G pz ns with
   |none=>rw [e3]at e;cases e
   |some pz' =>
    rw [e3]at e
    cases e
    obtain⟨q,a1,a2,a3,a4⟩:=R.placeP z
    refine⟨_,a1,A,t,rs,R,e1,fun vs H1 gs q1=>?_⟩
    show spP G ((.ref q::vs)++[]) H1 _ E0
    rw [zbq9,zae7 q1 e2]
    refine⟨q,pz,pz',ns,rfl,gs _ _ a3,e3,fun H' kp hp=>?_⟩
    obtain⟨A2,R2,gr⟩:=a4 H' pz' (fun b o n w=>kp b o n (gs _ _ w)) hp
    exact h _ _ _ gr R2
end
end DL
namespace DL
open PySem.Spec L2
noncomputable def zal8 (m k:Int):Int×Int:=((if (k.fdiv m).fmod m<k.fmod m then (k.fdiv m).fmod m else k.fmod m),(if k.fmod m<(k.fdiv m).fmod m then (k.fdiv m).fmod m else k.fmod m))
noncomputable def putG (ps:List (Int×Int)) (ns:List Int):Option (List (Int×Int)):=match ns with
 |[m,k]=>if 0<m∧sm m=true∧ps.length<100000 then some (if k.fmod m=(k.fdiv m).fmod m then ps else zau0 ps (zal8 m k)) else none
 |_=>none
section
variable {X:Cx}{F:List Addr}{e1 e2 c o ke kv:Expr}{pos:Pos}
noncomputable def tPutB (K:zbi5) (f1 f2:DE) (ft:DT) (gk:DA) (fv:DE):TS:=tSeq (tAsg (dE K [] f1) (zbd7 3)) (tSeq (tAsg (dE K [] f2) (zbd7 4)) (tIfS (dT K [] ft) (sDPut (tVar 0) (tTup (dA K [] gk)) (dE K [] fv)) tNext))
theorem put_runs {K:zbi5}{H:Hp}{Q:VK}{p:Addr}{ps ps':List (Int×Int)}{m k:Int}{f1 f2:DE}{ft:DT}{gk:DA}{fv:DE} (hp:H p=some (.dT (pkv ps))) (hg:putG ps [m,k]=some ps')
  (h1:∀s3 s4,f1 [.dp (.pdc ps),.val (.int m),.val (.int k),s3,s4]=some (.cl (.int (k.fmod m)))) (h2:∀s3 s4,f2 [.dp (.pdc ps),.val (.int m),.val (.int k),s3,s4]=some (.cl (.int ((k.fdiv m).fmod m))))
  (h3:∀a b:Int,ft [.dp (.pdc ps),.val (.int m),.val (.int k),.val (.int a),.val (.int b)]=some (!decide (a=b)))
  (h4:∀a b:Int,gk [.dp (.pdc ps),.val (.int m),.val (.int k),.val (.int a),.val (.int b)]=some [.cl (.int (if b<a then b else a)),.cl (.int (if a<b then b else a))])
  (h5:∀a b:Int,fv [.dp (.pdc ps),.val (.int m),.val (.int k),.val (.int a),.val (.int b)]=some (.cl (.bl true)))
  (cont:∀H',(∀b o,b≠p→H b=some o→H' b=some o)→H' p=some (.dT (pkv ps'))→Q .non H') :
  tPutB K f1 f2 ft gk fv { nx:=fun _ H'=>Q .non H',rt:=Q } [some (.ref p),some (.int m),some (.int k),none,none] H:=by
 unfold putG at hg
 simp only at hg
 split at hg
 case isFalse=>cases hg
 rename_i hm
 have hg:=Option.some.inj hg
 have rs:∀(H1:Hp) (t3:Th) (σ3:L2.St),H1 p=some (.dT (pkv ps))→RSl K (hide ([p]++[]) H1) H1 t3 σ3 []→RS K [] H1 [p] (.dp (.pdc ps)::.val (.int m)::.val (.int k)::t3) (some (.ref p)::some (.int m)::some (.int k)::σ3):=fun H1 t3 σ3 hq r =>
  ⟨fun q hq'=>by simp at hq';subst hq';exact⟨mT _,hq⟩,by simp,fun q _=>by simp,.dp (B:=[p]) (.pdc hq) (.val (.int m) (.val (.int k) r))⟩
 refine⟨[p],_,_,rs H [.no,.no] [none,none] hp (.no (.no .nil)),h1 _ _,fun v H1 g1 q1=>?_⟩
 have ev:=q1.full
 cases zd1 ev
 refine⟨[p],_,_,rs H1 [.val (.int (k.fmod m)),.no] [some (.int (k.fmod m)),none] (g1 _ _ hp) (.val (.int _) (.no .nil)),h2 _ _,fun v H2 g2 q2=>?_⟩
 have ev:=q2.full
 cases zd1 ev
 have hp2:H2 p=some (.dT (pkv ps)):=g2 _ _ (g1 _ _ hp)
 have R2:=fun H' (hq:H' p=some (.dT (pkv ps)))=>rs H' [.val (.int (k.fmod m)),.val (.int ((k.fdiv m).fmod m))] [some (.int (k.fmod m)),some (.int ((k.fdiv m).fmod m))] hq (.val (.int _) (.val (.int _) .nil))
 refine⟨[p],_,_,R2 H2 hp2,h3 _ _,fun H3 g3=>?_⟩
 have hp3:=g3 _ _ hp2
 have s3:∀b o,H b=some o→H3 b=some o:=fun b o w=>g3 _ _ (g2 _ _ (g1 _ _ w))
 by_cases z:k.fmod m=(k.fdiv m).fmod m
 ·rw [decide_eq_true z]
  refine iteF ?_
  rw [if_pos z]at hg
  subst hg
  exact cont H3 (fun b o _ w=>s3 b o w) hp3
 ·rw [decide_eq_false z]
  refine iteT ?_
  rw [if_neg z]at hg
  subst hg
  refine⟨[p],_,_,R2 H3 hp3,h5 _ _,fun v H4 g4 q4=>?_⟩
  have ev:=q4.full
  cases ev with
  |bl =>
   refine⟨_,rfl,[p],_,_,R2 H4 (g4 _ _ hp3),h4 _ _,fun vs H5 g5 q5=>?_⟩
   have evs:=zae7 q5 (ns:=[(zal8 m k).1,(zal8 m k).2]) rfl
   subst evs
   refine⟨by simp [sizeLine_eq],fun b hb=>?_⟩
   have hp5:=g5 _ _ (g4 _ _ hp3)
   have nb:p≠b:=fun w=>by rw [w,hb]at hp5;cases hp5
   refine⟨p,_,rfl,DPut.t (k:=[Sum.inl (zal8 m k).1,Sum.inl (zal8 m k).2]) (by rw [zd3 nb];exact hp5) zc6 (by rw [pkv_len];exact zbk6 hm.2.2 (by rw [sizeLine_eq];decide)),?_⟩
   refine cont _ (fun b' o n w=>?_) (by rw [zc6,putK_pkv])
   rw [zd3 n]
   have w5:=g5 _ _ (g4 _ _ (s3 _ _ w))
   rw [zd3 (fun q=>by rw [q,hb]at w5;cases w5)]
   exact w5
theorem zay9 {ps ps':List (Int×Int)}{ns:List Int} (h:putG ps ns=some ps'):∃m k,ns=[m,k]:=by
 unfold putG at h
 split at h
 ·exact⟨_,_,rfl⟩
 ·cases h
theorem put_len {p:Addr}{ps ps':List (Int×Int)}{ns:List Int} (h:putG ps ns=some ps'):(V.ref p::ns.map V.int).length=3:=by
 obtain⟨m,k,rfl⟩:=zay9 h
 rfl
def fP1:DE:=(d2 (kI cMod fun i j=>.int (i.fmod j)) (dVar 2) (dVar 1))
def fP2:DE:=(d2 (kI cMod fun i j=>.int (i.fmod j)) (d2 (kI cDiv fun i j=>.int (i.fdiv j)) (dVar 2) (dVar 1)) (dVar 1))
def ftP:DT:=(dBo (d2 kNe (dVar 3) (dVar 4)))
noncomputable def gkP:DA:=(za2 (dT1 (k2I fun i j=>if j<i then j else i) (za2 (dVar 3) (za2 (dVar 4) dNil))) (za2 (dT1 (k2I fun i j=>if j > i then j else i) (za2 (dVar 3) (za2 (dVar 4) dNil))) dNil))
def fvP:DE:=dC (.bl true)
theorem put_law {K:zbi5}{H:Hp}{Q:VK}{p:Addr}{ps ps':List (Int×Int)}{m k:Int} (hp:H p=some (.dT (pkv ps))) (hg:putG ps [m,k]=some ps')
  (cont:∀H',(∀b o,b≠p→H b=some o→H' b=some o)→H' p=some (.dT (pkv ps'))→Q .non H') :
  tPutB K fP1 fP2 ftP gkP fvP { nx:=fun _ H'=>Q .non H',rt:=Q } [some (.ref p),some (.int m),some (.int k),none,none] H:=by
 have hm:0<m∧sm m=true:=by
  unfold putG at hg
  simp only at hg
  split at hg
  ·rename_i h;exact⟨h.1,h.2.1⟩
  ·cases hg
 have m0 : ¬ m=0:=by lia
 have cm:∀a:Int,cMod a m=true:=fun a=>by simp [cMod,m0]
 have cd:∀a:Int,cDiv a m=true:=fun a=>by simp [cDiv,m0,hm.2]
 refine put_runs hp hg (fun _ _=>?_) (fun _ _=>?_) (fun a b=>?_) (fun a b=>rfl) (fun a b=>rfl) cont
 ·show kI cMod (fun i j=>.int (i.fmod j)) (.cl (.int k)) (.cl (.int m))=_
  simp [kI,Ev.d,cm]
 ·show Option.bind (kI cDiv (fun i j=>.int (i.fdiv j)) (.cl (.int k)) (.cl (.int m))) (fun r=>kI cMod (fun i j=>.int (i.fmod j)) r (.cl (.int m)))=_
  simp [kI,Ev.d,cm,cd]
 ·unfold ftP dBo
  rw [show d2 kNe (dVar 3) (dVar 4) [.dp (.pdc ps),.val (.int m),.val (.int k),.val (.int a),.val (.int b)]=some (.cl (.bl (!eqD (.int a) (.int b)))) from rfl]
  show some (!eqD (.int a) (.int b))=_
  simp [eqD]
end
end DL
namespace DL
open PySem.Spec L2
def cmpI (mx:Bool) (i j:Int):Bool:=if mx then decide (i > j) else decide (i<j)
def lexI (mx:Bool):List Int→List Int→Bool
 |i::r,j::q=>if decide (i=j) then lexI mx r q else cmpI mx i j
 |_,_=>false
noncomputable def cmpD (mx:Bool):D→D→Option Bool
 |.int i,.int j=>some (cmpI mx i j)
 |.tup xs,.tup ys=>(zk4 xs).bind fun is=>(zk4 ys).bind fun js=>if is.length=js.length then some (lexI mx is js) else none
 |_,_=>none
def pD (K:zbi5) (mx:Bool):V→V→Hp→Bool→Prop:=fun y z H c => ∃d e,Rep K H d y∧Rep K H e z∧cmpD mx d e=some c
noncomputable def zbh7 (mx:Bool) (fb:DE) (cs:List D):D→D→List D→Option D
 |b,_,[]=>some b
 |b,k,d::ds=>(fb (.val d::cs.map Sl.val)).bind fun r=>if flat r.d then (cmpD mx r.d k).bind fun c=>if c then zbh7 mx fb cs d r.d ds else zbh7 mx fb cs b k ds else none
noncomputable def dKey (mx:Bool) (cap:List Nat) (fa fb:DE):DE:=fun t=>(fa t).bind fun r=>(capD t cap).bind fun c=>match r.d with
 |.lst (d::ds)=>if (zk4 (d::ds)).isSome then (fb (.val d::c.2.map Sl.val)).bind fun k=>if flat k.d then (zbh7 mx fb c.2 d k.d ds).map Ev.cl else none else none
 |_=>none
end DL
namespace L2
open PySem.Spec PySem.W
def lamOf (x:Str):Str:=x++".<locals>."++"<lambda>"
theorem zai5 {β:Type}:∀ {l:List (Nat×β)}{a:Nat}{o:β},l.lookup a=some o→(a,o)∈l
 |[],_,_,e=>by cases e
 |(b,x)::r,a,o,e=>by
  rw [zbm0]at e
  cases hb:a == b with
  |true=>rw [hb]at e;cases e;rw [eq_of_beq hb];exact .head _
  |false=>rw [hb]at e;exact .tail _ (zai5 e)
def tbOf (K:Frag) (names:List Str):List (Addr×Str):=names.filterMap fun x=>(tabIn K x).map fun q=>(q.2,lamOf x)
theorem of_tbOf {K:Frag}{names:List Str}{p:Addr×Str} (h:p∈tbOf K names):∃x∈names,∃c,tabIn K x=some (c,p.1):=by
 obtain⟨x,hx,e⟩:=zbu8.mp h
 cases q:tabIn K x with
 |none=>rw [q]at e;cases e
 |some r=>rw [q]at e;cases e;exact⟨x,hx,r.1,q⟩
def TbOk (K:Frag) (names:List Str):Prop := ∀p∈tbOf K names,(tbOf K names).lookup p.1=some p.2∧K.lookup p.1=none
theorem tbOk_nil {K:Frag}:TbOk K []:=fun p hp=>by cases hp
theorem zbc4 {P:Program}{w:World}{K:Frag}{mg mb:Str→Option Value}{CX:CXT}{k:Nat}{fa a:Addr}{fd:FuncData}{x:Str}{sp:Sp}{s₁:zbj7}{vs:List Value}{ns:List Int}{names:List Str}
  (KX:K.In s₁.heap) (hns:s₁.heap.Ns mainGlobals mg) (hb:s₁.heap.Ns builtinsNs mb) (hbb:∀x:Str,x≠"__name__"→mb x=bootBuiltins x) (hlim:s₁.heap.NoLimit)
  (hbm:∃(bm:Addr) (ob:Obj),mg "__builtins__"=some (.ref bm)∧bm≠builtinsNs∧s₁.heap.get? bm=some ob∧ob.cls=.type "module"∧ob.dict=some builtinsNs∧ob.data=.plain) (hg:s₁.gens = #[])
  (ha:s₁.heap.get? a=some { cls:=.type "list",data:=.seq vs.toArray }) (hi:IntsAre vs ns) (hl:ns.length≤sizeLine) (hr:Room k callerA)
  (hT:∀x∈names,∀c P,tabIn K x=some (c,P)→CodeHd s₁.heap c P∧s₁.heap.get? P=some (tabObj #[])) (hn:TbOk K names)
  (F:∀base:BHeap,base.tabs=tbOf K names→K.In base→base.Ns mainGlobals mg→(∀x∈names,∀c P,tabIn K x=some (c,P)→CodeHd base c P)→FnOk P w K mg base CX k fa fd [x] sp)
  (hbind:∀(s:zbj7) (u:Value),BindsTo s fd ⟨[u],[]⟩ [(x,u)]) (hsp:∀H:Hp,SqL K H a (ns.map V.int)→sp [.ref a] H (fun v _=>v=.bl true) fun _ _ _=>False)
  (hCX:∀H e s',CX [] H s₁ (fun _ _ _=>False) e s'→False) :
  codeAny (model P w) callerA (.call (.ref fa) ⟨[.ref a],[]⟩) (fun r s'=>r=.ok (.ret (.bool true))∧OldK s₁.heap s'.heap∧s'.os=s₁.os∧AllBare s'.gens) s₁:=by
 have rv:=zv9 hi
 have lenV:=hi.length
 have tabH:∀p∈tbOf K names,∃c,CodeHd s₁.heap c p.1∧s₁.heap.get? p.1=some (tabObj #[]):=fun p hp=>by
  obtain⟨y,hy,c,e⟩:=of_tbOf hp
  exact⟨c,hT y hy c p.1 e⟩
 have core:∀H:Hp,SqL K H a (ns.map V.int)→HOk P w H s₁.heap→(∀p∈tbOf K names,H p.1=some (.tbl p.2)) →
   (∀b o,H b=some o→(b=a∧K.lookup a=none∧∃ob xs,o=.frz ob (.lst xs))∨∃q,o=.tbl q∧(b,q)∈tbOf K names) →
   codeAny (model P w) callerA (.call (.ref fa) ⟨[.ref a],[]⟩) (fun r s'=>r=.ok (.ret (.bool true))∧OldK s₁.heap s'.heap∧s'.os=s₁.os∧AllBare s'.gens) s₁:=by
  intro H hS hok hTB hH
  have free:∀ {b:Addr}{o:Obj},s₁.heap.get? b=some o→(o.cls=.type "list"→False)→o≠tabObj #[]→H b=none:=fun {b o} e n1 n2=>by
   cases q:H b with
   |none=>rfl
   |some u =>
    rcases hH b u q with ⟨rfl,_⟩ | ⟨qq,rfl,hm⟩
    ·rw [ha]at e;cases e;exact (n1 rfl).elim
    ·obtain⟨c,_,e2⟩:=tabH _ hm
     have e2:s₁.heap.get? b=some (tabObj #[]):=e2
     rw [e]at e2;cases e2;exact (n2 rfl).elim
  have nsK:∀ {b:Addr}{m:Str→Option Value},s₁.heap.Ns b m→(hidT s₁.heap H).Ns b m:=fun {b m} ⟨o,es,ep,e,d,r⟩=>⟨o,es,ep,zv6 e (by
   cases q:H b with
   |none=>rfl
   |some u =>
    rcases hH b u q with ⟨rfl,_⟩ | ⟨qq,rfl,hm⟩
    ·rw [ha]at e;cases e;cases d
    ·obtain⟨c,_,e2⟩:=tabH _ hm
     have e2:s₁.heap.get? b=some (tabObj #[]):=e2
     rw [e]at e2;cases e2;cases d),d,r⟩
  have hKb:K.In (hidT s₁.heap H):=fun b o e=>zv6 (KX b o e) (by
   cases q:H b with
   |none=>rfl
   |some u =>
    rcases hH b u q with ⟨rfl,n,_⟩ | ⟨qq,rfl,hm⟩
    ·rw [n]at e;cases e
    ·have n:K.lookup b=none:=(hn _ hm).2
     rw [n]at e;cases e)
  have hM:Mod K mg ⟨hidT s₁.heap H,tbOf K names⟩:=⟨hKb,nsK hns,⟨mb,nsK hb,hbb⟩,let ⟨mc,h1,h2⟩:=hlim;⟨mc,nsK h1,h2⟩,by
   obtain⟨bm,ob,b1,b2,b3,b4,b5,b6⟩:=hbm
   exact⟨bm,ob,b1,b2,zv6 b3 (free b3 (fun z=>by rw [b4]at z;simp at z) fun z=>by rw [z]at b4;cases b4),b4,b5,b6⟩⟩
  have hCd:∀x∈names,∀c P,tabIn K x=some (c,P)→CodeHd (hidT s₁.heap H) c P:=fun x hx c P e=>by
   obtain⟨⟨o,vs,file,tf,flags,tg,inF,text,tt,e1,r1,r⟩,_⟩:=hT x hx c P e
   exact⟨o,vs,file,tf,flags,tg,inF,text,tt,zv6 e1 (free e1 (fun z=>by rw [r1]at z;simp at z) fun z=>by rw [z]at r1;cases r1),r1,r⟩
  have e0:Env0 P w K mg ⟨hidT s₁.heap H,tbOf K names⟩ callerA [] s₁ H:=⟨rfl,hM,fun b o e=>of_hidT e,Nat.le_of_eq (zbd4 _ _),trivial,fun b hb=>absurd (show b∈([]:List Addr) from hb) (by simp),hok,.of_eq hg,hTB⟩
  refine codeAny_mono ((F ⟨hidT s₁.heap H,tbOf K names⟩ rfl hKb (nsK hns) hCd).run callerA [] s₁ H ⟨[.ref a],[]⟩ [.ref a] [.ref a] _ _ hr e0 (hbind s₁ (.ref a)) (.cons rfl .nil) (hsp H hS)) fun r s' h=>?_
  cases r with
  |error e=>exact (hCX H e s' h).elim
  |ok fl =>
   cases fl with
   |next=>exact False.elim h
   |brk=>exact False.elim h
   |cont=>exact False.elim h
   |ret u =>
    obtain⟨v,H',os,bare,un,hok',r',q⟩:=h
    have q':v=.bl true:=q
    subst q'
    obtain rfl:u=Value.bool true:=r'
    have kp:∀b o,s₁.heap.get? b=some o→s'.heap.get? b=some o∨∃qq,H b=some (.tbl qq):=fun b o e=>by
     cases q:H b with
     |none=>exact .inl (un.keep b o e q (by intro z;exact absurd (show b∈([]:List Addr) from z) (by simp)) (by simp))
     |some u =>
      rcases hH b u q with ⟨rfl,_,ob,xs,rfl⟩ | ⟨qq,rfl,hm⟩
      ·obtain⟨e1,_⟩:=hok b _ q
       obtain⟨e2,_⟩:=hok' b _ (un.frzs b ob _ q)
       rw [e]at e1;cases e1
       exact .inl e2
      ·exact .inr ⟨qq,rfl⟩
    refine⟨rfl,⟨fun b o e=>?_,fun b o e=>?_⟩,os,bare⟩
    ·rcases kp b o e with z | ⟨qq,z⟩
     ·exact .inl z
     ·rcases hH b _ z with ⟨_,_,ob,xs,z2⟩ | ⟨q2,z2,hm⟩
      ·cases z2
      ·obtain⟨c,C,e2⟩:=tabH _ hm
       have e2:s₁.heap.get? b=some (tabObj #[]):=e2
       rw [e]at e2
       cases e2
       obtain⟨ps,e3,_⟩:=hok' b _ (un.tbls b _ z)
       have C:CodeHd s₁.heap c b:=C
       exact .inr (.inl ⟨(C.tab e).isCodeTable,rfl, #[],ps,rfl,by simpa using e3⟩)
    ·rcases kp b o e with z | ⟨qq,z⟩
     ·exact⟨o,z⟩
     ·obtain⟨ps,e3,_⟩:=hok' b _ (un.tbls b _ z)
      exact⟨_,e3⟩
 have tabO:∀(H:Hp) (p:Addr×Str),p∈tbOf K names→ObjOk P w H s₁.heap p.1 (.tbl p.2):=fun H p hp=>by
  obtain⟨c,_,e⟩:=tabH p hp
  exact⟨#[],e,trivial,fun pos cv z=>by cases z⟩
 have lk:∀b q,(tbOf K names).lookup b=some q→(b,q)∈tbOf K names:=fun b q e=>zai5 e
 have aT:∀q,(a,q)∈tbOf K names→False:=fun q hm=>by
  obtain⟨c,_,e⟩:=tabH _ hm
  have e:s₁.heap.get? a=some (tabObj #[]):=e
  rw [ha]at e;cases e
 cases hk:K.lookup a with
 |some o =>
  have e:=KX a o hk
  rw [ha]at e
  cases e
  refine core (fun b=>((tbOf K names).lookup b).map HO.tbl) (.inr ⟨_,vs.toArray,_,hk,rfl,rfl,rfl,by rw [zbk0,lenV];exact hl,by simpa using rv⟩) (fun b u z=>?_) (fun p hp=>by simp only [(hn p hp).1,zbn5]) fun b u z=>?_
  ·cases q:(tbOf K names).lookup b with
   |none=>simp only [q]at z;cases z
   |some qq=>simp only [q]at z;cases z;exact tabO _ _ (lk b qq q)
  ·cases q:(tbOf K names).lookup b with
   |none=>simp only [q]at z;cases z
   |some qq=>simp only [q]at z;cases z;exact .inr ⟨qq,rfl,lk b qq q⟩
 |none =>
  refine core (fun b=>if b=a then some (.frz { cls:=.type "list",data:=.seq vs.toArray } (.lst (ns.map V.int))) else ((tbOf K names).lookup b).map HO.tbl) (.inl (.inr ⟨{ cls:=.type "list",data:=.seq vs.toArray },if_pos rfl⟩)) (fun b u z=>?_) (fun p hp=>?_) fun b u z=>?_
  ·by_cases hb:b=a
   ·have z':=(if_pos hb).symm.trans z
    cases z'
    subst hb
    exact⟨ha,by rw [zbk3];exact hl,vs,_,rv,ha⟩
   ·have z':=(if_neg hb).symm.trans z
    cases q:(tbOf K names).lookup b with
    |none=>simp only [q]at z';cases z'
    |some qq=>simp only [q]at z';cases z';exact tabO _ _ (lk b qq q)
  ·have:p.1≠a:=fun e=>aT p.2 (by rw [← e];exact hp)
   simp only [this,if_false,(hn p hp).1,zbn5]
  ·by_cases hb:b=a
   ·have z':=(if_pos hb).symm.trans z
    cases z'
    exact .inl ⟨hb,hk,_,_,rfl⟩
   ·have z':=(if_neg hb).symm.trans z
    cases q:(tbOf K names).lookup b with
    |none=>simp only [q]at z';cases z'
    |some qq=>simp only [q]at z';cases z';exact .inr ⟨qq,rfl,lk b qq q⟩
end L2
namespace L2
open PySem.W
theorem walk_ofT {l:zca5}{n k:Nat}{q:Program}{loose:List Str}{XP:(Str→Option Value)→Heap→Prop}{YP:World→Heap→Prop}{d:DefRec}{K:Params→zbi5}{CX:World→CXT}{sp:World→Sp}{x:Str}{names:List Str}
  (hn:l.most=some n) (hn2:n≤sizeLine) (hdf:d.params.defaults=[]) (hr:Room k callerA)
  (hY:∀(w:World) (h:Heap),YP w h→(K w.params).In h) (hrec:∀x∈names,∃dr,(recsOf q).find? (fun e=>e.name == x)=some dr)
  (F:∀(w:World) (mg:Str→Option Value) (fa:Addr) (h:Heap),(K w.params).In h→h.Ns mainGlobals mg→mg d.name=some (.ref fa) →
   TbOk (K w.params) names∧∃fd:FuncData,(∀(s:zbj7) (u:Value),BindsTo s fd ⟨[u],[]⟩ [(x,u)]) ∧
    ∀base:BHeap,base.tabs=tbOf (K w.params) names→(K w.params).In base→base.Ns mainGlobals mg→(∀x∈names,∀c P,tabIn (K w.params) x=some (c,P)→CodeHd base c P)→FnOk l.prog w (K w.params) mg base (CX w) k fa fd [x] (sp w))
  (hsp:∀(w:World) (H:Hp) (a:Addr) (ns:List Int),ns.length≤n→(∀i∈ns,i.natAbs<bndS)→SqL (K w.params) H a (ns.map V.int)→sp w [.ref a] H (fun v _=>v=.bl true) fun _ _ _=>False)
  (hCX:∀(w:World) (H:Hp) (s:zbj7) (e:Value) (s':zbj7),CX w [] H s (fun _ _ _=>False) e s'→False) :
  zce2 q loose XP YP l.row.toRowW d [] (fun f vs=>PySem.call f vs):=by
 intro w s₀ s₁ mg mb G Y fa o pm cd doc dV kV ho hd hcd hD hmg hg args vals as hpre hlay hrd hwl hlo
 obtain rfl:dV=.none:=Dflts.none hD hdf
 obtain rfl:kV=.none:=Dflts.noKw hD
 obtain⟨a,vs,ns,rfl,rfl,hobj,hints,hlen⟩:=Att.script_of hn hpre hwl
 have hb:=bnd_of hlay
 have KX:=hY w _ Y
 obtain⟨hok,fd,hbd,hF⟩:=F w mg fa _ KX G.T.g hmg
 refine enter_call (codeAny_mono (zbc4 KX G.T.g G.T.b G.T.builtins G.T.nolimit G.T.bmain hg hobj hints (zbn6 hlen hn2) hr (fun x hx c P e=>by
  obtain⟨dr,h⟩:=hrec x hx
  exact tab_of G.T KX h e) hok hF hbd (fun H hS=>hsp w H a ns hlen hb hS) fun H e s'=>hCX w H s₁ e s') fun r s' hq=>?_)
 obtain⟨rfl,h2,h3,h4⟩:=hq
 exact⟨.inl ⟨.bool true,.bool true,[],rfl,fun _=>rfl,.bool true,Att.post_true l _,fun _=>⟨List.Pairwise.nil,fun _ hm=>(nomatch hm)⟩⟩,h2,h3,h4⟩
end L2
namespace DL
open PySem.Spec L2
def isSt:Expr→Bool
 |.Starred _ _=>true
 |_=>false
theorem zd0 {a:Expr}{es:List Expr}{env:Env} (h:isSt a=false):zbk2 (a::es) env=(false,eval a env)::zbk2 es env:=by
 cases a<;>first | rfl | cases h
theorem RS.putOwned {K:zbi5}{F A:List Addr}{H:Hp}{t:Th}{σ:L2.St}{i:Nat}{d:D}{v:V}{B:List Addr} (R:RS K (B++F) H A t σ) (nb:B.Nodup) (dj:∀b∈B,b∉F) (r:RepD K (hide (A++(B++F)) H) H d v B) (hi:i<t.length) :
  ∃A',(∀x∈A',x∈B∨x∈A)∧RS K F H A' (t.set i (.dp d)) (σ.set i (some v)):=by
 have lb:=r.lists
 obtain⟨A2,r2,sub2,nd2⟩:=RSl.setAny (s:=.dp d) (v:=v) (B:=B) (fun q=>.dp r q) i R.rel hi
 refine⟨A2,sub2,⟨fun p hp=>?_,nd2 R.nd nb (fun b hb z=>R.dj b z (zbi7 _ hb)),fun p hp=>?_,RSl.mono (zb5 H fun x hx=>?_) r2 fun _ _ _ w=>w⟩⟩
 ·rcases zbj2.mp hp with z | z
  ·rcases sub2 p z with w | w
   ·exact lb p w
   ·exact R.mu p (zbi7 _ w)
  ·exact R.mu p (zbi4 _ (zbi4 _ z))
 ·rcases sub2 p hp with w | w
  ·exact dj p w
  ·exact fun z=>R.dj p w (zbi4 _ z)
 ·rcases zbj2.mp hx with z | z
  ·rcases sub2 x z with w | w
   ·exact zbi4 _ (zbi7 _ w)
   ·exact zbi7 _ w
  ·exact zbi4 _ (zbi4 _ z)
theorem RS.less {K:zbi5}{F F' A:List Addr}{H:Hp}{t:Th}{σ:L2.St} (R:RS K F H A t σ) (h:∀b∈F',b∈F):RS K F' H A t σ :=
 ⟨fun p hp=>R.mu p ((zbj2.mp hp).elim (zbi7 _) fun z=>zbi4 _ (h p z)),R.nd,fun p hp z=>R.dj p hp (h p z),
  RSl.mono (zb5 H fun x hx=>(zbj2.mp hx).elim (zbi7 _) fun z=>zbi4 _ (h x z)) R.rel fun _ _ _ w=>w⟩
theorem RSl.loseDp {K:zbi5}{H0 H:Hp}:∀ {t:Th}{σ:L2.St}{A:List Addr},RSl K H0 H t σ A→A.Nodup→∀ {i:Nat}{d:D},t[i]?=some (.dp d)→∃v B A',σ[i]?=some (some v)∧RepD K H0 H d v B∧RSl K H0 H (t.set i .no) σ A'∧(∀x∈A',x∈A)∧(∀x∈B,x∈A)∧(∀x∈A,x∈B∨x∈A')∧B.Nodup∧A'.Nodup∧(∀x∈A',x∉B):=by
 intro _ _ _ h
 induction h with
 |nil =>
  intro n i d e
  simp at e
 |@no _ _ _ _ r ih =>
  intro n i d e
  cases i with
  |zero =>
   simp at e
  |succ i =>
   obtain⟨v,B,A',a1,a2,a3,a4⟩:=ih n (i:=i) (d:=d) (by simpa using e)
   exact⟨v,B,A',by simpa using a1,a2,.no a3,a4⟩
 |@val _ _ _ _ _ h r ih =>
  intro n i d e
  cases i with
  |zero =>
   simp at e
  |succ i =>
   obtain⟨v,B,A',a1,a2,a3,a4⟩:=ih n (i:=i) (d:=d) (by simpa using e)
   exact⟨v,B,A',by simpa using a1,a2,.val h a3,a4⟩
 |@own p _ _ _ _ _ h1 h2 r ih =>
  intro n i d e
  cases i with
  |zero =>
   simp at e
  |succ i =>
   have n0:=zbl0.mp n
   obtain⟨v,B,A',a1,a2,a3,a4,a5,a6,a7,a8,a9⟩:=ih n0.2 (i:=i) (d:=d) (by simpa using e)
   refine⟨v,B,p::A',by simpa using a1,a2,.own h1 h2 a3,fun x hx=>?_,fun x hx=>zbi6 _ (a5 x hx),fun x hx=>?_,a7,zbl0.mpr ⟨fun z=>n0.1 (a4 p z),a8⟩,fun x hx z=>?_⟩
   ·rcases zbj4.mp hx with w | w
    ·rw [w];exact zbi9 ..
    ·exact zbi6 _ (a4 x w)
   ·rcases zbj4.mp hx with w | w
    ·rw [w];exact .inr (zbi9 ..)
    ·exact (a6 x w).imp id (zbi6 _)
   ·rcases zbj4.mp hx with w | w
    ·exact n0.1 (w ▸ a5 x z)
    ·exact a9 x w z
 |@dp _ v C _ _ A h r ih =>
  intro n i d e
  cases i with
  |zero =>
   simp at e;subst e
   have n0:=zbk9.mp n
   exact⟨v,C,A,rfl,h,.no r,fun x hx=>zbi4 _ hx,fun x hx=>zbi7 _ hx,fun x hx=>zbj2.mp hx,n0.1,n0.2.1,fun x hx z=>n0.2.2 x z x hx rfl⟩
  |succ i =>
   have n0:=zbk9.mp n
   obtain⟨v,B,A',a1,a2,a3,a4,a5,a6,a7,a8,a9⟩:=ih n0.2.1 (i:=i) (d:=d) (by simpa using e)
   refine⟨v,B,C++A',by simpa using a1,a2,.dp h a3,fun x hx=>?_,fun x hx=>zbi4 _ (a5 x hx),fun x hx=>?_,a7,zbk9.mpr ⟨n0.1,a8,fun x hx y hy e=>n0.2.2 x hx y (a4 y hy) e⟩,fun x hx z=>?_⟩
   ·rcases zbj2.mp hx with w | w
    ·exact zbi7 _ w
    ·exact zbi4 _ (a4 x w)
   ·rcases zbj2.mp hx with w | w
    ·exact .inr (zbi7 _ w)
    ·exact (a6 x w).imp id (zbi4 _)
   ·rcases zbj2.mp hx with w | w
    ·exact n0.2.2 x w x (a5 x z) rfl
    ·exact a9 x w z
theorem RS.takeDp {K:zbi5}{F A:List Addr}{H:Hp}{t:Th}{σ:L2.St}{i:Nat}{d:D} (R:RS K F H A t σ) (e:t[i]?=some (.dp d)) :
  ∃v B A',σ[i]?=some (some v)∧RS K (B++F) H A' (t.set i .no) σ∧B.Nodup∧(∀b∈B,b∉F)∧RepD K (hide (A'++(B++F)) H) H d v B∧(∀x∈A',x∈A)∧(∀x∈B,x∈A):=by
 obtain⟨v,B,A',a1,a2,a3,a4,a5,a6,a7,a8,a9⟩:=R.rel.loseDp R.nd e
 have s:Same (hide (A++F) H) (hide (A'++(B++F)) H):=zb5 H fun x hx=>by
  rcases zbj2.mp hx with z | z
  ·exact zbi7 _ (a4 x z)
  ·rcases zbj2.mp z with z | z
   ·exact zbi7 _ (a5 x z)
   ·exact zbi4 _ z
 refine⟨v,B,A',a1,⟨fun p hp=>?_,a8,fun p hp z=>?_,RSl.mono s a3 fun _ _ _ w=>w⟩,a7,fun b hb=>R.dj b (a5 b hb),RepD.mono s a2 fun _ _ _ w=>w,a4,a5⟩
 ·rcases zbj2.mp hp with z | z
  ·exact R.mu p (zbi7 _ (a4 p z))
  ·rcases zbj2.mp z with z | z
   ·exact R.mu p (zbi7 _ (a5 p z))
   ·exact R.mu p (zbi4 _ z)
 ·rcases zbj2.mp z with z | z
  ·exact a9 p hp z
  ·exact R.dj p (a4 p hp) z
abbrev DM:=Th→Option (D×Th)
abbrev DMs:=Th→Option (List D×Th)
structure Mv (K:zbi5) (F A:List Addr) (H H':Hp) (B A':List Addr) (t':Th) (σ:L2.St):Prop where
 sm:Same H H'
 nd:B.Nodup
 dj:∀b∈B,b∉F
 rs:RS K (B++F) H' A' t' σ
 fr:∀b∈B,b∈A∨H b=none
 sb:∀b∈A',b∈A
theorem RSl.loseOwn {K:zbi5}{H0 H:Hp}:∀ {t:Th}{σ:L2.St}{A:List Addr},RSl K H0 H t σ A→A.Nodup→∀ {i:Nat}{ds:List D},t[i]?=some (.own ds)→∃p vs A',σ[i]?=some (some (.ref p))∧H p=some (.lst vs)∧Reps K H0 ds vs∧RSl K H0 H (t.set i .no) σ A'∧(∀x∈A',x∈A)∧p∈A∧(∀x∈A,x=p∨x∈A')∧A'.Nodup∧p∉A':=by
 intro _ _ _ h
 induction h with
 |nil =>
  intro n i d e
  simp at e
 |@no _ _ _ _ r ih =>
  intro n i d e
  cases i with
  |zero =>
   simp at e
  |succ i =>
   obtain⟨v,B,A',a1,a2,a2',a3,a4⟩:=ih n (i:=i) (ds:=d) (by simpa using e)
   exact⟨v,B,A',by simpa using a1,a2,a2',.no a3,a4⟩
 |@val _ _ _ _ _ h r ih =>
  intro n i d e
  cases i with
  |zero =>
   simp at e
  |succ i =>
   obtain⟨v,B,A',a1,a2,a2',a3,a4⟩:=ih n (i:=i) (ds:=d) (by simpa using e)
   exact⟨v,B,A',by simpa using a1,a2,a2',.val h a3,a4⟩
 |@own q vs _ _ _ A h1 h2 r ih =>
  intro n i d e
  cases i with
  |zero =>
   simp at e;subst e
   have n0:=zbl0.mp n
   exact⟨q,vs,A,rfl,h1,h2,.no r,fun x hx=>zbi6 _ hx,zbi9 ..,fun x hx=>zbj4.mp hx,n0.2,n0.1⟩
  |succ i =>
   have n0:=zbl0.mp n
   obtain⟨p,vs,A',a1,a2,a2',a3,a4,a5,a6,a7,a8⟩:=ih n0.2 (i:=i) (ds:=d) (by simpa using e)
   refine⟨p,vs,q::A',by simpa using a1,a2,a2',.own h1 h2 a3,fun x hx=>?_,zbi6 _ a5,fun x hx=>?_,zbl0.mpr ⟨fun z=>n0.1 (a4 q z),a7⟩,fun z=>?_⟩
   ·rcases zbj4.mp hx with w | w
    ·rw [w];exact zbi9 ..
    ·exact zbi6 _ (a4 x w)
   ·rcases zbj4.mp hx with w | w
    ·rw [w];exact .inr (zbi9 ..)
    ·exact (a6 x w).imp id (zbi6 _)
   ·rcases zbj4.mp z with w | w
    ·exact n0.1 (w ▸ a5)
    ·exact a8 w
 |@dp _ _ C _ _ _ h r ih =>
  intro n i d e
  cases i with
  |zero =>
   simp at e
  |succ i =>
   have n0:=zbk9.mp n
   obtain⟨p,vs,A',a1,a2,a2',a3,a4,a5,a6,a7,a8⟩:=ih n0.2.1 (i:=i) (ds:=d) (by simpa using e)
   refine⟨p,vs,C++A',by simpa using a1,a2,a2',.dp h a3,fun x hx=>?_,zbi4 _ a5,fun x hx=>?_,zbk9.mpr ⟨n0.1,a7,fun x hx y hy e=>n0.2.2 x hx y (a4 y hy) e⟩,fun z=>?_⟩
   ·rcases zbj2.mp hx with w | w
    ·exact zbi7 _ w
    ·exact zbi4 _ (a4 x w)
   ·rcases zbj2.mp hx with w | w
    ·exact .inr (zbi7 _ w)
    ·exact (a6 x w).imp id (zbi4 _)
   ·rcases zbj2.mp z with w | w
    ·exact n0.2.2 p w p a5 rfl
    ·exact a8 w
theorem RS.takeOwn {K:zbi5}{F A:List Addr}{H:Hp}{t:Th}{σ:L2.St}{i:Nat}{ds:List D} (R:RS K F H A t σ) (e:t[i]?=some (.own ds)) :
  ∃p vs A',σ[i]?=some (some (.ref p))∧RS K ([p]++F) H A' (t.set i .no) σ∧p∉F∧H p=some (.lst vs)∧Reps K (hide (A'++([p]++F)) H) ds vs∧(∀x∈A',x∈A)∧p∈A:=by
 obtain⟨p,vs,A',a1,a2,a2',a3,a4,a5,a6,a7,a8⟩:=R.rel.loseOwn R.nd e
 have s:Same (hide (A++F) H) (hide (A'++([p]++F)) H):=zb5 H fun x hx=>by
  rcases zbj2.mp hx with z | z
  ·exact zbi7 _ (a4 x z)
  ·rcases zbj2.mp z with z | z
   ·rw [zbl4.mp z];exact zbi7 _ a5
   ·exact zbi4 _ z
 refine⟨p,vs,A',a1,⟨fun q hp=>?_,a7,fun q hp z=>?_,RSl.mono s a3 fun _ _ _ w=>w⟩,R.dj p a5,a2,Reps.mono s a2',a4,a5⟩
 ·rcases zbj2.mp hp with z | z
  ·exact R.mu q (zbi7 _ (a4 q z))
  ·rcases zbj2.mp z with z | z
   ·rw [zbl4.mp z];exact R.mu p (zbi7 _ a5)
   ·exact R.mu q (zbi4 _ z)
 ·rcases zbj2.mp z with z | z
  ·rw [zbl4.mp z]at hp;exact a8 hp
  ·exact R.dj q (a4 q hp) z
end DL
namespace TS
section
variable (κ π:Keyed→Int)
def rk (x:Keyed):Int:=κ x*1048576+π x
def Ris (l:List Keyed):Prop:=l.Pairwise fun a b=>rk κ π a≤rk κ π b
def Below (l m:List Keyed):Prop := ∀a∈l,∀b∈m,rk κ π a≤rk κ π b
variable {κ π}
structure Lo (X Y out:List Keyed) (i j:Nat):Prop where
 pm:out.Perm (X.take i++Y.take j)
 rs:Ris κ π out
 bx:Below κ π out (X.drop i)
 by':Below κ π out (Y.drop j)
variable {X Y out:List Keyed}{i j:Nat}
structure Hi (X Y out:List Keyed) (i j:Nat):Prop where
 pm:out.Perm (X.drop i++Y.drop j)
 rs:Ris κ π out.reverse
 bx:Below κ π (X.take i) out
 by':Below κ π (Y.take j) out
end
end TS
namespace TS
structure Cmp (M:Model) (A:Around) (E:Value→zbj7→Prop) (s:zbj7) (κ π:Keyed→Int) (a₀:Array Keyed) (kd:SortKind):Prop where
 lt:∀(st:SortSt) (x y:Keyed) (Q:Option Bool→SortSt→Prop),kindOf st=kd→x∈a₀.toList→y∈a₀.toList→Q (some (decide (κ x<κ y))) st→wpS M A E s (lt' x y) Q st
 pi:∀x∈a₀.toList,0≤π x∧π x<1048576
section
variable {M:Model}{A:Around}{E:Value→zbj7→Prop}{s:zbj7}{κ π:Keyed→Int}{a₀:Array Keyed}{kd:SortKind} (C:Cmp M A E s κ π a₀ kd)
theorem zaw4 {ar:Array Keyed}{i:Nat}{z:Keyed}{Q:Keyed→SortSt→Prop}{st:SortSt} (hz:ar[i]?=some z) (h:Q z st):wpS M A E s (elem' ar i) Q st:=by
 rw [elem'_eq,hz];exact zbp3 h
end
end TS
namespace TS
section
variable {M:Model}{A:Around}{E:Value→zbj7→Prop}{s:zbj7}{κ π:Keyed→Int}{a₀:Array Keyed}{kd:SortKind} (C:Cmp M A E s κ π a₀ kd)
structure SameS (st st':SortSt):Prop where
 arr:arrOf st'=arrOf st
 knd:kindOf st'=kindOf st
 pnd:pendingOf st'=pendingOf st
 fld:failedOf st'=failedOf st
theorem SameS.refl (st:SortSt):SameS st st:=⟨rfl,rfl,rfl,rfl⟩
theorem SameS.trans {a b c:SortSt} (h:SameS a b) (g:SameS b c):SameS a c:=⟨g.arr.trans h.arr,g.knd.trans h.knd,g.pnd.trans h.pnd,g.fld.trans h.fld⟩
structure Two (κ π:Keyed→Int) (a₀:Array Keyed) (xs ys:Array Keyed):Prop where
 mx:∀x∈xs.toList,x∈a₀.toList
 my:∀y∈ys.toList,y∈a₀.toList
 rx:Ris κ π xs.toList
 ry:Ris κ π ys.toList
 sep:∀x∈xs.toList,∀y∈ys.toList,π x≤π y
 px:0<xs.size
 py:0<ys.size
 first:∀x y,xs[0]?=some x→ys[0]?=some y→κ y<κ x
 last:∀x,xs[xs.size - 1]?=some x→∀y∈ys.toList,κ y<κ x
variable {xs ys:Array Keyed}{st:SortSt} (hk:kindOf st=kd) (T:Two κ π a₀ xs ys)
end
end TS
namespace TS
section
variable {M:Model}{A:Around}{E:Value→zbj7→Prop}{s:zbj7}{κ π:Keyed→Int}{a₀:Array Keyed}{kd:SortKind} (C:Cmp M A E s κ π a₀ kd)
def sepL (π:Keyed→Int) (l m:List Keyed):Prop := ∀a∈l,∀b∈m,π a≤π b
end
end TS
namespace TS
def kA (f:Keyed→Int) (xs:Array Keyed) (i:Nat):Int:=match xs[i]? with
 |some p=>f p
 |none=>0
theorem zai8 {f:Keyed→Int}{xs:Array Keyed}{i:Nat}{z:Keyed} (h:xs[i]?=some z):kA f xs i=f z:=by unfold kA;rw [h]
theorem zs1 {f:Keyed→Int}{xs ys:Array Keyed}{i j:Nat} (h:xs[i]?=ys[j]?):kA f xs i=kA f ys j:=by unfold kA;rw [h]
structure Chg (xs zs:Array Keyed) (lo hi:Nat):Prop where
 pm:zs.Perm xs
 out:∀i,i<lo∨hi≤i→zs[i]?=xs[i]?
 ins:∀i,lo≤i→i<hi→∃j,lo≤j∧j<hi∧zs[i]?=xs[j]?
theorem Chg.refl (xs:Array Keyed) (lo hi:Nat):Chg xs xs lo hi:=⟨Array.Perm.refl _,fun _ _=>rfl,fun i h1 h2=>⟨i,h1,h2,rfl⟩⟩
theorem Chg.size {xs zs:Array Keyed}{lo hi:Nat} (h:Chg xs zs lo hi):zs.size=xs.size:=h.pm.size_eq
theorem Chg.wide {xs zs:Array Keyed}{lo hi hi':Nat} (h:Chg xs zs lo hi) (g:hi≤hi'):Chg xs zs lo hi' where
 pm:=h.pm
 out:=fun i hi2=>h.out i (by lia)
 ins:=fun i h1 h2=>by
  by_cases z:i<hi
  ·obtain⟨j,a,b,c⟩:=h.ins i h1 z
   exact⟨j,a,by lia,c⟩
  ·exact⟨i,h1,h2,h.out i (by lia)⟩
theorem Chg.mir {xs zs:Array Keyed}{lo hi i0 j0:Nat} (h:Chg xs zs lo hi) (h1:lo≤i0) (h2:j0≤hi) (h3:j0≤zs.size):Chg xs (mirror zs i0 j0 ((j0 - i0) / 2)) lo hi where
 pm:=(mirror_perm _ _ _ _).trans h.pm
 out:=fun i hi2=>by
  rw [getElem?_mirror_all h3,if_neg (by lia)]
  exact h.out i hi2
 ins:=fun i a b=>by
  rw [getElem?_mirror_all h3]
  split
  ·exact h.ins _ (by lia) (by lia)
  ·exact h.ins i a b
theorem zo6 {f:Keyed→Int}{zs:Array Keyed}{i0 j0:Nat} (h3:j0≤zs.size) (k:Nat):kA f (mirror zs i0 j0 ((j0 - i0) / 2)) k=if i0≤k∧k<j0 then kA f zs (i0+j0 - 1 - k) else kA f zs k:=by
 have e:=getElem?_mirror_all (i:=i0) h3 k
 by_cases h1:i0≤k∧k<j0
 ·rw [if_pos h1]at e ⊢;exact zs1 e
 ·rw [if_neg h1]at e ⊢;exact zs1 e
section
variable {M:Model}{A:Around}{E:Value→zbj7→Prop}{s:zbj7}{κ π:Keyed→Int}{a₀:Array Keyed}{kd:SortKind} (C:Cmp M A E s κ π a₀ kd)
def rA (κ π:Keyed→Int) (xs:Array Keyed) (i:Nat):Int:=kA κ xs i*1048576+kA π xs i
def RSeg (κ π:Keyed→Int) (xs:Array Keyed) (lo hi:Nat):Prop := ∀i j,lo≤i→i≤j→j<hi→rA κ π xs i≤rA κ π xs j
def zaa6 (π:Keyed→Int) (xs:Array Keyed) (m:Nat):Prop := ∀i j,i≤j→m≤j→j<xs.size→kA π xs i≤kA π xs j
structure TB (a₀:Array Keyed) (kd:SortKind) (st:SortSt):Prop where
 pm:(arrOf st).Perm a₀
 kind:kindOf st=kd
 fld:failedOf st=none
theorem TB.size {st:SortSt} (h:TB a₀ kd st):(arrOf st).size=a₀.size:=h.pm.size_eq
theorem zbb7 {a₀ xs:Array Keyed} (h:xs.Perm a₀) {i:Nat} (hi:i<xs.size):∃z,xs[i]?=some z∧z∈a₀.toList:=⟨xs[i],by simp [hi],(zbr2.mp h).mem_iff.mp (by simp)⟩
include C in
theorem zr7 {xs:Array Keyed} (h:xs.Perm a₀) {i:Nat} (hi:i<xs.size):0≤kA π xs i∧kA π xs i<1048576:=by
 obtain⟨z,z1,z2⟩:=zbb7 h hi
 rw [zai8 z1]
 exact C.pi z z2
include C in
theorem zaf7 {st:SortSt}{i j:Nat}{Q:Option Bool→SortSt→Prop} (hB:TB a₀ kd st) (hi:i<a₀.size) (hj:j<a₀.size) (h:Q (some (decide (kA κ (arrOf st) i<kA κ (arrOf st) j))) st):wpS M A E s (ltAt' i j) Q st:=by
 obtain⟨x,x1,x2⟩:=zbb7 hB.pm (i:=i) (by rw [hB.size];exact hi)
 obtain⟨y,y1,y2⟩:=zbb7 hB.pm (i:=j) (by rw [hB.size];exact hj)
 rw [ltAt'_eq]
 refine zbn8 (wpS_get ?_)
 refine zbn8 (zaw4 x1 (zbn8 (zaw4 y1 (C.lt st x y Q hB.kind x2 y2 ?_))))
 rw [zai8 x1,zai8 y1]at h
 exact h
noncomputable def Cnt (κ π:Keyed→Int) (a₀:Array Keyed) (kd:SortKind) (st:SortSt) (lo hi:Nat) (st':SortSt):Prop:=TB a₀ kd st'∧pendingOf st'=pendingOf st∧Chg (arrOf st) (arrOf st') lo hi∧RSeg κ π (arrOf st') lo hi
noncomputable def ascT (lo n nr:Nat):StateT SortSt Sem (Option (Option Nat)×Nat) :=
 forIn [n:nr] ((none,n):Option (Option Nat)×Nat) fun _ r=>do
  let x ← ltAt' (lo+r.snd) (lo+r.snd - 1)
  match x with
  |some sm=>if sm=true then pure (ForInStep.done (none,r.snd)) else pure (ForInStep.yield (none,r.snd+1))
  |_=>pure (ForInStep.done (some none,r.snd))
include C in
theorem zaw6 {st:SortSt}{xs:Array Keyed}{lo n nr:Nat}{Q:Option (Option Nat)×Nat→SortSt→Prop} (hB:TB a₀ kd st) (hn:1≤n) (hnr:n≤nr) (hs:lo+nr≤a₀.size) (fr:zaa6 π xs lo) (ch:Chg xs (arrOf st) lo (lo+n)) (hr:RSeg κ π (arrOf st) lo (lo+n))
  (h:∀m,n≤m→m≤nr→RSeg κ π (arrOf st) lo (lo+m)→(m=nr∨kA κ (arrOf st) (lo+m)<kA κ (arrOf st) (lo+m - 1))→Q (none,m) st):wpS M A E s (ascT lo n nr) Q st:=by
 unfold ascT
 refine wpS_forRange (I:=fun x c st'=>st'=st∧c=(none,x)∧RSeg κ π (arrOf st) lo (lo+x)) ?_ ?_ ⟨rfl,rfl,hr⟩
 ·rintro x c st' hx1 hx2 ⟨rfl,rfl,hr'⟩
  dsimp only
  refine zbn8 (zaf7 C hB (by lia) (by lia) ?_)
  by_cases hl:kA κ (arrOf st') (lo+x)<kA κ (arrOf st') (lo+x - 1)
  ·simp only [hl,decide_true,if_true]
   exact zbp3 (h x hx1 (by lia) hr' (.inr hl))
  ·simp only [hl,decide_false,zbl2,if_false]
   refine zbp3 ⟨rfl,rfl,fun i j a1 a2 a3=>?_⟩
   by_cases z:j<lo+x
   ·exact hr' i j a1 a2 z
   ·have ej:j=lo+x:=by lia
    subst ej
    by_cases zi:i=lo+x
    ·subst zi;exact zbo0 _
    ·have sz:=hB.size
     have szx:=ch.size
     have q:=hr' i (lo+x - 1) a1 (by lia) (by lia)
     have p1:=zr7 C hB.pm (i:=i) (by lia)
     have p2:=zr7 C hB.pm (i:=lo+x - 1) (by lia)
     have p3:=zr7 C hB.pm (i:=lo+x) (by lia)
     have fx:kA π (arrOf st') i≤kA π (arrOf st') (lo+x):=by
      obtain⟨k,k1,k2,k3⟩:=(ch.wide (show lo+n≤lo+x by lia)).ins i a1 (by lia)
      rw [zs1 k3,zs1 (ch.out (lo+x) (by lia))]
      exact fr k (lo+x) (by lia) (by lia) (by lia)
     unfold rA at q ⊢
     lia
 ·rintro c st' ⟨rfl,rfl,hr'⟩
  rw [show max n nr=nr by lia]at hr' ⊢
  exact h nr hnr (zbk1 _) hr' (.inl rfl)
noncomputable def zax4 (lo n nr:Nat):StateT SortSt Sem (Option Nat):=do
 reverseSlice' lo (lo+n)
 let r ← ascT lo n nr
 match r.fst with
 |some a=>pure a
 |none=>pure (some r.snd)
theorem zao8 {st:SortSt}{i j:Nat}{Q:Unit→SortSt→Prop} (h:Q () (setArr st (mirror (arrOf st) i j ((j - i) / 2)))):wpS M A E s (reverseSlice' i j) Q st:=by
 rw [reverseSlice'_eq];exact wpS_modify h
theorem TB.set {st:SortSt} (h:TB a₀ kd st) {zs:Array Keyed} (hp:zs.Perm (arrOf st)):TB a₀ kd (setArr st zs):=⟨hp.trans h.pm,h.kind,h.fld⟩
include C in
theorem zao7 {st0 st:SortSt}{lo n nr:Nat}{Q:Option Nat→SortSt→Prop} (hB:TB a₀ kd st) (hp:pendingOf st=pendingOf st0) (hn:1≤n) (hnr:n≤nr) (hs:lo+nr≤a₀.size) (fr:zaa6 π (arrOf st0) lo) (ch:Chg (arrOf st0) (arrOf st) lo (lo+n))
  (hf:∀i j,lo≤i→i≤j→j<lo+n→rA κ π (arrOf st) j≤rA κ π (arrOf st) i) (h:∀m st',1≤m→m≤nr→Cnt κ π a₀ kd st0 lo (lo+m) st'→Q (some m) st'):wpS M A E s (zax4 lo n nr) Q st:=by
 unfold zax4
 have sz:lo+n≤(arrOf st).size:=by rw [hB.size];lia
 refine zbn8 (zao8 ?_)
 have hB':TB a₀ kd (setArr st (mirror (arrOf st) lo (lo+n) ((lo+n - lo) / 2))):=hB.set (mirror_perm _ _ _ _)
 have ch':Chg (arrOf st0) (mirror (arrOf st) lo (lo+n) ((lo+n - lo) / 2)) lo (lo+n):=ch.mir (zbk1 _) (zbk1 _) sz
 refine zbn8 (zaw6 C hB' hn hnr hs fr ch' (fun i j a1 a2 a3=>?_) fun m m1 m2 m3 _=>zbp3 (h m _ (by lia) m2 ⟨hB',hp,ch'.wide (by lia),m3⟩))
 show rA κ π (mirror (arrOf st) _ _ _) i≤rA κ π (mirror (arrOf st) _ _ _) j
 unfold rA
 rw [zo6 sz,zo6 sz,zo6 sz,zo6 sz,if_pos (by lia),if_pos (by lia),if_pos (by lia),if_pos (by lia)]
 exact hf _ _ (by lia) (by lia) (by lia)
end
end TS
namespace TS
section
variable {M:Model}{A:Around}{E:Value→zbj7→Prop}{s:zbj7}{κ π:Keyed→Int}{a₀:Array Keyed}{kd:SortKind} (C:Cmp M A E s κ π a₀ kd)
structure Dn (κ π:Keyed→Int) (a₀:Array Keyed) (kd:SortKind) (st0:SortSt) (lo x q:Nat) (st:SortSt):Prop where
 tb:TB a₀ kd st
 pd:pendingOf st=pendingOf st0
 ch:Chg (arrOf st0) (arrOf st) lo (lo+x)
 le:q+1≤x
 un:∀i,lo+x - (q+1)≤i→(arrOf st)[i]?=(arrOf st0)[i]?
 eq:∀i,lo+x - (q+1)≤i→i<lo+x→kA κ (arrOf st) i=kA κ (arrOf st) (lo+x - 1)
 fl:∀i j,lo≤i→i≤j→j<lo+x - (q+1)→rA κ π (arrOf st) j≤rA κ π (arrOf st) i
 gt:∀i,lo≤i→i<lo+x - (q+1)→kA κ (arrOf st) (lo+x - 1)<kA κ (arrOf st) i
def Fall (κ π:Keyed→Int) (zs:Array Keyed) (lo hi:Nat):Prop := ∀i j,lo≤i→i≤j→j<hi→rA κ π zs j≤rA κ π zs i
include C in
theorem Dn.fall {st0 st:SortSt}{lo x q:Nat} (h:Dn κ π a₀ kd st0 lo x q st) (fr:zaa6 π (arrOf st0) lo) (hs:lo+x≤a₀.size):Fall κ π (mirror (arrOf st) (lo+x - (q+1)) (lo+x) ((lo+x - (lo+x - (q+1))) / 2)) lo (lo+x):=by
 intro i j a1 a2 a3
 have sz:lo+x≤(arrOf st).size:=by rw [h.tb.size];lia
 have sz0:(arrOf st0).size=(arrOf st).size:=h.ch.size.symm
 have le:=h.le
 unfold rA
 rw [zo6 sz,zo6 sz,zo6 sz,zo6 sz]
 by_cases zi:lo+x - (q+1)≤i
 ·rw [if_pos (by lia),if_pos (by lia),if_pos (by lia),if_pos (by lia),h.eq _ (by lia) (by lia),h.eq (lo+x - (q+1)+(lo+x) - 1 - i) (by lia) (by lia),zs1 (h.un (lo+x - (q+1)+(lo+x) - 1 - j) (by lia)),zs1 (h.un (lo+x - (q+1)+(lo+x) - 1 - i) (by lia))]
  have:=fr (lo+x - (q+1)+(lo+x) - 1 - j) (lo+x - (q+1)+(lo+x) - 1 - i) (by lia) (by lia) (by lia)
  lia
 ·rw [if_neg (c:=_∧i<_) (by lia),if_neg (c:=_∧i<_) (by lia)]
  by_cases zj:lo+x - (q+1)≤j
  ·rw [if_pos (by lia),if_pos (by lia),h.eq _ (by lia) (by lia)]
   have g:=h.gt i a1 (by lia)
   have p1:=zr7 C h.tb.pm (i:=lo+x - (q+1)+(lo+x) - 1 - j) (by lia)
   have p2:=zr7 C h.tb.pm (i:=i) (by lia)
   lia
  ·rw [if_neg (by lia),if_neg (by lia)]
   exact h.fl i j a1 a2 (by lia)
include C in
theorem Dn.fall0 {st0 st:SortSt}{lo x:Nat} (h:Dn κ π a₀ kd st0 lo x 0 st) (hs:lo+x≤a₀.size):Fall κ π (arrOf st) lo (lo+x):=by
 intro i j a1 a2 a3
 have sz:lo+x≤(arrOf st).size:=by rw [h.tb.size];lia
 have le:=h.le
 by_cases zj:j<lo+x - (0+1)
 ·exact h.fl i j a1 a2 zj
 ·have ej:j=lo+x - 1:=by lia
  by_cases zi:i=j
  ·subst zi;exact zbo0 _
  ·have g:=h.gt i a1 (by lia)
   have p1:=zr7 C h.tb.pm (i:=lo+x - 1) (by lia)
   have p2:=zr7 C h.tb.pm (i:=i) (by lia)
   unfold rA
   rw [ej]
   lia
noncomputable def descT (lo n nr:Nat):StateT SortSt Sem (Option (Option Nat)×Nat×Nat) :=
 forIn [n:nr] ((none,n,0):Option (Option Nat)×Nat×Nat) fun _ r=>do
  let x ← ltAt' (lo+r.snd.fst) (lo+r.snd.fst - 1)
  match x with
  |some sm =>
   if sm=true then
    if r.snd.snd > 0 then do
     reverseSlice' (lo+r.snd.fst - (r.snd.snd+1)) (lo+r.snd.fst)
     pure (ForInStep.yield (none,r.snd.fst+1,0))
    else pure (ForInStep.yield (none,r.snd.fst+1,0))
   else do
    let y ← ltAt' (lo+r.snd.fst - 1) (lo+r.snd.fst)
    match y with
    |some lg=>if lg=true then pure (ForInStep.done (none,r.snd.fst,r.snd.snd)) else pure (ForInStep.yield (none,r.snd.fst+1,r.snd.snd+1))
    |_=>pure (ForInStep.done (some none,r.snd.fst,r.snd.snd))
  |_=>pure (ForInStep.done (some none,r.snd.fst,r.snd.snd))
include C in
theorem wp_descT {st0 st:SortSt}{lo n nr:Nat}{Q:Option (Option Nat)×Nat×Nat→SortSt→Prop} (fr:zaa6 π (arrOf st0) lo) (hn:1≤n) (hnr:n≤nr) (hs:lo+nr≤a₀.size) (D0:Dn κ π a₀ kd st0 lo n 0 st)
  (h:∀m q st',n≤m→m≤nr→Dn κ π a₀ kd st0 lo m q st'→Q (none,m,q) st'):wpS M A E s (descT lo n nr) Q st:=by
 unfold descT
 refine wpS_forRange (I:=fun x c st' => ∃q,c=(none,x,q)∧Dn κ π a₀ kd st0 lo x q st') ?_ ?_ ⟨0,rfl,D0⟩
 ·rintro x c st' hx1 hx2 ⟨q,rfl,D⟩
  dsimp only
  have le:=D.le
  have sz:lo+x≤(arrOf st').size:=by rw [D.tb.size];lia
  have hszA:=D.tb.size
  refine zbn8 (zaf7 C D.tb (by lia) (by lia) ?_)
  by_cases hl:kA κ (arrOf st') (lo+x)<kA κ (arrOf st') (lo+x - 1)
  ·simp only [hl,decide_true,if_true]
   have mk:∀zs:Array Keyed,zs.Perm (arrOf st')→Chg (arrOf st0) zs lo (lo+x)→Fall κ π zs lo (lo+x)→(∀i,lo≤i→i<lo+x→∃j,lo≤j∧j<lo+x∧zs[i]?=(arrOf st')[j]?)→zs[lo+x]?=(arrOf st')[lo+x]?→(∀i,lo+x≤i→zs[i]?=(arrOf st0)[i]?)→Dn κ π a₀ kd st0 lo (x+1) 0 (setArr st' zs):=fun zs hp hc hf hin hx hun=>{
    tb:=D.tb.set hp
    pd:=D.pd
    ch:=hc.wide (by lia)
    le:=by lia
    un:=fun i hi=>hun i (by lia)
    eq:=fun i a b=>by congr 1;lia
    fl:=fun i j a b c=>hf i j a b (by lia)
    gt:=fun i a b=>by
     show kA κ zs (lo+(x+1) - 1)<kA κ zs i
     obtain⟨j,j1,j2,j3⟩:=hin i a (by lia)
     rw [show lo+(x+1) - 1=lo+x by lia,zs1 hx,zs1 j3]
     by_cases z:j<lo+x - (q+1)
     ·have:=D.gt j j1 z
      lia
     ·rw [D.eq j (by lia) j2]
      exact hl }
   by_cases hq:q > 0
   ·rw [if_pos hq]
    refine zbn8 (zao8 (zbp3 ⟨0,rfl,mk _ (mirror_perm _ _ _ _) (D.ch.mir (by lia) (zbk1 _) sz) (D.fall C fr (by lia)) (fun i a b=>?_) ?_ (fun i a=>?_)⟩))
    ·rw [getElem?_mirror_all sz]
     split
     ·exact⟨_,by lia,by lia,rfl⟩
     ·exact⟨i,a,b,rfl⟩
    ·rw [getElem?_mirror_all sz,if_neg (by lia)]
    ·rw [getElem?_mirror_all sz,if_neg (by lia)]
     exact D.un i (by lia)
   ·rw [if_neg hq]
    have:q=0:=by lia
    subst this
    have D1:=mk (arrOf st') (Array.Perm.refl _) D.ch (D.fall0 C (by lia)) (fun i a b=>⟨i,a,b,rfl⟩) rfl (fun i a=>D.un i (by lia))
    exact zbp3 ⟨0,rfl,⟨⟨D1.tb.pm,D1.tb.kind,D1.tb.fld⟩,D1.pd,D1.ch,D1.le,D1.un,D1.eq,D1.fl,D1.gt⟩⟩
  ·simp only [hl,decide_false,zbl2,if_false]
   refine zbn8 (zaf7 C D.tb (by lia) (by lia) ?_)
   by_cases hg:kA κ (arrOf st') (lo+x - 1)<kA κ (arrOf st') (lo+x)
   ·simp only [hg,decide_true,if_true]
    exact zbp3 (h x q st' hx1 (by lia) D)
   ·simp only [hg,decide_false,zbl2,if_false]
    have ee:kA κ (arrOf st') (lo+x)=kA κ (arrOf st') (lo+x - 1):=by lia
    refine zbp3 ⟨q+1,rfl,⟨D.tb,D.pd,D.ch.wide (by lia),by lia,fun i a=>D.un i (by lia),fun i a b=>?_,fun i j a b c=>D.fl i j a b (by lia),fun i a b=>?_⟩⟩
    ·rw [show lo+(x+1) - 1=lo+x by lia]
     by_cases z:i=lo+x
     ·rw [z]
     ·rw [ee];exact D.eq i (by lia) (by lia)
    ·rw [show lo+(x+1) - 1=lo+x by lia,ee]
     exact D.gt i a (by lia)
 ·rintro c st' ⟨q,rfl,D⟩
  rw [show max n nr=nr by lia]at D ⊢
  exact h nr q st' hnr (zbk1 _) D
noncomputable def zbe2 (lo n nr:Nat):StateT SortSt Sem (Option Nat):=do
 liftM (rule "list.sort.descending-run")
 let r ← descT lo (n+1) nr
 match r.fst with
 |some a=>pure a
 |none =>
  if r.snd.snd > 0 then do
   reverseSlice' (lo+r.snd.fst - (r.snd.snd+1)) (lo+r.snd.fst)
   zax4 lo r.snd.fst nr
  else zax4 lo r.snd.fst nr
include C in
theorem zao9 {st0 st:SortSt}{lo n nr:Nat}{Q:Option Nat→SortSt→Prop} (fr:zaa6 π (arrOf st0) lo) (hnr:n+1≤nr) (hs:lo+nr≤a₀.size) (D0:Dn κ π a₀ kd st0 lo (n+1) 0 st)
  (h:∀m st',1≤m→m≤nr→Cnt κ π a₀ kd st0 lo (lo+m) st'→Q (some m) st'):wpS M A E s (zbe2 lo n nr) Q st:=by
 unfold zbe2
 refine zbn8 (wpS_lift (wpAny_rule ⟨rfl,?_⟩))
 refine zbn8 (wp_descT C fr (by lia) hnr hs D0 fun m q st' h1 h2 D=>?_)
 dsimp only
 have sz:lo+m≤(arrOf st').size:=by rw [D.tb.size];lia
 have le:=D.le
 by_cases hq:q > 0
 ·rw [if_pos hq]
  exact zbn8 (zao8 (zao7 C (D.tb.set (mirror_perm _ _ _ _)) D.pd (by lia) h2 hs fr (D.ch.mir (by lia) (zbk1 _) sz) (D.fall C fr (by lia)) h))
 ·rw [if_neg hq]
  have:q=0:=by lia
  subst this
  exact zao7 C D.tb D.pd (by lia) h2 hs fr D.ch (D.fall0 C (by lia)) h
theorem cnt_eq (lo nr:Nat):countRun' lo nr=(do
  let r ← ascT lo 1 nr
  match r.fst with
  |some a=>pure a
  |none =>
   if (r.snd == nr)=true then pure (some r.snd)
   else if r.snd > 1 then do
    let x ← ltAt' lo (lo+r.snd - 1)
    match x with
    |some rs=>if rs=true then pure (some r.snd) else do
      reverseSlice' lo (lo+r.snd)
      zbe2 lo r.snd nr
    |_=>pure none
   else zbe2 lo r.snd nr):=by
 rw [countRun'_eq]
 dsimp only
 unfold zbe2 zax4 descT ascT
 congr 1
 funext r
 obtain⟨r,n⟩:=r
 cases r with
 |some r=>rfl
 |none =>
  dsimp only
  split
  ·rfl
  ·split
   ·congr 1
    funext x
    cases x with
    |none=>rfl
    |some rs =>
     dsimp only
     split
     ·rfl
     ·congr 1
      funext _u
      congr 1
      funext _v
      congr 1
      congr 1
      funext r2
      obtain⟨r2,n2,q2⟩:=r2
      cases r2 with
      |some r2=>rfl
      |none =>
       dsimp only
       split
       ·congr 1
        funext _w
        congr 1
        funext _z
        congr 1
        funext r3
        obtain⟨r3,n3⟩:=r3
        cases r3<;>rfl
       ·congr 1
        funext _z
        congr 1
        funext r3
        obtain⟨r3,n3⟩:=r3
        cases r3<;>rfl
   ·congr 1
    funext _v
    congr 1
    congr 1
    funext r2
    obtain⟨r2,n2,q2⟩:=r2
    cases r2 with
    |some r2=>rfl
    |none =>
     dsimp only
     split
     ·congr 1
      funext _w
      congr 1
      funext _z
      congr 1
      funext r3
      obtain⟨r3,n3⟩:=r3
      cases r3<;>rfl
     ·congr 1
      funext _z
      congr 1
      funext r3
      obtain⟨r3,n3⟩:=r3
      cases r3<;>rfl
include C in
theorem wp_cnt {st:SortSt}{lo nr:Nat}{Q:Option Nat→SortSt→Prop} (hB:TB a₀ kd st) (fr:zaa6 π (arrOf st) lo) (h1:1≤nr) (hs:lo+nr≤a₀.size)
  (h:∀m st',1≤m→m≤nr→Cnt κ π a₀ kd st lo (lo+m) st'→Q (some m) st'):wpS M A E s (countRun' lo nr) Q st:=by
 rw [cnt_eq]
 have sz:=hB.size
 refine zbn8 (zaw6 C (xs:=arrOf st) hB (zbk1 1) h1 hs fr (Chg.refl _ _ _) (fun i j a b c=>by rw [show i=j by lia];exact zbo0 _) fun n n1 n2 hr hor=>?_)
 dsimp only
 by_cases hn:n=nr
 ·rw [if_pos (by simpa using hn)]
  exact zbp3 (h n st n1 n2 ⟨hB,rfl,Chg.refl _ _ _,hr⟩)
 rw [if_neg (by simpa using hn)]
 have hl:=hor.resolve_left hn
 by_cases hg:n > 1
 ·rw [if_pos hg]
  refine zbn8 (zaf7 C hB (by lia) (by lia) ?_)
  by_cases hro:kA κ (arrOf st) lo<kA κ (arrOf st) (lo+n - 1)
  ·simp only [hro,decide_true,if_true]
   exact zbp3 (h n st n1 n2 ⟨hB,rfl,Chg.refl _ _ _,hr⟩)
  ·simp only [hro,decide_false,zbl2,if_false]
   have szn:lo+n≤(arrOf st).size:=by lia
   have all:∀i,lo≤i→i<lo+n→kA κ (arrOf st) i=kA κ (arrOf st) (lo+n - 1):=fun i a b=>by
    have q1:=hr lo i (zbk1 _) a b
    have q2:=hr i (lo+n - 1) a (by lia) (by lia)
    have p1:=zr7 C hB.pm (i:=lo) (by lia)
    have p2:=zr7 C hB.pm (i:=i) (by lia)
    have p3:=zr7 C hB.pm (i:=lo+n - 1) (by lia)
    unfold rA at q1 q2
    lia
   have keys:∀i,lo≤i→i<lo+n→kA κ (mirror (arrOf st) lo (lo+n) ((lo+n - lo) / 2)) i=kA κ (arrOf st) (lo+n - 1):=fun i a b=>by
    rw [zo6 szn,if_pos (by lia)]
    exact all _ (by lia) (by lia)
   have outs:∀i,lo+n≤i→(mirror (arrOf st) lo (lo+n) ((lo+n - lo) / 2))[i]?=(arrOf st)[i]?:=fun i a=>by rw [getElem?_mirror_all szn,if_neg (by lia)]
   refine zbn8 (zao8 (zao9 C fr (by lia) hs ⟨hB.set (mirror_perm _ _ _ _),rfl,((Chg.refl _ _ _).mir (zbk1 _) (zbk1 _) szn).wide (by lia),by lia,fun i a=>outs i (by lia),fun i a b=>by congr 1;lia,fun i j a b c=>?_,fun i a b=>?_⟩ h))
   ·show rA κ π (mirror (arrOf st) _ _ _) j≤rA κ π (mirror (arrOf st) _ _ _) i
    unfold rA
    rw [keys i a (by lia),keys j (by lia) (by lia),zo6 szn,zo6 szn,if_pos (by lia),if_pos (by lia)]
    have:=fr (lo+(lo+n) - 1 - j) (lo+(lo+n) - 1 - i) (by lia) (by lia) (by lia)
    lia
   ·show kA κ (mirror (arrOf st) _ _ _) _<kA κ (mirror (arrOf st) _ _ _) _
    rw [keys i a (by lia),show lo+(n+1) - 1=lo+n by lia,zs1 (outs (lo+n) (zbk1 _))]
    exact hl
 ·rw [if_neg hg]
  have:n=1:=by lia
  subst this
  refine zao9 C fr (by lia) hs ⟨hB,rfl,Chg.refl _ _ _,by lia,fun i a=>rfl,fun i a b=>by congr 1;lia,fun i j a b c=>?_,fun i a b=>?_⟩ h
  ·have:i=j:=by lia
   subst this;exact zbo0 _
  ·have:i=lo:=by lia
   subst this
   rw [Nat.add_sub_cancel]at hl
   exact hl
end
end TS
namespace TS
theorem kA_bub {f:Keyed→Int}{xs:Array Keyed}{src d:Nat} (hs:src<xs.size) (hd:d≤src) (k:Nat):kA f (bubble xs src d) k=if k=src - d then kA f xs src else if src - d<k∧k≤src then kA f xs (k - 1) else kA f xs k:=by
 have e:=getElem?_bubble hs d hd k
 by_cases h1:k=src - d
 ·rw [if_pos h1]at e ⊢;exact zs1 e
 ·rw [if_neg h1]at e ⊢
  by_cases h2:src - d<k∧k≤src
  ·rw [if_pos h2]at e ⊢;exact zs1 e
  ·rw [if_neg h2]at e ⊢;exact zs1 e
theorem Chg.bub {xs zs:Array Keyed}{lo src d:Nat} (h:Chg xs zs lo src) (h1:lo≤src - d) (hd:d≤src) (h3:src<zs.size):Chg xs (bubble zs src d) lo (src+1) where
 pm:=(bubble_perm _ _ _).trans h.pm
 out:=fun i hi=>by
  rw [getElem?_bubble h3 d hd,if_neg (by lia),if_neg (by lia)]
  exact h.out i (by lia)
 ins:=fun i a b=>by
  rw [getElem?_bubble h3 d hd]
  split
  ·exact⟨src,by lia,by lia,h.out src (by lia)⟩
  ·split
   ·obtain⟨j,j1,j2,j3⟩:=h.ins (i - 1) (by lia) (by lia)
    exact⟨j,j1,by lia,j3⟩
   ·obtain⟨j,j1,j2,j3⟩:=h.ins i a (by lia)
    exact⟨j,j1,by lia,j3⟩
section
variable {M:Model}{A:Around}{E:Value→zbj7→Prop}{s:zbj7}{κ π:Keyed→Int}{a₀:Array Keyed}{kd:SortKind} (C:Cmp M A E s κ π a₀ kd)
include C in
theorem wp_bin {st:SortSt}{lo n ok:Nat}{Q:Bool→SortSt→Prop} (hB:TB a₀ kd st) (hok:1≤ok) (hn:ok≤n) (hs:lo+n≤a₀.size) (fr:zaa6 π (arrOf st) (lo+ok)) (hr:RSeg κ π (arrOf st) lo (lo+ok))
  (h:∀st',Cnt κ π a₀ kd st lo (lo+n) st'→Q true st'):wpS M A E s (binarySort' lo n ok) Q st:=by
 rw [binarySort'_eq]
 refine zbn8 (wpS_mono (wpS_forRange (I:=fun k c st'=>c=(none,())∧Cnt κ π a₀ kd st lo (lo+min k n) st') (Q:=fun c st'=>c=(none,())∧Cnt κ π a₀ kd st lo (lo+n) st') ?_ ?_ ?_) ?_)
 ·rintro k c st' k1 k2 ⟨rfl,tb,pd,ch,rs⟩
  rw [show min k n=k by lia]at ch rs
  have sz:=tb.size
  have szx:=ch.size
  refine zbn8 (wpS_mono (wpS_forRange (I:=fun x c st2=>st2=st'∧∃l r,c=(none,l,r)∧l≤r∧r≤k∧r - l≤k - x∧(∀i,i<l→kA κ (arrOf st') (lo+i)≤kA κ (arrOf st') (lo+k))∧(∀i,r≤i→i<k→kA κ (arrOf st') (lo+k)<kA κ (arrOf st') (lo+i)))
   (Q:=fun c st2=>st2=st'∧∃l r,c=(none,l,r)∧l≤k∧(∀i,i<l→kA κ (arrOf st') (lo+i)≤kA κ (arrOf st') (lo+k))∧(∀i,l≤i→i<k→kA κ (arrOf st') (lo+k)<kA κ (arrOf st') (lo+i))) ?_ ?_ ⟨rfl,0,k,rfl,by lia,by lia,by lia,fun i hi=>by lia,fun i a b=>by lia⟩) ?_)
  ·rintro x c st2 _ x2 ⟨rfl,l,r,rfl,a1,a2,a3,a4,a5⟩
   dsimp only
   by_cases hge:l ≥ r
   ·rw [if_pos hge]
    have:l=r:=by lia
    subst this
    exact zbp3 ⟨rfl,l,l,rfl,a2,a4,a5⟩
   ·rw [if_neg hge]
    refine zbn8 (zaf7 C tb (by lia) (by lia) ?_)
    have up:∀i j,i≤j→j<k→kA κ (arrOf st2) (lo+i)≤kA κ (arrOf st2) (lo+j):=fun i j q1 q2=>by
     have q:=rs (lo+i) (lo+j) (by lia) (by lia) (by lia)
     have p1:=zr7 C tb.pm (i:=lo+i) (by lia)
     have p2:=zr7 C tb.pm (i:=lo+j) (by lia)
     unfold rA at q
     lia
    by_cases hl:kA κ (arrOf st2) (lo+k)<kA κ (arrOf st2) (lo+(l+r) / 2)
    ·simp only [hl,decide_true,if_true]
     refine zbp3 ⟨rfl,l,(l+r) / 2,rfl,by lia,by lia,by lia,a4,fun i q1 q2=>?_⟩
     have:=up ((l+r) / 2) i q1 q2
     lia
    ·simp only [hl,decide_false,zbl2,if_false]
     refine zbp3 ⟨rfl,(l+r) / 2+1,r,rfl,by lia,by lia,by lia,fun i q1=>?_,a5⟩
     have:=up i ((l+r) / 2) (by lia) (by lia)
     lia
  ·rintro c st2 ⟨rfl,l,r,rfl,a1,a2,a3,a4,a5⟩
   have:l=r:=by lia
   subst this
   exact⟨rfl,l,l,rfl,a2,a4,a5⟩
  ·rintro c st2 ⟨rfl,l,r,rfl,a1,a4,a5⟩
   show wpS _ _ _ _ (do moveDown' (lo+k) (lo+l);pure (ForInStep.yield (none,()))) _ _
   rw [moveDown'_eq]
   have hk:lo+k<(arrOf st2).size:=by lia
   refine zbn8 (wpS_modify (zbp3 ⟨rfl,tb.set (bubble_perm _ _ _),pd,?_,?_⟩))
   ·rw [show min (k+1) n=k+1 by lia]
    exact ch.bub (by lia) (by lia) hk
   ·rw [show min (k+1) n=k+1 by lia]
    intro i j b1 b2 b3
    show rA κ π (bubble (arrOf st2) (lo+k) (lo+k - (lo+l))) i≤rA κ π (bubble (arrOf st2) (lo+k) (lo+k - (lo+l))) j
    have pk:=zr7 C tb.pm hk
    have frk:∀i,lo≤i→i<lo+k→kA π (arrOf st2) i≤kA π (arrOf st2) (lo+k):=fun i q1 q2=>by
     obtain⟨m,m1,m2,m3⟩:=ch.ins i q1 q2
     rw [zs1 m3,zs1 (ch.out (lo+k) (by lia))]
     exact fr m (lo+k) (by lia) (by lia) (by lia)
    have lowA:∀i,lo≤i→i<lo+l→rA κ π (arrOf st2) i≤rA κ π (arrOf st2) (lo+k):=fun i q1 q2=>by
     have q:=a4 (i - lo) (by lia)
     rw [show lo+(i - lo)=i by lia]at q
     have p:=frk i q1 (by lia)
     unfold rA
     lia
    have upA:∀i,lo+l≤i→i<lo+k→rA κ π (arrOf st2) (lo+k)≤rA κ π (arrOf st2) i:=fun i q1 q2=>by
     have q:=a5 (i - lo) (by lia) (by lia)
     rw [show lo+(i - lo)=i by lia]at q
     have p:=zr7 C tb.pm (i:=i) (by lia)
     unfold rA
     lia
    have rb:∀i,rA κ π (bubble (arrOf st2) (lo+k) (lo+k - (lo+l))) i=if i=lo+l then rA κ π (arrOf st2) (lo+k) else if lo+l<i∧i≤lo+k then rA κ π (arrOf st2) (i - 1) else rA κ π (arrOf st2) i:=fun i=>by
     unfold rA
     rw [kA_bub hk (by lia),kA_bub hk (by lia),show lo+k - (lo+k - (lo+l))=lo+l by lia]
     split
     ·rfl
     ·split<;>rfl
    rw [rb,rb]
    by_cases z1:i=lo+l
    ·rw [if_pos z1]
     by_cases z2:j=lo+l
     ·rw [if_pos z2];exact zbo0 _
     ·rw [if_neg z2,if_pos (by lia)];exact upA _ (by lia) (by lia)
    ·rw [if_neg z1]
     by_cases z3:lo+l<i∧i≤lo+k
     ·rw [if_pos z3,if_neg (by lia),if_pos (by lia)];exact rs _ _ (by lia) (by lia) (by lia)
     ·rw [if_neg z3]
      by_cases z2:j=lo+l
      ·rw [if_pos z2];exact lowA _ b1 (by lia)
      ·rw [if_neg z2]
       by_cases z4:lo+l<j∧j≤lo+k
       ·rw [if_pos z4];exact rs _ _ b1 (by lia) (by lia)
       ·rw [if_neg z4];exact rs _ _ b1 b2 (by lia)
 ·rintro c st' ⟨hc,tb,pd,ch,rs⟩
  rw [show min (max (max ok 1) n) n=n by lia]at ch rs
  exact⟨hc,tb,pd,ch,rs⟩
 ·refine⟨rfl,hB,rfl,Chg.refl _ _ _,?_⟩
  rw [show min (max ok 1) n=ok by lia]
  exact hr
 ·rintro c st' ⟨rfl,q⟩
  exact zbp3 (h st' q)
end
end TS
namespace TS
noncomputable def MatchP:Nat→List (List Keyed)→List (Nat×Nat×Nat)→Prop
 |_,[],[]=>True
 |lo,L::Ls,q::ps=>q.1=lo∧q.2.1=L.length∧MatchP (lo+L.length) Ls ps
 |_,_,_=>False
theorem MatchP.len:∀ {lo:Nat}{Ls:List (List Keyed)}{ps:List (Nat×Nat×Nat)},MatchP lo Ls ps→Ls.length=ps.length
 |_,[],[],_=>rfl
 |_,L::Ls,q::ps,h=>by simp [MatchP.len h.2.2]
 |_,[],_::_,h=>h.elim
 |_,_::_,[],h=>h.elim
theorem MatchP.app:∀ {Ls:List (List Keyed)}{lo:Nat}{N:List Keyed}{ps:List (Nat×Nat×Nat)}{pw:Nat},MatchP lo Ls ps→MatchP lo (Ls++[N]) (ps++[(lo+Ls.flatten.length,N.length,pw)])
 |[],lo,N,[],pw,_=>⟨by simp,rfl,trivial⟩
 |L::Ls,lo,N,q::ps,pw,h=>⟨h.1,h.2.1,by have:=MatchP.app (N:=N) (pw:=pw) h.2.2;simpa [Nat.add_assoc] using this⟩
 |[],_,_,_::_,_,h=>h.elim
 |_::_,_,_,[],_,h=>h.elim
section
variable {M:Model}{A:Around}{E:Value→zbj7→Prop}{s:zbj7}{κ π:Keyed→Int}{a₀:Array Keyed}{kd:SortKind} (C:Cmp M A E s κ π a₀ kd)
structure Runs (κ π:Keyed→Int) (a₀:Array Keyed) (kd:SortKind) (st:SortSt) (Ls:List (List Keyed)) (post:List Keyed):Prop where
 tb:TB a₀ kd st
 ar:(arrOf st).toList=Ls.flatten++post
 mt:MatchP 0 Ls (pendingOf st).toList
 ok:∀L∈Ls,Ris κ π L∧L≠[]
 sp:Ls.Pairwise (sepL π)
theorem zar5 {xs:Array Keyed}{F rest:List Keyed} (e:xs.toList=F++rest) (h1:sepL π F rest) (h2:rest.Pairwise fun a b=>π a≤π b):zaa6 π xs F.length:=by
 intro i j hij hm hj
 have hl:xs.size=F.length+rest.length:=by
  have:=congrArg List.length e
  simpa using this
 have ej:xs[j]?=some (rest[j - F.length]'(by lia)):=by
  rw [← zbl6,e,zbn3 hm,zbj6]
 rw [zai8 ej]
 by_cases z:i<F.length
 ·have ei:xs[i]?=some (F[i]'z):=by rw [← zbl6,e,zbo4 z,zbj6 z]
  rw [zai8 ei]
  exact h1 _ (zbn9 _) _ (zbn9 _)
 ·have ei:xs[i]?=some (rest[i - F.length]'(by lia)):=by rw [← zbl6,e,zbn3 (by lia),zbj6]
  rw [zai8 ei]
  by_cases w:i=j
  ·subst w;exact zbo0 _
  ·exact zbr7.mp h2 _ _ (by lia) (by lia) (by lia)
theorem rA_eq {xs:Array Keyed}{i:Nat}{z:Keyed} (h:xs[i]?=some z):rA κ π xs i=rk κ π z:=by unfold rA rk;rw [zai8 h,zai8 h]
theorem zas0 {st st':SortSt}{F rest:List Keyed}{m:Nat} (e:(arrOf st).toList=F++rest) (hm:m≤rest.length) (c:Cnt κ π a₀ kd st F.length (F.length+m) st') :
  ∃N,(arrOf st').toList=F++N++rest.drop m∧N.Perm (rest.take m)∧Ris κ π N∧N.length=m:=by
 obtain⟨tb,pd,ch,rs⟩:=c
 have hl:(arrOf st).size=F.length+rest.length:=by
  have:=congrArg List.length e
  simpa using this
 have hl':=ch.size
 have t1:(arrOf st').toList.take F.length=F:=by
  apply zbv8
  intro i
  rw [List.getElem?_take]
  split
  ·rename_i hi
   have:=ch.out i (.inl hi)
   rw [zbl6,this, ← zbl6,e,zbo4 hi]
  ·rename_i hi
   rw [zbn1 (by lia)]
 have t2:(arrOf st').toList.drop (F.length+m)=rest.drop m:=by
  apply zbv8
  intro i
  rw [zby3,zby3,zbl6,ch.out _ (.inr (by lia)), ← zbl6,e,zbn3 (by lia)]
  congr 1;lia
 refine⟨((arrOf st').toList.drop F.length).take m,?_,?_,?_,?_⟩
 ·have q:=zbm3 F.length (arrOf st').toList
  have q2:=zbm3 m ((arrOf st').toList.drop F.length)
  rw [List.drop_drop,t2]at q2
  rw [t1, ← q2]at q
  rw [zbr4]
  exact q.symm
 ·have q:=zbr2.mp ch.pm
  have q0:=zbm3 F.length (arrOf st').toList
  have q2:=zbm3 m ((arrOf st').toList.drop F.length)
  rw [List.drop_drop,t2]at q2
  rw [t1, ← q2]at q0
  rw [← q0,e]at q
  have q3:=(List.perm_append_left_iff _).mp q
  rw [← zbm3 m rest]at q3
  simp only [List.drop_append_of_le_length,zbm3]at q3
  have:rest=rest.take m++rest.drop m:=(zbm3 m rest).symm
  rw [this]at q3
  have e4:(rest.take m++rest.drop m).drop m=rest.drop m:=by rw [zbm3]
  rw [e4]at q3
  exact (List.perm_append_right_iff _).mp q3
 ·unfold Ris
  rw [zbr7]
  intro i j hi hj hij
  simp only [List.getElem_take,List.getElem_drop]
  have hj':j<m:=by simp at hj;lia
  have a1:(arrOf st')[F.length+i]?=some ((arrOf st').toList[F.length+i]'(by simp;lia)):=by rw [← zbl6];exact zbj6 _
  have a2:(arrOf st')[F.length+j]?=some ((arrOf st').toList[F.length+j]'(by simp;lia)):=by rw [← zbl6];exact zbj6 _
  have:=rs (F.length+i) (F.length+j) (by lia) (by lia) (by lia)
  rw [rA_eq a1,rA_eq a2]at this
  exact this
 ·simp;lia
end
end TS
namespace TS
section
variable {M:Model}{A:Around}{E:Value→zbj7→Prop}{s:zbj7}{κ π:Keyed→Int}{a₀:Array Keyed}{kd:SortKind} (C:Cmp M A E s κ π a₀ kd)
structure Btw (κ π:Keyed→Int) (a₀:Array Keyed) (kd:SortKind) (lo:Nat) (st:SortSt) (Ls:List (List Keyed)) (rest:List Keyed):Prop where
 rn:Runs κ π a₀ kd st Ls rest
 ln:Ls.flatten.length=lo
 sp:sepL π Ls.flatten rest
 up:rest.Pairwise fun a b=>π a≤π b
noncomputable def pushR (sz lo n:Nat):StateT SortSt Sem (ForInStep (Option Unit×Nat)):=do
 let q ← get
 match (pendingOf q).back? with
 |some (s1,n1,_)=>do
  let r ← forIn [0:sz] ((none,()):Option Unit×Unit) fun _ _=>do
   let q ← get
   match (if (pendingOf q).size > 1 then (pendingOf q)[(pendingOf q).size - 2]? else none) with
   |some (_,_,older) =>
    if older≤power' sz (2*s1+n1) (2*s1+n1+n1+n) sz then pure (ForInStep.done (none,()))
    else do
     let b ← mergeAt' ((pendingOf q).size - 2)
     if (!b)=true then pure (ForInStep.done (some (),())) else pure (ForInStep.yield (none,()))
   |_=>pure (ForInStep.done (none,()))
  match r.fst with
  |some a=>pure (ForInStep.done (some a,lo))
  |none=>do
   modify fun q=>setPending q ((pendingOf q).modify ((pendingOf q).size - 1) fun x=>(x.fst,x.2.fst,power' sz (2*s1+n1) (2*s1+n1+n1+n) sz))
   modify fun q=>setPending q ((pendingOf q).push (lo,n,0))
   pure (ForInStep.yield (none,lo+n))
 |_=>do
  modify fun q=>setPending q ((pendingOf q).push (lo,n,0))
  pure (ForInStep.yield (none,lo+n))
theorem btw_push {st:SortSt}{Ls:List (List Keyed)}{N rest:List Keyed}{lo n:Nat} (R:Runs κ π a₀ kd st Ls (N++rest)) (hl:Ls.flatten.length=lo) (hn:N.length=n) (rN:Ris κ π N) (nN:N≠[]) (s1:sepL π Ls.flatten N) (s2:sepL π (Ls.flatten++N) rest) (hu:rest.Pairwise fun a b=>π a≤π b) :
  Btw κ π a₀ kd (lo+n) (setPending st ((pendingOf st).push (lo,n,0))) (Ls++[N]) rest:=by
 refine⟨⟨⟨R.tb.pm,R.tb.kind,R.tb.fld⟩,?_,?_,fun L hL=>?_,?_⟩,?_,?_,hu⟩
 ·show (arrOf st).toList=_
  rw [R.ar];simp
 ·show MatchP 0 (Ls++[N]) ((pendingOf st).push (lo,n,0)).toList
  have:=R.mt.app (N:=N) (pw:=0)
  rw [zbv9]
  simpa [hl,hn] using this
 ·rcases zbj2.mp hL with z | z
  ·exact R.ok L z
  ·rw [zbl4.mp z];exact⟨rN,nN⟩
 ·refine zbr6.mpr ⟨R.sp,zbw0 _ _,fun L hL L2 hL2=>?_⟩
  rw [zbl4.mp hL2]
  exact fun a ha b hb=>s1 a (List.mem_flatten.mpr ⟨L,hL,ha⟩) b hb
 ·simp [hl,hn]
 ·simpa using s2
noncomputable def endR (sz:Nat):StateT SortSt Sem Unit:=do
 for _ in [0:sz] do
  let p:=pendingOf (← get)
  if p.size≤1 then break
  let i:=p.size - 2
  let bf:=if i > 0 then p[i - 1]?.map (·.2.1) else none
  let i:=if bf.any (· < (p[i+1]?.elim 0 (·.2.1))) then i - 1 else i
  if !(← mergeAt' i) then return
theorem zax2 {α:Type}{m m':StateT SortSt Sem α}{Q Q':α→SortSt→Prop}{st:SortSt} (h:wpS M A E s m' Q' st) (e:m=m') (g:∀r st',Q' r st'→Q r st'):wpS M A E s m Q st:=by
 subst e
 exact wpS_mono h g
end
end TS
namespace TS
theorem zau9 {f n r:Nat} (h:n<64):minRun' (f+1) n r=n+r:=by
 rw [minRun'_succ,if_pos h]
section
variable {M:Model}{A:Around}{E:Value→zbj7→Prop}{s:zbj7}{κ π:Keyed→Int}{a₀:Array Keyed}{kd:SortKind} (C:Cmp M A E s κ π a₀ kd)
theorem wp_end1 {st:SortSt}{sz:Nat}{Q:Unit→SortSt→Prop} (hs:(pendingOf st).size≤1) (h:Q () st):wpS M A E s (endR sz) Q st:=by
 unfold endR
 dsimp only
 refine zbn8 (wpS_mono (wpS_forRange (I:=fun x c st'=>c=(none,())∧st'=st) (Q:=fun c st'=>c=(none,())∧st'=st) ?_ ?_ ⟨rfl,rfl⟩) ?_)
 ·rintro x c st2 _ hx ⟨rfl,rfl⟩
  refine zbn8 (wpS_get ?_)
  rw [if_pos hs]
  exact zbp3 ⟨rfl,rfl⟩
 ·rintro c st2 ⟨rfl,rfl⟩
  exact⟨rfl,rfl⟩
 ·rintro c st2 ⟨rfl,rfl⟩
  exact zbp3 h
include C in
theorem wp_runs6 {st:SortSt}{Q:Unit→SortSt→Prop} (hB:TB a₀ kd st) (hp:pendingOf st = #[]) (ha:arrOf st=a₀) (hu:a₀.toList.Pairwise fun a b=>π a≤π b) (h2:2≤a₀.size) (h64:a₀.size<64)
  (h:∀st',TB a₀ kd st'→Ris κ π (arrOf st').toList→Q () st'):wpS M A E s sortRuns' Q st:=by
 rw [sortRuns'_eq]
 refine zbn8 (wpS_get ?_)
 dsimp only
 rw [hB.size]
 have fin:∀st' Ls,Runs κ π a₀ kd st' Ls []→Ls.length≤1→Q () st':=fun st' Ls R hl=>by
  refine h st' R.tb ?_
  rw [R.ar,zbq9]
  match Ls,hl,R with
  |[],_,_=>exact List.Pairwise.nil
  |[L],_,R=>simpa using (R.ok L (by simp)).1
 have lenB:∀ {lo st' Ls rest},Btw κ π a₀ kd lo st' Ls rest→lo+rest.length=a₀.size:=fun {lo st' Ls rest} B=>by
  have e:=congrArg List.length B.rn.ar
  simp only [zbu1,zbm4,B.ln]at e
  rw [B.rn.tb.size]at e
  lia
 have mr:minRun' a₀.size a₀.size 0=a₀.size:=by
  obtain⟨f,hf⟩:∃f,a₀.size=f+1:=⟨a₀.size - 1,by lia⟩
  rw [hf,zau9 (by lia)]
  try lia
 have last:∀ {lo st' Ls rest},Btw κ π a₀ kd lo st' Ls rest→a₀.size≤lo→(pendingOf st').size≤1→Ls.length≤1→wpS M A E s (endR a₀.size) Q st':=fun {lo st' Ls rest} B hlo hp1 hl1=>by
  have e:=lenB B
  have:rest=[]:=zbl8.mp (by lia)
  subst this
  exact wp_end1 hp1 (fin st' Ls B.rn hl1)
 refine zbn8 (wpS_forRange (I:=fun x c st' => ∃Ls rest lo,c=(none,lo)∧Btw κ π a₀ kd lo st' Ls rest∧x≤lo∧(lo=0∧Ls=[]∧pendingOf st' = #[]∨lo=a₀.size∧(pendingOf st').size≤1∧Ls.length≤1)) ?_ ?_ ?_)
 ·rintro x c st1 _ hx ⟨Ls,rest,lo,rfl,B,hxl,dj⟩
  dsimp only
  have eln:=lenB B
  by_cases hge:lo ≥ a₀.size
  ·rw [if_pos hge]
   rcases dj with ⟨d1,_,_⟩ | ⟨_,d2,d3⟩
   ·lia
   ·exact zbp3 (last B hge d2 d3)
  rw [if_neg hge]
  obtain⟨lo0,ls0,pe0⟩:lo=0∧Ls=[]∧pendingOf st1 = #[]:=by
   rcases dj with d | ⟨d,_⟩
   ·exact d
   ·lia
  have fr:zaa6 π (arrOf st1) lo:=by
   have:=zar5 B.rn.ar B.sp B.up
   rwa [B.ln]at this
  refine zbn8 (wp_cnt C B.rn.tb fr (by lia) (by lia) fun m st2 m1 m2 cn=>?_)
  have push:∀(n:Nat) (st3:SortSt),n=a₀.size→1≤n→n≤rest.length→Cnt κ π a₀ kd st1 lo (lo+n) st3→wpS M A E s (pushR a₀.size lo n) (fun r st' => ∃Ls rest lo,r=ForInStep.yield (none,lo)∧Btw κ π a₀ kd lo st' Ls rest∧x+1≤lo∧(lo=0∧Ls=[]∧pendingOf st' = #[]∨lo=a₀.size∧(pendingOf st').size≤1∧Ls.length≤1)) st3:=fun n st3 n0 n1 n2 cn=>by
   have cn':Cnt κ π a₀ kd st1 Ls.flatten.length (Ls.flatten.length+n) st3:=by rw [B.ln];exact cn
   obtain⟨N,e1,e2,e3,e4⟩:=zas0 B.rn.ar n2 cn'
   have up:=zbr6.mp ((zbm3 n rest).symm ▸ B.up)
   have pe3:pendingOf st3 = #[]:=cn.2.1.trans pe0
   have bt:=btw_push (κ:=κ) (π:=π) (a₀:=a₀) (kd:=kd) (st:=st3) (Ls:=Ls) (N:=N) (rest:=rest.drop n) (lo:=lo) (n:=n) ⟨cn.1,by rw [e1];simp,by rw [cn.2.1];exact B.rn.mt,B.rn.ok,B.rn.sp⟩ B.ln e4 e3 (fun z=>by rw [z]at e4;simp at e4;lia) (fun a hA b hB=>B.sp a hA b (zbt7 (e2.mem_iff.mp hB))) (by
    intro a hA b hB
    rcases zbj2.mp hA with z | z
    ·exact B.sp a z b (zbt8 hB)
    ·exact up.2.2 a (e2.mem_iff.mp z) b hB) up.2.1
   unfold pushR
   refine zbn8 (wpS_get ?_)
   rw [show (pendingOf st3).back?=none by rw [pe3];rfl]
   refine zbn8 (wpS_modify (zbp3 ⟨_,_,_,rfl,bt,by lia,.inr ⟨by lia,?_,?_⟩⟩))
   ·show ((pendingOf st3).push (lo,n,0)).size≤1
    rw [pe3];simp
   ·rw [ls0];simp
  dsimp only
  by_cases hmr:m<minRun' a₀.size a₀.size 0
  ·rw [if_pos hmr]
   refine zbn8 (wpS_lift (wpAny_rule ⟨rfl,?_⟩))
   have fr2:zaa6 π (arrOf st2) (lo+m):=by
    have cn':Cnt κ π a₀ kd st1 Ls.flatten.length (Ls.flatten.length+m) st2:=by rw [B.ln];exact cn
    obtain⟨N,e1,e2,e3,e4⟩:=zas0 B.rn.ar (by lia) cn'
    have up:=zbr6.mp ((zbm3 m rest).symm ▸ B.up)
    have:=zar5 (F:=Ls.flatten++N) e1 (fun a hA b hB=>?_) up.2.1
    ·rwa [zbm4,B.ln,e4]at this
    ·rcases zbj2.mp hA with z | z
     ·exact B.sp a z b (zbt8 hB)
     ·exact up.2.2 a (e2.mem_iff.mp z) b hB
   refine zbn8 (wp_bin C cn.1 m1 (by lia) (by lia) fr2 cn.2.2.2 fun st3 c3=>?_)
   have hf:Cnt κ π a₀ kd st1 lo (lo+min (a₀.size - lo) (minRun' a₀.size a₀.size 0)) st3:=by
    refine⟨c3.1,c3.2.1.trans cn.2.1,?_,c3.2.2.2⟩
    have w1:=cn.2.2.1.wide (show lo+m≤lo+min (a₀.size - lo) (minRun' a₀.size a₀.size 0) by lia)
    have w2:=c3.2.2.1
    exact⟨w2.pm.trans w1.pm,fun i hi=>(w2.out i hi).trans (w1.out i hi),fun i a b=>by
     obtain⟨j,j1,j2,j3⟩:=w2.ins i a b
     obtain⟨k,k1,k2,k3⟩:=w1.ins j j1 j2
     exact⟨k,k1,k2,j3.trans k3⟩⟩
   rw [if_neg (by decide)]
   refine zax2 (push _ st3 (by lia) (by lia) (by lia) hf) ?_ fun r st' hq=>?_
   ·unfold pushR
    congr 1
    funext q
    cases (pendingOf q).back? with
    |none=>rfl
    |some z =>
     obtain⟨a,b,c⟩:=z
     dsimp only
     congr 1
     funext r
     obtain⟨r,_⟩:=r
     cases r<;>rfl
   ·obtain⟨Ls',rest',lo',rfl,b1,b2,b3⟩:=hq
    exact⟨Ls',rest',lo',rfl,b1,b2,b3⟩
  ·rw [if_neg hmr]
   refine zax2 (push m st2 (by lia) m1 (by lia) cn) ?_ fun r st' hq=>?_
   ·unfold pushR
    congr 1
    funext q
    cases (pendingOf q).back? with
    |none=>rfl
    |some z =>
     obtain⟨a,b,c⟩:=z
     dsimp only
     congr 1
     funext r
     obtain⟨r,_⟩:=r
     cases r<;>rfl
   ·obtain⟨Ls',rest',lo',rfl,b1,b2,b3⟩:=hq
    exact⟨Ls',rest',lo',rfl,b1,b2,b3⟩
 ·rintro c st1 ⟨Ls,rest,lo,rfl,B,hxl,dj⟩
  rcases dj with ⟨d1,_,_⟩ | ⟨_,d2,d3⟩
  ·lia
  ·exact last B (by lia) d2 d3
 ·refine⟨[],a₀.toList,0,rfl,⟨⟨hB,by rw [ha];simp,?_,fun L hL=>(by cases hL),List.Pairwise.nil⟩,rfl,fun a hA=>(by cases hA),hu⟩,zbk1 _,.inl ⟨rfl,rfl,hp⟩⟩
  rw [hp];trivial
end
end TS
namespace TS
def rkP (p:Int×Int):Int:=p.1*1048576+p.2
def insP (p:Int×Int):List (Int×Int)→List (Int×Int)
 |[]=>[p]
 |q::r=>if rkP p≤rkP q then p::q::r else q::insP p r
def sortP:List (Int×Int)→List (Int×Int)
 |[]=>[]
 |p::r=>insP p (sortP r)
theorem zy2 (p:Int×Int):∀r:List (Int×Int),(insP p r).Perm (p::r)
 |[]=>List.Perm.refl _
 |q::r=>by
  unfold insP
  split
  ·exact List.Perm.refl _
  ·exact (List.Perm.cons q (zy2 p r)).trans (List.Perm.swap p q r)
theorem sortP_perm:∀r:List (Int×Int),(sortP r).Perm r
 |[]=>List.Perm.refl _
 |p::r=>(zy2 p _).trans (List.Perm.cons p (sortP_perm r))
theorem zy1 (p:Int×Int):∀r:List (Int×Int),r.Pairwise (fun a b=>rkP a≤rkP b)→(insP p r).Pairwise (fun a b=>rkP a≤rkP b)
 |[],_=>by simp [insP]
 |q::r,h=>by
  unfold insP
  have hc:=zbm8.mp h
  split
  ·rename_i hle
   refine zbm8.mpr ⟨fun x hx=>?_,h⟩
   rcases zbj4.mp hx with z | z
   ·rw [z];exact hle
   ·exact zca0 hle (hc.1 x z)
  ·rename_i hle
   refine zbm8.mpr ⟨fun x hx=>?_,zy1 p r hc.2⟩
   rcases zbj4.mp ((zy2 p r).mem_iff.mp hx) with z | z
   ·rw [z];lia
   ·exact hc.1 x z
theorem zu2:∀r:List (Int×Int),(sortP r).Pairwise (fun a b=>rkP a≤rkP b)
 |[]=>List.Pairwise.nil
 |p::r=>zy1 p _ (zu2 r)
theorem rkP_inj {p q:Int×Int} (h1:0≤p.2∧p.2<1048576) (h2:0≤q.2∧q.2<1048576) (h:rkP p=rkP q):p=q:=by
 unfold rkP at h
 have:p.1=q.1:=by lia
 have:p.2=q.2:=by lia
 exact Prod.ext ‹_› ‹_›
theorem uniqP:∀ {xs ys:List (Int×Int)},(∀p∈xs,0≤p.2∧p.2<1048576)→xs.Perm ys→xs.Pairwise (fun a b=>rkP a≤rkP b)→ys.Pairwise (fun a b=>rkP a≤rkP b)→xs=ys
 |[],ys,_,p,_,_=>(List.Perm.nil_eq p)
 |x::xs,[],_,p,_,_=>absurd p.length_eq (by simp)
 |x::xs,y::ys,hb,p,h1,h2=>by
  have c1:=zbm8.mp h1
  have c2:=zbm8.mp h2
  have m1:x∈y::ys:=p.mem_iff.mp (zbi9 ..)
  have m2:y∈x::xs:=p.mem_iff.mpr (zbi9 ..)
  have e:x=y:=by
   refine rkP_inj (hb x (zbi9 ..)) (hb y m2) ?_
   have l1:rkP y≤rkP x:=by rcases zbj4.mp m1 with z | z;rw [z];exact zbo0 _;exact c2.1 x z
   have l2:rkP x≤rkP y:=by rcases zbj4.mp m2 with z | z;rw [z];exact zbo0 _;exact c1.1 y z
   lia
  subst e
  rw [uniqP (fun q hq=>hb q (zbi6 _ hq)) (List.Perm.cons_inv p) c1.2 c2.2]
end TS
namespace L2
open PySem.Spec TS
section
variable {prog:Program}{w:World}{A:Around}{E:Value→zbj7→Prop}{s:zbj7}
theorem zax9 {u:Value}{kw:List (Str×Value)}{Q:Value→zbj7→Prop}{P:List Value→Prop} (ha1:argsOk "sorted" ⟨[u],kw⟩) (ha2:∀x,argsOk "list.sort" ⟨[.ref x],kw⟩)
  (col:∀R:List Value→zbj7→Prop,(∀(h':Heap) (tk:Nat) (us:List Value),(∀b o,s.heap.get? b=some o→h'.get? b=some o)→s.heap.objs.size≤h'.objs.size→P us→us.length≤100000→R us { s with heap:=h',toks:=tk })→wpAny (model prog w) A.in1 (collect u) R E s)
  (srt:∀(h':Heap) (tk:Nat) (us:List Value),(∀b o,s.heap.get? b=some o→h'.get? b=some o)→s.heap.objs.size≤h'.objs.size→P us→us.length≤100000 →
   wpAny (model prog w) A.in1.in1 (Builtin.«list.sort» ⟨[.ref h'.objs.size],kw⟩) (fun fin s'=>fin=.done (.ret .none)∧Q (.ref h'.objs.size) s') E { s with heap:=h'.push (seqObj "list" us.toArray 0),toks:=tk }) :
  wpAny (model prog w) A (call (.builtin "sorted") [u] kw) Q E s:=by
 refine call_function_entry_kw kind_sorted plain_sorted entry_sorted ha1 ?_
 unfold Builtin.«sorted»
 refine zbi8 (m:=checkCount "sorted" 1 1 _) (zbj5 ?_)
 refine zbi8 (col _ fun h' tk us hk hz hp hl=>?_)
 refine zbi8 (wpAny_newList ?_ (by rw [sizeLine_eq];lia))
 have hoL:(h'.push (seqObj "list" us.toArray 0)).get? h'.objs.size=some (seqObj "list" us.toArray 0):=zbj9 _ rfl
 refine zbi8 (wpAny_holding (wpAny_call_entry_kw slot_list_sort ⟨_,hoL,rfl⟩ entry_list_sort ?_ (ha2 _)))
 refine wpAny_mono (srt h' tk us hk hz hp hl) (fun fin s' hq=>?_) fun _ _ e=>e
 obtain⟨rfl,hq⟩:=hq
 exact⟨_,rfl,zbj5 ⟨_,rfl,hq⟩⟩
end
end L2
namespace DL
open PySem.Spec L2 TS
def zc5 (n:Nat):List Int:=(zbm1 n).map fun (i:Nat)=>(i:Int)
theorem zg2 (n:Nat):(zc5 n).length=n:=by simp [zc5]
theorem zbb4 {n i:Nat}{x:Int} (h:(zc5 n)[i]?=some x):x=(i:Int)∧i<n:=by
 unfold zc5 at h
 rw [zbn4]at h
 cases e:(zbm1 n)[i]? with
 |none=>rw [e]at h;cases h
 |some j =>
  rw [e]at h
  obtain⟨h1,h2⟩:=zbn0.mp e
  simp at h1 h2
  cases h
  exact⟨by rw [h2],h1⟩
theorem zv5 {i:Int} (h0:0≤i) (h1:i≤100000):Builtin.Range.rangeFitsLong i=true:=by
 unfold Builtin.Range.rangeFitsLong
 have e:(2:Int) ^ 63=9223372036854775808:=by decide
 rw [e]
 simp only [zbj3,decide_eq_true_eq]
 lia
theorem small_of {n:Int} (h0:0≤n) (h1:n≤100000):Builtin.Range.small 0 n 1=true:=by
 have rs:Builtin.Range.rangeSize 0 n 1=n:=by simp only [Builtin.Range.rangeSize];lia
 unfold Builtin.Range.small
 rw [rs,zv5 (i:=0) (by lia) (by lia),zv5 h0 h1,zv5 (i:=1) (by lia) (by lia),if_pos (by lia),zv5 (i:=n+(1 - 1)) (by lia) (by lia),zbn2]
 rfl
end DL
namespace DL
open PySem.Spec L2
section
variable {X:Cx}{F:List Addr}
noncomputable def zam9:List Ev→Option Ev:=fun rs=>match rs with
 |[r]=>(match r.d with
  |.bl b=>some (.cl (.int (if b then 1 else 0)))
  |_=>none)
 |_=>none
theorem zbh1:zn7 X (.type "int") (fun xs H Q => ∃b:Bool,xs=[.bl b]∧Q (.int (if b then 1 else 0)) H):=by
 intro pins s σ H xs us Q I r h
 obtain⟨b,rfl,q⟩:=h
 obtain⟨u,rfl,ru⟩:=zz7 r
 cases ru
 exact PySem.call_int_bool ⟨.int _,H,I.tok _,⟨_,rfl⟩,q⟩
theorem zbg5:CallD X F (.type "int") zam9:=CallD.of zbh1 fun H0 H A xs rs e Q m g q ek hq=>by
 unfold zam9 at ek
 split at ek
 case h_2=>cases ek
 cases q with
 |cons q1 q2 =>
  cases q2
  split at ek
  case h_2=>cases ek
  rename_i b z
  cases ek
  have p:=q1.full
  rw [z]at p
  cases p
  exact⟨b,rfl,hq _ H (Same.refl H) (.int _)⟩
end
end DL
namespace DL
open PySem.Spec L2
section
variable {X:Cx}{F:List Addr}{a b c o:Expr}{es:List Expr}{fa fb fc:DE}{ga:DA}{pos:Pos}
def insN (ns:List Int) (k:Nat) (n:Int):List Int:=ns.take k++n::ns.drop k
noncomputable def rInsert:V→List V→Hp→VK→Prop:=fun x vs H Q => ∃(l:Addr) (ns:List Int) (k:Int) (n:Int),x=.ref l∧vs=[.int k,.int n]∧H l=some (.lst (ns.map V.int))∧0≤k∧k≤(ns.length:Int)∧ns.length≤50000∧Q .non (upd H l (.lst ((insN ns k.toNat n).map V.int)))
theorem zbb6:MtM X "list.insert" rInsert:=by
 intro pins s σ H x vs v us Q I rx rv h
 obtain⟨l,ns,k,n,rfl,rfl,hH,h0,hk,hb,q⟩:=h
 cases rx
 obtain⟨u,w,rfl,ru,rw'⟩:=rv.two
 obtain⟨t,rfl⟩:=ru
 obtain⟨t2,rfl⟩:=rw'
 obtain⟨z,its,m,r,hl,e⟩:=I.lstM hH
 have hi:IntsAre its ns:=zm0 r
 have hlen:=hi.length
 have fits:Builtin.List.listFitsIndex k=true:=by
  unfold Builtin.List.listFitsIndex
  rw [zbj3,decide_eq_true_eq,decide_eq_true_eq]
  constructor<;>lia
 have hf : ¬(!Builtin.List.listFitsIndex k)=true:=by rw [fits];decide
 have sl:its.length≤sizeLine:=le_line (by lia)
 have hz:its.toArray.size≤sizeLine:=zbn6 (Nat.le_of_eq zbk0) sl
 have rel:Vals ((insN ns k.toNat n).map V.int) (its.take k.toNat++.int n t2::its.drop k.toNat):=by
  unfold insN
  rw [zbu6,zbk5,zby6,List.map_drop]
  exact (r.take k.toNat).append (.cons ⟨t2,rfl⟩ (r.drop k.toNat))
 have len:((insN ns k.toNat n).map V.int).length≤sizeLine:=by
  unfold insN
  rw [zbk3,zbm4,zbm5,zbr9,zbw4]
  exact le_line (by lia)
 have ar:(fun xs:Array Value=>have k':=if k<0 then (k+((xs.size:Nat):Int)).toNat else min k.toNat xs.size;(xs.extract 0 k').push (.int n t2)++xs.extract k') its.toArray=(its.take k.toNat++.int n t2::its.drop k.toNat).toArray:=by
  show (its.toArray.extract 0 (if k<0 then (k+(its.toArray.size:Int)).toNat else min k.toNat its.toArray.size)).push (.int n t2)++its.toArray.extract (if k<0 then (k+(its.toArray.size:Int)).toNat else min k.toNat its.toArray.size)=_
  rw [if_neg (by lia),zbk0,Nat.min_eq_left (by lia)]
  exact PySem.W.kl_ins_eq its k.toNat _
 have MM:=@PySem.AutoSeq1.list_insert_list_int_val_1 l its.toArray m k t (.int n t2) hf hz
 clear hf fits sl hz
 refine call_meets zbv3 ⟨_,e,rfl⟩ PySem.F.entry_list_insert (PySem.F.args_list_insert_3 _ _ _) MM ?_
 exact⟨e,.non,_,I.lset hH e ar rel len,rfl,q⟩
noncomputable def kIns (t:Th) (i:Nat):List Ev→Option Out
 |[rk,rn]=>(match t[i]?,rk.d,rn.d with
  |some (.own xs),.int k,.int n=>(zk4 xs).bind fun ns=>if 0≤k∧k≤(ns.length:Int)∧ns.length≤50000 then some (.nx (t.set i (.own ((insN ns k.toNat n).map D.int)))) else none
  |_,_,_=>none)
 |_=>none
def dIns (i:Nat) (f:DA):DS:=fun t=>(f t).bind (kIns t i)
end
end DL
namespace TS
section
variable {prog:Program}{w:World}{A:Around}{E:Value→zbj7→Prop}{s:zbj7}
theorem zao5 {α:Type}:∀l:List α,l.zip l=l.map fun x=>(x,x)
 |[]=>rfl
 |x::l=>by rw [List.zip_cons_cons,zao5 l];rfl
theorem zaz5 (vs:List Value):(vs.toArray.zip vs.toArray).toList=vs.map fun x=>(x,x):=by
 have:=ksk_zip vs.toArray vs
 rw [this,zby0,zao5]
theorem zau1 (vs:List Value):(vs.toArray.zip vs.toArray).size=vs.length:=by rw [Array.size_zip,zbk0];lia
end
end TS
namespace TS
def RawD (h:Heap) (d:Addr) (es:Array DictEntry) (ep:Nat):Prop := ∃o,h.get? d=some o∧o.ExactDict∧o.data=.dict es ep
theorem RawD.at {h h':Heap}{d:Addr}{es:Array DictEntry}{ep:Nat} (x:RawD h d es ep) (k:∀o,h.get? d=some o→h'.get? d=some o):RawD h' d es ep:=let ⟨o,a,r⟩:=x;⟨o,k o a,r⟩
theorem RawD.ty {s:zbj7}{d:Addr}{es:Array DictEntry}{ep:Nat} (x:RawD s.heap d es ep):s.TypeIs (.ref d) "dict":=let ⟨o,a,r,_⟩:=x;⟨o,a,r.1⟩
section
variable {prog:Program}{w:World}{A:Around}{E:Value→zbj7→Prop}{s:zbj7}
theorem raw_iter {d:Addr}{es:Array DictEntry}{ep:Nat}{Q:Value→zbj7→Prop} (nm:(d == sysModules)=false) (x:RawD s.heap d es ep)
  (q:Q (.ref s.heap.objs.size) { s with heap:=s.heap.push { cls:=.type "dict_keyiterator",data:=.fields #[.ref d,.int 0 0,.int es.size 0,.int ep 0] } }):wpAny (model prog w) A (pyIter (.ref d)) Q E s:=by
 have ty:=x.ty
 obtain⟨o,a,r,dd⟩:=x
 refine wpAny_pyIter_slot ty F.slot_dict_iter (wpAny_call_entry F.slot_dict_iter ty F.entry_dict_iter ?_ (F.args_dict_iter_1 _))
 unfold Builtin.«dict.__iter__» Builtin.Dict.dictSlotNone
 refine zbi8 (zbi8 (wpAny_notOrdered_dict ty ?_))
 show wpAny _ _ (pure (Value.ref d)) _ _ s
 refine zbj5 ?_
 show wpAny _ _ (Builtin.Dict.showsAll d >>= _) _ _ s
 unfold Builtin.Dict.showsAll
 rw [if_neg (by rw [nm];exact zbk4)]
 refine zbi8 (zbj5 (zbi8 (wpAny_dictEntries a dd (zbi8 (wpAny_dictEpoch a dd ?_)))))
 exact zbi8 (wpAny_newObj_type (zbj5 ⟨_,rfl, "dict_keyiterator",_,⟨_,zbj9 _ rfl,rfl⟩,F.slot_dict_keyiterator_next.lookup,by simpa [rawInt] using q⟩))
theorem raw_head {it d:Addr}{i ep:Nat}{es:Array DictEntry}{Q:Option Value→zbj7→Prop} (ki:s.heap.IsKeyIter it d i es.size ep) (x:RawD s.heap d es ep) (hi:i<es.size)
  (q:∀h',h'.IsKeyIter it d (i+1) es.size ep→Heap.SameBut it s.heap h'→Q (some es[i].key) { s with heap:=h' }):wpAny (model prog w) A (pyNext (.ref it)) Q E s:=by
 have ty:=ki.typeIs
 obtain⟨o,ho,hc,hd⟩:=ki
 obtain⟨od,a,r,dd⟩:=x
 have ow:Builtin.Dict_items.ownsTuple "dict_keyiterator"=false:=by decide
 have nn : ¬ ((Value.ref d == Value.none)=true):=zbk4
 unfold pyNext
 refine zbi8 (wpAny_attempt (wpAny_callSpecial?_slot (name:=Str.ofString "__next__") ty F.slot_dict_keyiterator_next (wpAny_call_entry F.slot_dict_keyiterator_next ty F.entry_dict_keyiterator_next ?_ (F.args_dict_keyiterator_next_1 _))))
 refine zbi8 (zbj5 (zbi8 (zbi8 ?_)))
 first | refine zbi8 (wpAny_typeNameOfWhole_keyiter ty (zbj5 (zbi8 (wpAny_fieldsOf ho hd ?_)))) |refine zbi8 (wpAny_typeNameOf_keyiter ty (zbj5 (zbi8 (wpAny_fieldsOf ho hd ?_))))
 simp only [ow,zbl2,if_false]
 show wpAny _ _ (if (Value.ref d == Value.none)=true then _ else _) _ _ s
 rw [if_neg nn]
 refine zbi8 (zbj5 (zbi8 (wpAny_dictEntries a dd ?_)))
 rw [if_neg (by simp)]
 refine zbi8 (zbj5 (zbi8 (wpAny_dictEpoch a dd ?_)))
 rw [if_neg (by simp)]
 refine zbj5 ?_
 have ng : ¬ ((i:Int)<0):=by lia
 simp only [ng,if_false,zbl5,zbk8 hi]
 refine zbi8 ?_
 first | refine zbi8 (wpAny_typeNameOfWhole_keyiter ty (zbj5 (zbi8 (wpAny_isOneOf_keyiter ty ?_)))) |refine zbi8 (wpAny_typeNameOf_keyiter ty (zbj5 (zbi8 (wpAny_isOneOf_keyiter ty ?_))))
 show wpAny _ _ (setField (.ref it) 1 (rawInt ((i:Int)+1)) >>= _) _ _ s
 refine zbi8 (wpAny_setField ho hd (by simp) ?_)
 have k2:(s.heap.update it (Obj.mapFields (·.setIfInBounds 1 (rawInt ((i:Int)+1))))).IsKeyIter it d (i+1) es.size ep:=⟨_,zbm2 _ ho (Obj.isFreed_of_fields (Obj.data_mapFields hd _)),(Obj.cls_mapFields ..).trans hc,by rw [Obj.data_mapFields hd];simp [rawInt]⟩
 refine zbi8 (wpAny_holding (zbi8 (wpAny_isOneOf_keyiter (s:={ s with heap:=s.heap.update it (Obj.mapFields (·.setIfInBounds 1 (rawInt ((i:Int)+1)))) }) k2.typeIs ?_)))
 show wpAny _ _ (pure es[i].key) _ _ _
 exact zbj5 (zbj5 ⟨_,rfl,zbj5 (q _ k2 (Heap.SameBut.update ..))⟩)
theorem raw_end {it d:Addr}{ep:Nat}{es:Array DictEntry}{Q:Option Value→zbj7→Prop} (hh:A.handled=none) (ki:s.heap.IsKeyIter it d es.size es.size ep) (x:RawD s.heap d es ep)
  (q:∀h',Heap.ExtBut it s.heap h'→Q none { s with heap:=h' }):wpAny (model prog w) A (pyNext (.ref it)) Q E s:=by
 have ty:=ki.typeIs
 obtain⟨o,ho,hc,hd⟩:=ki
 obtain⟨od,a,r,dd⟩:=x
 have ow:Builtin.Dict_items.ownsTuple "dict_keyiterator"=false:=by decide
 have nn : ¬ ((Value.ref d == Value.none)=true):=zbk4
 unfold pyNext
 refine zbi8 (wpAny_attempt (wpAny_callSpecial?_slot (name:=Str.ofString "__next__") ty F.slot_dict_keyiterator_next (wpAny_call_entry F.slot_dict_keyiterator_next ty F.entry_dict_keyiterator_next ?_ (F.args_dict_keyiterator_next_1 _))))
 refine zbi8 (zbj5 (zbi8 (zbi8 ?_)))
 first | refine zbi8 (wpAny_typeNameOfWhole_keyiter ty (zbj5 (zbi8 (wpAny_fieldsOf ho hd ?_)))) |refine zbi8 (wpAny_typeNameOf_keyiter ty (zbj5 (zbi8 (wpAny_fieldsOf ho hd ?_))))
 simp only [ow,zbl2,if_false]
 show wpAny _ _ (if (Value.ref d == Value.none)=true then _ else _) _ _ s
 rw [if_neg nn]
 refine zbi8 (zbj5 (zbi8 (wpAny_dictEntries a dd ?_)))
 rw [if_neg (by simp)]
 refine zbi8 (zbj5 (zbi8 (wpAny_dictEpoch a dd ?_)))
 rw [if_neg (by simp)]
 refine zbj5 ?_
 have ng : ¬ ((es.size:Int)<0):=by lia
 simp only [ng,if_false,zbl5,zbs8 (zbk1 es.size)]
 refine zbi8 ?_
 first | refine zbi8 (wpAny_typeNameOfWhole_keyiter ty (zbj5 ?_)) |refine zbi8 (wpAny_typeNameOf_keyiter ty (zbj5 ?_))
 show wpAny _ _ (setField (.ref it) 0 .none >>= _) _ _ s
 refine zbi8 (wpAny_setField ho hd (by simp) ?_)
 show wpAny _ _ (newExc (.type "StopIteration") [] >>= _) _ _ _
 refine zbi8 ?_
 simp only [newExc,newTuple]
 refine zbi8 (wpAny_newObj_type (zbi8 (m:=firstArgMember _ _) (wpAny_of_eq (a:=Value.none) (by first | rfl | (simp only [firstArgMember];rfl)) ?_)) (by size_fits))
 refine wpAny_newObj_type ?_ (by size_fits)
 simp only [raiseNew]
 refine zbi8 (wpAny_handled ?_)
 rw [show A.in1.handled=none from hh]
 refine zbi8 (zbj5 (wpAny_throw ?_))
 refine zbi8 (wpAny_isInstance (T := "StopIteration") (b:=true) ⟨_,zbj9 _ rfl,rfl⟩ isSubtype_stop ?_)
 exact zbj5 (q _ (((Heap.SameBut.update ..).extBut.push _).push _))
theorem zaw7 (hh:A.handled=none) (I d:Addr) (hne:d≠I) (es:Array DictEntry) (ep:Nat):Walks prog w A I [I,d] [I] es.size (fun i v => ∃h:i<es.size,v=es[i].key) (fun i h=>h.IsKeyIter I d i es.size ep∧RawD h d es ep) where
 sub:=fun b hb=>by simp at hb;simp [hb]
 frame:=fun _ _ _ st hk=>⟨(let ⟨o,a,r⟩:=st.1;⟨o,hk I (by simp) o a,r⟩),st.2.at fun o e=>hk d (by simp) o e⟩
 item:=fun i s Q E hi st hQ=>raw_head st.1 st.2 hi fun h' k sb=>hQ _ h' s.toks ⟨hi,rfl⟩ ⟨k,st.2.at fun o e=>sb.extBut d o hne e⟩ fun b o hb e=>sb.extBut b o (fun z=>hb (by simp [z])) e
 done:=fun s Q E st hQ=>raw_end hh st.1 st.2 fun h' x=>hQ h' s.toks fun b o hb e=>x b o (fun z=>hb (by simp [z])) e
 self:=fun _ _ _ _ st hQ=>wpAny_pyIter_keyiter st.1 hQ
end
end TS
namespace TS
section
variable {prog:Program}{w:World}{A:Around}{E:Value→zbj7→Prop}{s:zbj7}
theorem ext_raw {R:Result→zbj7→Prop}{d:Addr}{es:Array DictEntry}{ep:Nat} (hh:A.handled=none) (nm:(d == sysModules)=false) (x:RawD s.heap d es ep) (hz:es.size≤100000) (S:Addr) (res:Value) (c₀:Nat) (hS:s.heap.get? S=some { cls:=.type "list",data:=.seq #[] c₀ })
  (hR:∀h' tk acc' c',(∀b o,b≠S→s.heap.get? b=some o→h'.get? b=some o)→h'.get? S=some { cls:=.type "list",dict:=none,data:=.seq acc' c',slots := #[] }→ItemsOf (fun i v => ∃h:i<es.size,v=es[i].key) acc' es.size→R (.ok (.ret res)) { s with heap:=h',toks:=tk }) :
  wpAny (model prog w) A.in1 (Builtin.List.listExtendWith (.ref S) (.ref d) res) (fun fin s'=>match fin with | .done f=>R (.ok f) s' | .again c'=>c'.quiet=true∧codeAny (model prog w) A c' R s') (fun e s'=>R (.error e) s') s:=by
 obtain⟨o,a,r,dd⟩:=id x
 have Sd:S≠d:=fun e=>by
  rw [e,a]at hS
  have:o.cls=.type "list":=by rw [Option.some.inj hS]
  rw [r.1]at this
  exact absurd this (by decide +kernel)
 have dI:d≠s.heap.objs.size:=zbl3 (zbj8 a)
 have SI:S≠s.heap.objs.size:=zbl3 (zbj8 hS)
 have W:=(zaw7 (prog:=prog) (w:=w) (A:=A.in1) hh s.heap.objs.size d dI es ep).toS
 unfold Builtin.List.listExtendWith
 refine zbi8 (wpAny_typeOf (T := "dict") x.ty ?_)
 have h1:Builtin.List.listSameRef (.ref S) (.ref d)=false:=by simp [Builtin.List.listSameRef,Sd]
 simp only [h1,show (Value.type "dict" == Value.type "list")=false by decide,show (Value.type "dict" == Value.type "tuple")=false by decide,Bool.or_false,zbl2,if_false]
 refine zbi8 (raw_iter nm x ?_)
 have x1:RawD (s.heap.push { cls:=.type "dict_keyiterator",data:=.fields #[.ref d,.int 0 0,.int es.size 0,.int ep 0] }) d es ep:=x.at fun o e=>zbj0 _ e
 refine zbi8 (wpAny_holding (PySem.W.kdl_hint_dict (RawD.ty (s:={ s with heap:=s.heap.push { cls:=.type "dict_keyiterator",data:=.fields #[.ref d,.int 0 0,.int es.size 0,.int ep 0] } }) x1) ?_))
 have kI:(s.heap.push { cls:=.type "dict_keyiterator",data:=.fields #[.ref d,.int 0 0,.int es.size 0,.int ep 0] }).IsKeyIter s.heap.objs.size d 0 es.size ep:=⟨_,zbj9 _ rfl,rfl,rfl⟩
 have key:∀(h:Heap) (c₁ tk:Nat),h.IsKeyIter s.heap.objs.size d 0 es.size ep→RawD h d es ep→(∀b o,b≠S→s.heap.get? b=some o→h.get? b=some o)→h.get? S=some { cls:=.type "list",data:=.seq #[] c₁ } →
   codeAny (model prog w) A (.builtin "list.extend.loop" ⟨[.ref S,.ref s.heap.objs.size,res],[]⟩) R { s with heap:=h,toks:=tk }:=by
  intro h c₁ tk k1 x2 hk g1
  refine codeAny_extend_loopS W (by rw [sizeLine_eq];lia) S (fun hm=>?_) res es.size 0 _ #[] c₁ rfl (zbq5 _) ⟨k1,x2⟩ g1 (ItemsOf.nil _) fun s' acc' c' hm hS' hacc=>?_
  ·simp only [zbj4,zbm7,or_false]at hm
   exact hm.elim SI Sd
  ·rw [Moved.eq_with hm]
   refine hR s'.heap s'.toks acc' c' (fun b o hb e=>hm.heap b o (fun hmem=>?_) (hk b o hb e)) hS' hacc
   rcases zbj4.mp hmem with e' |hmem
   ·exact hb e'
   ·exact absurd (zbj8 e) (by rw [zbl4.mp hmem];exact zbo6 _)
 have g1:=zbj0 { cls:=.type "dict_keyiterator",data:=.fields #[.ref d,.int 0 0,.int es.size 0,.int ep 0] } hS
 refine wpAny_ite_split (fun _=>?_) (fun _=>zbj5 ⟨plainId_quiet F.plain_extend_loop _,key _ c₀ _ kI x1 (fun b o _ e=>zbj0 _ e) g1⟩)
 refine zbi8 (wpAny_rule (zbi8 ?_))
 show wpAny _ _ (updateSeq S (·.push .none) >>= fun _=>updateSeq S (·.pop)) _ _ _
 refine zbi8 (wpAny_updateSeq g1 rfl ?_)
 have g2:=zbm2 (Obj.mapSeq (·.push Value.none)) g1 rfl
 refine wpAny_updateSeq (hz:=by seq_fits) g2 rfl ?_
 have g3:=zbm2 (Obj.mapSeq (·.pop)) g2 rfl
 have ot:∀ {b:Addr}{o:Obj},b≠S→(s.heap.push { cls:=.type "dict_keyiterator",data:=.fields #[.ref d,.int 0 0,.int es.size 0,.int ep 0] }).get? b=some o→(((s.heap.push { cls:=.type "dict_keyiterator",data:=.fields #[.ref d,.int 0 0,.int es.size 0,.int ep 0] }).update S (Obj.mapSeq (·.push Value.none))).update S (Obj.mapSeq (·.pop))).get? b=some o:=fun {b o} hb e =>
  (zbl7 _ _ (Ne.symm hb)).trans ((zbl7 _ _ (Ne.symm hb)).trans e)
 exact zbj5 ⟨plainId_quiet F.plain_extend_loop _,key _ _ _ (let ⟨o,e,r⟩:=kI;⟨o,ot (Ne.symm SI) e,r⟩) (x1.at fun o e=>ot (Ne.symm Sd) e) (fun b o hb e=>ot hb (zbj0 _ e)) g3⟩
theorem zan8 {d:Addr}{es:Array DictEntry}{ep:Nat}{R:List Value→zbj7→Prop} (hh:A.handled=none) (nm:(d == sysModules)=false) (x:RawD s.heap d es ep) (hz:es.size≤100000)
  (h:∀(h':Heap) (tk:Nat) (us:List Value),(∀b o,s.heap.get? b=some o→h'.get? b=some o)→s.heap.objs.size≤h'.objs.size→ItemsOf (fun i v => ∃h:i<es.size,v=es[i].key) us.toArray es.size→R us { s with heap:=h',toks:=tk }) :
  wpAny (model prog w) A (collect (.ref d)) R E s:=by
 unfold collect
 refine zbi8 (wpAny_runValue (codeAny_builtin entry_proto_collect' ?_))
 rw [Around.under_plainId zbt9 _]
 show wpAny _ A.in1 (newList [] >>= fun l=>again (.builtin "list.__iadd__" ⟨[l,.ref d],[]⟩)) _ _ s
 refine zbi8 (wpAny_newObj_type ?_)
 refine zbj5 ⟨plainId_quiet zbq1 _,codeAny_builtin entry_list_iadd' ?_⟩
 rw [Around.under_plainId zbq1 _]
 have g0:(s.heap.push { cls:=.type "list",data:=.seq ([]:List Value).toArray }).get? s.heap.objs.size=some { cls:=.type "list",data:=.seq #[] }:=zbj9 _ rfl
 have key:=ext_raw (A:=A) (s:={ s with heap:=s.heap.push { cls:=.type "list",data:=.seq ([]:List Value).toArray } }) (prog:=prog) (w:=w)
  (R:=fun (q:Result) (s':zbj7) => ∃(h':Heap) (tk:Nat) (acc':Array Value) (c':Nat),q=.ok (.ret (.ref s.heap.objs.size))∧s'={ s with heap:=h',toks:=tk } ∧
   (∀b o,s.heap.get? b=some o→h'.get? b=some o)∧s.heap.objs.size≤h'.objs.size∧h'.get? s.heap.objs.size=some { cls:=.type "list",dict:=none,data:=.seq acc' c',slots := #[] }∧ItemsOf (fun i v => ∃h:i<es.size,v=es[i].key) acc' es.size)
  hh nm (x.at fun o e=>zbj0 _ e) hz s.heap.objs.size (.ref s.heap.objs.size) 0 g0
  (fun h' tk acc' c' hk hS' hacc=>⟨h',tk,acc',c',rfl,rfl,fun b o e=>hk b o (zbl3 (zbj8 e)) (zbj0 _ e),zbs4 (zbj8 hS'),hS',hacc⟩)
 show wpAny _ A.in1 (Builtin.List.listExtendWith (.ref s.heap.objs.size) (.ref d) (.ref s.heap.objs.size)) _ _ _
 refine wpAny_mono key (fun fin s' y=>?_) fun e s' y=>?_
 ·cases fin with
  |done f =>
   obtain⟨h',tk,acc',c',e,rfl,hk,hz',hS',hacc⟩:=y
   cases e
   show wpAny _ A (load s.heap.objs.size >>= _) _ _ _
   exact zbi8 (wpAny_load hS' (zbj5 (h h' tk acc'.toList hk hz' (by simpa using hacc))))
  |again c₁ =>
   refine⟨y.1,codeAny_mono y.2 fun q s₂ z=>?_⟩
   obtain⟨h',tk,acc',c',rfl,rfl,hk,hz',hS',hacc⟩:=z
   show wpAny _ A (load s.heap.objs.size >>= _) _ _ _
   exact zbi8 (wpAny_load hS' (zbj5 (h h' tk acc'.toList hk hz' (by simpa using hacc))))
 ·obtain⟨_,_,_,_,e',_⟩:=y
  cases e'
theorem zab5 {es:Array DictEntry}{us:List Value} (h:ItemsOf (fun i v => ∃h:i<es.size,v=es[i].key) us.toArray es.size):us=es.toList.map (·.key):=by
 obtain⟨h1,h2⟩:=h
 have l:us.length=es.size:=by simpa using h1
 refine zbt4 (by simpa using l) fun i a b=>?_
 obtain⟨_,e⟩:=h2 i us[i] (by simp [a])
 rw [e]
 simp
end
end TS
namespace TS
noncomputable def TupAt (h:Heap) (a:Addr) (p:Int×Int):Prop := ∃o t1 t2 n,h.get? a=some o∧o.cls=.type "tuple"∧o.data=.seq #[.int p.1 t1,.int p.2 t2] n
theorem TupAt.at {h h':Heap}{a:Addr}{p:Int×Int} (x:TupAt h a p) (k:∀o,h.get? a=some o→h'.get? a=some o):TupAt h' a p:=let ⟨o,t1,t2,n,e,r⟩:=x;⟨o,t1,t2,n,k o e,r⟩
def adr:Value→Addr
 |.ref a=>a
 |_=>0
section
variable {prog:Program}{w:World}{A:Around}{E:Value→zbj7→Prop}{s:zbj7}
theorem zbg0 {a₀:Array Keyed}{f:Addr→Int×Int} (hk:∀z∈a₀.toList,∃a,z.1=.ref a∧TupAt s.heap a (f a)∧0≤(f a).2∧(f a).2<1048576):Cmp (model prog w) A E s (fun z=>rkP (f (adr z.1))) (fun _=>0) a₀ (tuples' true) where
 lt:=fun st x y Q hkd mx my h=>by
  obtain⟨a,ea,⟨o,t1,t2,n,g,c,d⟩,l1,l2⟩:=hk x mx
  obtain⟨b,eb,⟨o',u1,u2,n',g',c',d'⟩,m1,m2⟩:=hk y my
  have ex:rkP (f (adr x.1))=(f a).1*1048576+(f a).2:=by rw [ea];rfl
  have ey:rkP (f (adr y.1))=(f b).1*1048576+(f b).2:=by rw [eb];rfl
  rw [lt'_eq]
  refine zbn8 (wpS_get ?_)
  rw [hkd,ea,eb]
  refine zbn8 (wpS_lift (wpAny_attempt (PySem.W.kat_lt g d g' d' (zca1 (wpAny_eqBool_int (zcc4 (fun e=>?_) fun e=>?_))))))
  ·have e:(f a).1=(f b).1:=of_decide_eq_true e
   refine zca9 (zca1 (wpAny_eqBool_int (zcc4 (fun e2=>?_) fun e2=>?_)))
   ·have e2:(f a).2=(f b).2:=of_decide_eq_true e2
    refine zca9 (PySem.W.kat_nil ⟨rfl,?_⟩)
    rw [show rkP (f (adr x.1))=rkP (f (adr y.1)) by rw [ex,ey,e,e2]]at h
    simpa using zbp3 h
   ·have e2 : ¬ (f a).2=(f b).2:=of_decide_eq_false e2
    refine zcc5 (PySem.W.kat_one _ _ (lt_int ?_))
    show s=s∧_
    refine⟨rfl,?_⟩
    rw [show decide (rkP (f (adr x.1))<rkP (f (adr y.1)))=decide ((f a).2<(f b).2) by rw [ex,ey,e];exact decide_eq_decide.mpr (by lia)]at h
    exact zbp3 h
  ·have e : ¬ (f a).1=(f b).1:=of_decide_eq_false e
   refine zcc5 (oneLt_int ⟨rfl,?_⟩)
   rw [show decide (rkP (f (adr x.1))<rkP (f (adr y.1)))=decide ((f a).1<(f b).1) by rw [ex,ey];exact decide_eq_decide.mpr (by lia)]at h
   exact zbp3 h
 pi:=fun x _=>⟨zbo0 _,by decide⟩
theorem zaz2 (bs:List Addr):(((bs.map Value.ref).toArray.zip (bs.map Value.ref).toArray)).toList=bs.map fun b=>(Value.ref b,Value.ref b):=by
 rw [zaz5,zbs5]
 rfl
theorem pr_out {bs:List Addr}{f:Addr→Int×Int} (hb:∀b∈bs,0≤(f b).2∧(f b).2<1048576) (arr:Array Keyed) (hp:arr.Perm ((bs.map Value.ref).toArray.zip (bs.map Value.ref).toArray)) (hr:Ris (fun z=>rkP (f (adr z.1))) (fun _=>0) arr.toList) :
  ∃out:List Addr,out.Perm bs∧out.map f=sortP (bs.map f)∧arr.map (·.2)=(out.map Value.ref).toArray:=by
 have hpl:=zbr2.mp hp
 rw [zaz2]at hpl
 have p1:(arr.toList.map fun z=>adr z.2).Perm bs:=by
  have q:=hpl.map fun z=>adr z.2
  rw [zbs5]at q
  have e:bs.map ((fun z:Keyed=>adr z.2) ∘ fun b=>(Value.ref b,Value.ref b))=bs:=by
   rw [show ((fun z:Keyed=>adr z.2) ∘ fun b=>(Value.ref b,Value.ref b))=id from rfl,List.map_id]
  rw [e]at q
  exact q
 have each:∀z∈arr.toList,z.1=z.2∧z.2=Value.ref (adr z.2):=fun z hz=>by
  obtain⟨b,_,rfl⟩:=zbm9.mp (hpl.mem_iff.mp hz)
  exact⟨rfl,rfl⟩
 refine⟨arr.toList.map fun z=>adr z.2,p1,?_,?_⟩
 ·refine uniqP (fun p hp'=>?_) ((p1.map f).trans (sortP_perm _).symm) ?_ (zu2 _)
  ·obtain⟨b,m,rfl⟩:=zbm9.mp hp'
   exact hb b (p1.mem_iff.mp m)
  ·rw [zbs5]
   refine zbz2.mpr ((List.Pairwise.and_mem.mp hr).imp fun {a b} hab=>?_)
   obtain⟨ma,mb,q⟩:=hab
   have e1:=(each a ma).1
   have e2:=(each b mb).1
   have q':rkP (f (adr a.1))*1048576+0≤rkP (f (adr b.1))*1048576+0:=q
   rw [e1,e2]at q'
   show rkP (f (adr a.2))≤rkP (f (adr b.2))
   lia
 ·refine Array.toList_inj.mp ?_
  rw [Array.toList_map,zby0,zbs5]
  exact zbx9 fun z hz=>(each z hz).2
theorem zad7 (bs:List Addr):((bs.map Value.ref).toArray.zip (bs.map Value.ref).toArray).size=bs.length:=by rw [zau1,zbk3]
theorem zaq7 {α:Type}{R:α→α→Prop}:∀ {l:List α},l.length≤1→l.Pairwise R
 |[],_=>List.Pairwise.nil
 |[z],_=>zbw0 _ _
theorem zaz3 {h:Heap}{f:Addr→Int×Int}:∀ {bs:List Addr},(∀b∈bs,TupAt h b (f b))→∃fs:List Value,PySem.W.KatTups h (bs.map Value.ref) fs∧fs.length=bs.length∧∀v∈fs,∃n t,v=.int n t
 |[],_=>⟨[],.nil,rfl,fun v hv=>by cases hv⟩
 |b::bs,ht=>by
  obtain⟨fs,k,l,r⟩:=zaz3 (bs:=bs) fun x hx=>ht x (zbi6 _ hx)
  obtain⟨o,t1,t2,n,e,c,d⟩:=ht b (zbi9 ..)
  refine⟨.int (f b).1 t1::fs,.cons e c d rfl k,by simp [l],fun v hv=>?_⟩
  rcases zbj4.mp hv with z | z
  ·exact⟨_,_,z⟩
  ·exact r v z
end
end TS
namespace L2
open PySem.Spec TS
def twoH (H:Hp) (b:Addr):Int×Int:=match H b with
 |some (.tup [.int x,.int y])=>(x,y)
 |_=>(0,0)
section
variable {X:Cx}
theorem tup_at {pins:List (Addr×Obj)}{s:zbj7}{σ:L2.St}{H:Hp} (I:Inv X pins σ H s) {b:Addr}{x y:Int} (h:H b=some (.tup [.int x,.int y])):TupAt s.heap b (twoH H b):=by
 obtain⟨_,its,rv,o,e,c,d⟩:=(show ObjOk X.prog X.w H s.heap b (.tup [.int x,.int y]) from I.hok b _ h)
 have et:twoH H b=(x,y):=by unfold twoH;rw [h]
 rw [et]
 cases rv with
 |cons r1 rv =>
  cases rv with
  |cons r2 rv =>
   cases rv
   obtain⟨t1,rfl⟩:=r1
   obtain⟨t2,rfl⟩:=r2
   first
    |exact⟨o,t1,t2,_,e,c,d⟩
    |(obtain⟨n,d⟩:=d;exact⟨o,t1,t2,n,e,c,d⟩)
theorem dt_keys {pins:List (Addr×Obj)}{s:zbj7}{σ:L2.St}{H:Hp} (I:Inv X pins σ H s) {p:Addr}{ps:List (Int×Int)} (h:H p=some (.dT (DL.pkv ps))) :
  (p == sysModules)=false∧∃(bs:List Addr) (es:Array DictEntry) (ep:Nat),RawD s.heap p es ep∧es.toList.map (·.key)=bs.map Value.ref∧bs.map (twoH H)=ps∧∀b∈bs,∃x y:Int,H b=some (.tup [.int x,.int y]):=by
 obtain⟨_,nm,xs,pr,o,es,ep,e,ex,d,ek,_⟩:=(show ObjOk X.prog X.w H s.heap p (.dT (DL.pkv ps)) from I.hok p _ h)
 refine⟨nm,xs.map (·.2.1),es,ep,⟨o,e,ex,d⟩,?_,?_,?_⟩
 ·rw [ek,zbs5,zbs5]
  rfl
 ·clear ek e d
  have:∀ {qs:List (Int×Int)}{xs:List (List Key×Addr×Value)},Paired (fun (p:List Key×V) (q:List Key×Addr×Value)=>p.1=q.1∧H q.2.1=some (.tup (p.1.map kV))∧RelV p.2 q.2.2) (DL.pkv qs) xs→(xs.map (·.2.1)).map (twoH H)=qs:=by
   intro qs
   induction qs with
   |nil=>intro xs hp;cases hp;rfl
   |cons q qs ih =>
    intro xs hp
    cases hp with
    |@cons _ b _ _ h1 h2 =>
     have e:twoH H b.2.1=q:=by
      unfold twoH
      rw [h1.2.1]
      rfl
     simp only [zbk5]
     rw [ih h2,e]
  exact this pr
 ·intro b hb
  obtain⟨x,hx,rfl⟩:=zbm9.mp hb
  have:∀ {qs:List (Int×Int)}{xs:List (List Key×Addr×Value)},Paired (fun (p:List Key×V) (q:List Key×Addr×Value)=>p.1=q.1∧H q.2.1=some (.tup (p.1.map kV))∧RelV p.2 q.2.2) (DL.pkv qs) xs→∀x∈xs,∃a b:Int,H x.2.1=some (.tup [.int a,.int b]):=by
   intro qs
   induction qs with
   |nil=>intro xs hp x hx;cases hp;cases hx
   |cons q qs ih =>
    intro xs hp x hx
    cases hp with
    |cons h1 h2 =>
     rcases zbj4.mp hx with rfl | w
     ·exact⟨q.1,q.2,h1.2.1⟩
     ·exact ih h2 x w
  exact this pr x hx
theorem zag7:∀out:List Addr,Vals (out.map V.ref) (out.map Value.ref)
 |[]=>.nil
 |a::out=>.cons rfl (zag7 out)
end
end L2
namespace DL
open PySem.Spec L2 TS
section
variable {X:Cx}{F:List Addr}
def prD2 (q:Int×Int):D:=.tup [.int q.1,.int q.2]
theorem zab1 {K:zbi5}{H H':Hp}:∀ {out:List Addr},(∀b∈out,∃x y:Int,H b=some (.tup [.int x,.int y])∧H' b=some (.tup [.int x,.int y]))→Reps K H' ((out.map (twoH H)).map prD2) (out.map V.ref)
 |[],_=>.nil
 |b::out,h=>by
  obtain⟨x,y,e,e'⟩:=h b (zbi9 ..)
  have et:twoH H b=(x,y):=by unfold twoH;rw [e]
  simp only [zbk5,et]
  exact .cons (.tup (SqT.of e') (.cons (.int x) (.cons (.int y) .nil))) (zab1 fun c hc=>h c (zbi6 _ hc))
end
end DL
namespace TS
section
variable {prog:Program}{w:World}{A:Around}{E:Value→zbj7→Prop}{s:zbj7}
theorem zbb9 {a:Addr}{bs:List Addr}{f:Addr→Int×Int}{n:Nat}{P:PySem.Fin→zbj7→Prop} (ho:s.heap.get? a=some (seqObj "list" (bs.map Value.ref).toArray n)) (ht:∀b∈bs,TupAt s.heap b (f b)) (hb:∀b∈bs,0≤(f b).2∧(f b).2<1048576) (hz:bs.length<64)
  (h:∀out:List Addr,out.Perm bs→out.map f=sortP (bs.map f)→P (.done (.ret .none)) { s with heap:=sortedHeap s.heap a (bs.map Value.ref) (out.map Value.ref).toArray }):wpAny (model prog w) A (Builtin.«list.sort» ⟨[.ref a],[]⟩) P E s:=by
 have na:∀b∈bs,b≠a:=fun b m z=>by
  obtain⟨o,_,_,_,e,c,_⟩:=ht b m
  rw [z,ho]at e
  have:(seqObj "list" (bs.map Value.ref).toArray n).cls=.type "tuple":=by rw [Option.some.inj e];exact c
  have q:(Value.type "list")=.type "tuple":=this
  exact absurd q (by decide +kernel)
 have lv:(bs.map Value.ref).length=bs.length:=zbk3 ..
 obtain⟨e1,ho1⟩:∃e1,(s.heap.update a (Obj.mapSeq fun _=>(#[]:Array Value))).get? a=some (seqObj "list" #[] e1):=⟨_,get?_update_seq ho fun _ => #[]⟩
 have ho2:(((s.heap.update a (Obj.mapSeq fun _=>(#[]:Array Value))).push (seqObj "tuple" (bs.map Value.ref).toArray 0)).push (seqObj "list" #[] 0)).get? a=some (seqObj "list" #[] e1):=zbj0 _ (zbj0 _ ho1)
 have ht2:∀b∈bs,TupAt (((s.heap.update a (Obj.mapSeq fun _=>(#[]:Array Value))).push (seqObj "tuple" (bs.map Value.ref).toArray 0)).push (seqObj "list" #[] 0)) b (f b):=fun b m=>(ht b m).at fun o e=>zbj0 _ (zbj0 _ ((zbl7 _ _ (Ne.symm (na b m))).trans e))
 rw [list_sort_plain]
 refine zbi8 (listItems_at ho rfl ?_)
 refine zbi8 (listUpdate_at ho rfl ?_ (by rw [zbk0,sizeLine_eq];lia) (zbq5 _))
 refine zbi8 (seqEpoch_at ho1 rfl ?_)
 refine zbi8 (wpAny_newTuple ?_ (by show (bs.map Value.ref).length≤_;rw [sizeLine_eq];lia))
 refine zbi8 (wpAny_newList ?_ (zbq5 _))
 refine wpAny_holding ?_
 have hv2:(bs.map Value.ref).toArray.size=bs.length:=by simp
 by_cases h2:(bs.map Value.ref).toArray.size<2
 ·rw [if_pos h2,if_pos h2]
  refine zbi8 (zbj5 ?_)
  dsimp only
  rw [StateT.run_pure]
  refine zbi8 (zbj5 ?_)
  dsimp only
  obtain⟨out,q1,q2,q3⟩:=pr_out hb _ (Array.Perm.refl _) (by
   unfold Ris
   rw [zaz2]
   exact zaq7 (by rw [zbk3];lia))
  refine zbi8 (seqEpoch_at ho2 rfl ?_)
  refine zbi8 (listUpdate_at ho2 rfl ?_ (zbq5 _) (by
   show (((bs.map Value.ref).toArray.zip (bs.map Value.ref).toArray).map (·.2)).size≤_
   rw [Array.size_map,zad7,sizeLine_eq];lia))
  simp only [bne_self_eq_false,zbl2,if_false]
  have:=h out q1 q2
  rw [← q3]at this
  exact zbj5 this
 ·rw [if_neg h2,if_neg h2]
  obtain⟨fs,kt,fl,fi⟩:=zaz3 ht2
  refine zbi8 (PySem.W.kat_kind (T:=.type "int") kt (by lia) (fun v hv=>?_) (by decide) ?_)
  ·obtain⟨n,t,rfl⟩:=fi v hv
   exact .now
  rw [show (Value.type "int" != Value.type "tuple")=true by decide]
  have C:Cmp (model prog w) A E { s with heap:=((s.heap.update a (Obj.mapSeq fun _=>(#[]:Array Value))).push (seqObj "tuple" (bs.map Value.ref).toArray 0)).push (seqObj "list" #[] 0) } (fun z=>rkP (f (adr z.1))) (fun _=>0) ((bs.map Value.ref).toArray.zip (bs.map Value.ref).toArray) (tuples' true):=zbg0 fun z hz'=>by
   rw [zaz2]at hz'
   obtain⟨b,m,rfl⟩:=zbm9.mp hz'
   exact⟨b,rfl,ht2 b m,hb b m⟩
  dsimp only
  refine zbi8 (wpAny_mono (wp_runs6 C (st:=SortSt.mk' (tuples' true) ((bs.map Value.ref).toArray.zip (bs.map Value.ref).toArray) #[] 7 none) (Q:=fun _ st'=>TB ((bs.map Value.ref).toArray.zip (bs.map Value.ref).toArray) (tuples' true) st'∧Ris (fun z=>rkP (f (adr z.1))) (fun _=>0) (arrOf st').toList) ⟨Array.Perm.refl _,rfl,rfl⟩ rfl rfl (List.pairwise_of_forall (fun _ _=>zbo0 _)) (by rw [zad7];lia) (by rw [zad7];lia) fun st' a b=>⟨a,b⟩) ?_ fun _ _ e=>e)
  rintro ⟨⟨⟩,st'⟩ s' ⟨rfl,tb,rs⟩
  obtain⟨out,q1,q2,q3⟩:=pr_out hb (arrOf st') tb.pm rs
  dsimp only at tb rs ⊢
  refine zbi8 (seqEpoch_at ho2 rfl ?_)
  refine zbi8 (listUpdate_at ho2 rfl ?_ (zbq5 _) (by
   show ((arrOf st').map (·.2)).size≤_
   rw [Array.size_map,tb.pm.size_eq,zad7,sizeLine_eq];lia))
  rw [tb.fld]
  simp only [bne_self_eq_false,zbl2,if_false]
  have:=h out q1 q2
  rw [← q3]at this
  exact zbj5 this
end
end TS
namespace L2
open PySem.Spec TS
section
variable {X:Cx}
theorem zaf3 (hc:X.calm=true):zn7 X (.builtin "sorted") (fun xs H Q => ∃(p:Addr) (ps:List (Int×Int)),xs=[.ref p]∧H p=some (.dT (DL.pkv ps))∧ps.length<64∧(∀q∈ps,0≤q.2∧q.2<1048576) ∧
  ∀l (out:List Addr),H l=none→out.map (twoH H)=sortP ps→(∀b∈out,∃x y:Int,H b=some (.tup [.int x,.int y]))→Q (.ref l) (upd H l (.lst (out.map V.ref)))):=by
 intro pins s σ H xs us Q I r h
 obtain⟨p,ps,rfl,hp,hb,hr,q⟩:=h
 obtain⟨u,rfl,ru⟩:=zz7 r
 cases ru
 obtain⟨nm,bs,es,ep,x,ek,ef,et⟩:=dt_keys I hp
 have bl:bs.length=ps.length:=by rw [← ef,zbk3]
 have esz:es.size=bs.length:=by
  have:=congrArg List.length ek
  simpa using this
 refine zax9 (P:=fun us=>us=bs.map Value.ref) (args_sorted1 _) (fun _=>args_list_sort _) (fun R hR=>?_) (fun h' tk us hk hz hu hlen=>?_)
 ·refine zan8 (I.ok.hd hc) nm x (by lia) fun h' tk us hk hz hit=>hR h' tk us hk hz ((zab5 hit).trans ek) ?_
  have:=congrArg List.length ((zab5 hit).trans ek)
  simp only [zbk3]at this
  lia
 ·subst hu
  have tu:∀b∈bs,TupAt (h'.push (seqObj "list" (bs.map Value.ref).toArray 0)) b (twoH H b):=fun b m=>by
   obtain⟨a,c,e⟩:=et b m
   exact (tup_at I e).at fun o z=>zbj0 _ (hk b o z)
  refine zbb9 (s:={ s with heap:=h'.push (seqObj "list" (bs.map Value.ref).toArray 0),toks:=tk }) (f:=twoH H) (zbj9 _ rfl) tu (fun b m=>?_) (by lia) fun out po pf=>⟨rfl,?_⟩
  ·exact hr _ (by rw [← ef];exact zbm9.mpr ⟨b,m,rfl⟩)
  have fr:s.heap.objs.size≤h'.objs.size:=hz
  have g0:(h'.push (seqObj "list" (bs.map Value.ref).toArray 0)).get? h'.objs.size=some (seqObj "list" (bs.map Value.ref).toArray 0):=zbj9 _ rfl
  obtain⟨e1,g1⟩:∃e1,((h'.push (seqObj "list" (bs.map Value.ref).toArray 0)).update h'.objs.size (Obj.mapSeq fun _=>(#[]:Array Value))).get? h'.objs.size=some (seqObj "list" #[] e1):=⟨_,get?_update_seq g0 fun _ => #[]⟩
  obtain⟨k,g2⟩:∃k,(sortedHeap (h'.push (seqObj "list" (bs.map Value.ref).toArray 0)) h'.objs.size (bs.map Value.ref) (out.map Value.ref).toArray).get? h'.objs.size=some (seqObj "list" (out.map Value.ref).toArray k):=⟨_,get?_update_seq (zbj0 _ (zbj0 _ g1)) fun _=>(out.map Value.ref).toArray⟩
  have ol:out.length≤50000:=by rw [po.length_eq];lia
  refine⟨.ref _,_,I.laid (o:=HO.lst (out.map V.ref)) (fun b o e=>?_) fr ⟨?_,out.map Value.ref,k,zag7 out,by simpa [seqObj] using g2⟩,rfl,q _ out (I.hok.fresh fr) (by rw [pf,ef]) fun b m=>et b (po.mem_iff.mp m)⟩
  ·have e2:=hk b o e
   have nb:h'.objs.size≠b:=zbr5 (zbj8 e2)
   unfold sortedHeap
   exact (zbl7 _ _ nb).trans (zbj0 _ (zbj0 _ ((zbl7 _ _ nb).trans (zbj0 _ e2))))
  ·refine DL.le_line ?_
   rw [zbk3];lia
end
end L2
namespace DL
open PySem.Spec L2 TS
section
variable {X:Cx}{F:List Addr}
noncomputable def zx6:List Ev→Option Ev:=fun rs=>match rs with
 |[r]=>(match r.d with
  |.pdc ps=>if ps.length<64∧(ps.all fun q=>decide (0≤q.2∧q.2<1048576))=true then some (.nw ((sortP ps).map prD2)) else none
  |_=>none)
 |_=>none
theorem zbg4 (hc:X.calm=true):CallD X F (.builtin "sorted") zx6:=CallD.of (zaf3 hc) fun H0 H A xs rs e Q m g q ek hq=>by
 unfold zx6 at ek
 split at ek
 case h_2=>cases ek
 cases q with
 |cons q1 q2 =>
  cases q2
  split at ek
  case h_2=>cases ek
  rename_i ps z
  split at ek
  case isFalse=>cases ek
  rename_i c
  cases ek
  have p:=q1.full
  rw [z]at p
  cases p with
  |pdc h1 =>
   refine⟨_,ps,rfl,h1,c.1,fun q hq=>by simpa using zbm6.mp c.2 q hq,fun l out hl ho ht=>?_⟩
   refine hq _ _ (zd2 hl) ⟨l,_,rfl,Same.free g hl,zc6,?_⟩
   rw [← ho]
   refine zab1 fun b hb=>?_
   obtain⟨x,y,eb⟩:=ht b hb
   have nb:b≠l:=fun w=>by rw [w,hl]at eb;cases eb
   have m':Lists H (A++F):=m.mono g
   refine⟨x,y,eb,zc7 (by rw [zd3 nb];exact eb) fun w=>?_⟩
   rcases zbj4.mp w with w | w
   ·exact nb w
   ·obtain⟨o,ho'⟩:=m' b w
    rw [eb]at ho'
    have:=o.2
    rw [← Option.some.inj ho']at this
    cases this
end
end DL
namespace DL
open PySem.Spec L2
def Pn (I:List Nat) (σ σ':L2.St):Prop := ∀i∈I,σ'[i]?=σ[i]?
noncomputable def dP (K:zbi5) (F:List Addr) (I:List Nat) (g:DS):TS:=fun E σ H => ∃A t t',RS K F H A t σ∧g t=some (.nx t')∧∀σ' H' A',Gr A H A' H'→RS K F H' A' t' σ'→Pn I σ σ'→E.nx σ' H'
section
variable {X:Cx}{F:List Addr}{I:List Nat}{a b c:Expr}{es:List Expr}{fa fb fc:DE}{g g1 g2:DS}{ft fu:DT}{pos:Pos}{st:Stmt}{rest:List Stmt}
theorem zaz4 (h1:PS X st (dP X.K F I g1)) (h2:PSs X rest (dP X.K F I g2)):PSs X (st::rest) (dP X.K F I (dSeq g1 g2)):=by
 refine PSs.imp (zp7 h1 h2) ?_
 rintro E σ H ⟨A,t,t2,R,e,h⟩
 unfold dSeq at e
 cases e1:g1 t with
 |none=>rw [e1]at e;cases e
 |some o1 =>
  rw [e1]at e
  cases o1 with
  |nx t'=>exact⟨A,t,t',R,e1,fun σ' H' A' g' R' n'=>⟨A',t',t2,R',e,fun σ'' H'' A'' g'' R'' n''=>h _ _ _ (g'.trans g'') R'' fun i hi=>(n'' i hi).trans (n' i hi)⟩⟩
  |rt r=>cases e
  |bk t2=>cases e
  |ct t2=>cases e
theorem zk8 (h1:PS X st (dP X.K F I g1)):PSs X [st] (dP X.K F I g1):=zad4 h1
theorem zah1 {s1 s2:List Stmt} (hc:PT X c (dT X.K F ft)) (ha:PSs X s1 (dP X.K F I g1)) (hb:PSs X s2 (dP X.K F I g2)):PS X (.If c s1 s2 pos) (dP X.K F I (dIfS ft g1 g2)):=by
 refine PS.imp (ps_if hc ha hb) ?_
 rintro E σ H ⟨A,t,t2,R,e,h⟩
 unfold dIfS at e
 cases e1:ft t with
 |none=>rw [e1]at e;cases e
 |some r1 =>
  rw [e1]at e
  refine⟨A,t,r1,R,e1,fun H1 gs=>?_⟩
  have gr:Gr A H A H1:=Gr.of_same R.mu.left gs
  cases r1 with
  |true=>exact⟨A,t,t2,R.grow gs,e,fun σ' H' A' g' R' n'=>h _ _ _ (gr.trans g') R' n'⟩
  |false=>exact⟨A,t,t2,R.grow gs,e,fun σ' H' A' g' R' n'=>h _ _ _ (gr.trans g') R' n'⟩
theorem zw7 (i:Nat) {x:Str}{p0 tpos:Pos} (hb:PE X b (dE X.K F fb)) (he:PE X a (dE X.K F fa)) (hN:X.N[i]?=some x:=by rfl) (hv:Vis X.env.scope x:=by first | exact Or.inl rfl | exact Or.inr (Or.inl rfl) |exact Or.inr (Or.inr rfl)) (hd:(x ==("__debug__":Str))=false:=by decide)
  (hcd:(x ==("__classdict__":Str))=false:=by decide)
  (ha:∀v,assign (.Subscript (.Name x p0) b tpos) X.env v=(do
   let ov ← holding [v] (eval (.Name x p0) X.env)
   let iv ← holding [v,ov] (eval b X.env)
   standAt tpos
   holding [v,ov,iv] (setItem ov iv v)
   release [v,ov,iv] []):=by intro _;rfl)
  (hs:swapsWithSole [.Subscript (.Name x p0) b tpos] a pos.line X.env=pure false:=by rfl) (hw:swappedStores [.Subscript (.Name x p0) b tpos] a X.env=pure none:=by rfl)
  (h1:(assignEach [.Subscript (.Name x p0) b tpos] X.env).map (·.2)=[assign (.Subscript (.Name x p0) b tpos) X.env]:=by rfl) :
  PS X (.Assign [.Subscript (.Name x p0) b tpos] a pos) (dP X.K F I (zm2 i fb fa)):=by
 refine PS.imp (zaz1 he (pg_sub (zo2 (i:=i) hN hv hd hcd) hb zac7 ha) hs hw h1) ?_
 rintro E σ H ⟨A,t,t2,R,e,h⟩
 unfold zm2 at e
 cases e1:fa t with
 |none=>rw [e1]at e;cases e
 |some r =>
  cases e2:fb t with
  |none=>rw [e1,e2]at e;cases e
  |some kk =>
   rw [e1,e2]at e
   have e:zx7 t i r kk=some (.nx t2):=e
   unfold zx7 at e
   split at e
   case h_2=>cases e
   rename_i xs n z1 z2
   split at e
   case isFalse=>cases e
   rename_i ok
   cases e3:ixN xs.length n with
   |none=>rw [e3]at e;cases e
   |some j =>
    rw [e3]at e
    cases e
    obtain⟨p,vs,a1,a2,a3,a4⟩:=R.rel.getOwn z1
    refine⟨A,t,r,R,e1,fun y H1 gs1 q1=>⟨_,a1,A,t,kk,R.grow gs1,e2,fun w H2 gs2 q2=>?_⟩⟩
    have p2:=q2.full
    rw [z2]at p2
    cases zd1 p2
    have gs:=gs1.trans gs2
    refine⟨p,vs,n,j,rfl,rfl,gs _ _ a3,by rw [a4.length];exact e3,?_⟩
    obtain⟨R',g'⟩:=(R.grow gs).write (es:=xs.set j r.d) (ws:=vs.set j y) z1 a1 (Reps.set ((q1.mono gs2).clean R.mu gs ok) j (Reps.mono (zc8 gs) a4))
    exact h _ _ _ ((Gr.of_same R.mu.left gs).trans g') R' fun _ _=>rfl
end
end DL
namespace DL
open PySem.Spec L2
noncomputable def spT (K:zbi5) (G:D→List D→List D→D→Option (List Int×List Int)):Sp:=fun vs H Q _ => ∃(v0 v3:V) (p q:Addr) (ws us:List V) (d0 d3:D) (xs ys:List D) (r:List Int×List Int),vs=[v0,.ref p,.ref q,v3]∧p≠q∧H p=some (.lst ws)∧H q=some (.lst us) ∧
 Rep K (hide [p,q] H) d0 v0∧Reps K (hide [p,q] H) xs ws∧Reps K (hide [p,q] H) ys us∧Rep K (hide [p,q] H) d3 v3∧G d0 xs ys d3=some r ∧
 ∀H',(∀b o,b≠p→b≠q→H b=some o→H' b=some o)→H' p=some (.lst (r.1.map V.int))→H' q=some (.lst (r.2.map V.int))→Q .non H'
structure CalT (P:Program) (w:World) (K:zbi5) (mg:Str→Option Value) (base:BHeap) (x:Str) (k:Nat) (G:D→List D→List D→D→Option (List Int×List Int)):Prop where
 ex:∃(a:Addr) (fd:FuncData) (ps:List Str),mg x=some (.ref a)∧zbo3 K (.ref a)=true∧L2.Binds K fd ps []∧FnOk P w K mg base CX0 k a fd ps (spT K G)
section
variable {X:Cx}{F:List Addr}
def cShr (i j:Int):Bool:=decide (0≤j)
theorem zbb1:OpD X F (binaryOp .RShift) (kI cShr fun i j=>.int (i / 2 ^ j.toNat)):=zt4 op_shr (fun i j h=>by simpa [cShr] using h) fun _ _ _=>.int _
theorem zbb2:OpD X F (binaryOp .BitAnd) (kI tt2 fun i j=>.int (Builtin.bitAnd i j)):=zt4 (zal1 op_and) (fun _ _ _=>trivial) fun _ _ _=>.int _
end
end DL
namespace DL
open PySem.Spec L2
section
variable {X:Cx}{F:List Addr}{a b c:Expr}{es:List Expr}{fa fb fc:DE}{g g1 g2:DS}{pos:Pos}{gt gt2:TG}{kt kt2:D→Th→Option Th}
noncomputable def fsZ (f f':DE):DI:=fun t=>(f t).bind fun r=>(f' t).bind fun r'=>match r.d,r'.d with
 |.lst ds,.lst es=>some (r.ok&&r'.ok,zipD ds es)
 |_,_=>none
theorem src_zip {K:zbi5}{p p':Addr}{vs ws:List V}{ds es:List D} (hl:vs.length=ds.length) (hl':ws.length=es.length):Src K (zipD ds es) (Itz K p p') (fun P H=>(SqL K (hide P H) p vs∧Reps K (hide P H) ds vs)∧SqL K (hide P H) p' ws∧Reps K (hide P H) es ws) where
 keep:=fun P H P' H' q s=>⟨⟨SqL.mono s q.1.1,Reps.mono s q.1.2⟩,SqL.mono s q.2.1,Reps.mono s q.2.2⟩
 stop:=fun P H q=>⟨vs,ws,SqL.mono (zb0 _ _) q.1.1,SqL.mono (zb0 _ _) q.2.1,by rw [zv3,hl,hl']⟩
 go:=fun P H i q hi=>by
  rw [zv3]at hi
  have hi1:i<vs.length:=by lia
  have hi2:i<ws.length:=by lia
  exact⟨vs,ws,vs[i],ws[i],SqL.mono (zb0 _ _) q.1.1,SqL.mono (zb0 _ _) q.2.1,zbj6 hi1,zbj6 hi2⟩
 yld:=fun P H i x H' q mu y hi=>by
  obtain⟨l,v,u,hl0,rfl,rfl,hv,hu⟩:=y
  obtain⟨d,hd,rd⟩:=q.1.2.getV (hv vs (SqL.mono (zb0 _ _) q.1.1))
  obtain⟨d',hd',rd'⟩:=q.2.2.getV (hu ws (SqL.mono (zb0 _ _) q.2.1))
  have sm:=zd2 (o:=HO.tup [v,u]) hl0
  refine⟨sm,_,zao6 ds es i d d' hd hd',?_⟩
  exact .tup (SqT.of (zc7 zc6 (zd4 mu hl0))) (.cons (Rep.mono (zc8 sm) rd) (.cons (Rep.mono (zc8 sm) rd') .nil))
theorem zar4 {K:zbi5}{A F:List Addr}{H:Hp}{b b':Bool}{d:D}{v:V} (h:Rep K (hide (hidF b A F) H) d v):Rep K (hide (hidF (b&&b') A F) H) d v:=by
 cases b with
 |false=>exact h
 |true =>
  cases b' with
  |true=>exact h
  |false=>exact Rep.mono (zb5 _ fun a z=>zbi4 _ z) h
theorem pid_zip {elts:List Expr}{kk:Nat}{tp p1 p2:Pos} (hge:Gl X "zip") (hm:X.mg "zip"=none) (ha:PE X a (dE X.K F fa)) (hb:PE X b (dE X.K F fb)) (hst:zbk2 [a,b] X.env=(false,eval a X.env)::zbk2 [b] X.env:=by rfl) (hst1:zbk2 [b] X.env=[(false,eval b X.env)]:=by rfl) (hst2:(zbq3 p2 (zbk2 [b] X.env)).any (·.1)=false:=by rfl) :
  PI X (.Tuple elts kk tp) (.Call (.Name "zip" p1) [a,b] [] p2) (dI X.K F (fsZ fa fb)):=by
 refine PI.imp (pi_zip hge hm (zf9 ha (zf9 hb zn9 hst1) hst) hst hst2) ?_
 rintro σ H R ⟨A,t,bb,ds,RR,e,h⟩
 unfold fsZ at e
 cases e1:fa t with
 |none=>rw [e1]at e;cases e
 |some r =>
 cases e2:fb t with
 |none=>rw [e1,e2]at e;cases e
 |some r' =>
  rw [e1,e2]at e
  refine⟨A,t,r,RR,e1,fun v H1 gs1 q1=>⟨A,t,r',RR.grow gs1,e2,fun v2 H2 gs2 q2=>?_⟩⟩
  have e:(match r.d,r'.d with
   |.lst ds,.lst es=>some (r.ok&&r'.ok,zipD ds es)
   |_,_=>none)=some (bb,ds):=e
  split at e
  case h_2=>cases e
  rename_i xs ys z1 z2
  cases e
  have gs:=gs1.trans gs2
  have cl:=zar4 (b':=r'.ok) (RepEv.hidF RR.mu gs (q1.mono gs2))
  rw [z1]at cl
  have cl2:=zar4 (b':=r.ok) (RepEv.hidF RR.mu gs (q2.back gs1))
  rw [z2,Bool.and_comm]at cl2
  cases cl with
  |@lst _ p vs h1 h2 =>
  cases cl2 with
  |@lst _ p' ws h1' h2'=>exact⟨p,p',rfl,⟨vs,SqL.mono (zb0 _ _) h1⟩,⟨ws,SqL.mono (zb0 _ _) h1'⟩,h _ H2 _ gs (src_zip h2.length h2'.length) ⟨⟨h1,h2⟩,h1',h2'⟩⟩
end
end DL
namespace TS
def Up (xs:Array Nat):Prop:=xs.toList.Pairwise (· < ·)
theorem Up.lt {xs:Array Nat} (u:Up xs) {i k:Nat} (h:i<k) (hk:k<xs.size):xs[i]'(by lia)<xs[k]:=by
 have:=zbr7.mp u i k (by simpa using (by lia:i<xs.size)) (by simpa using hk) h
 simpa using this
theorem zbi0 {xs:Array Nat}{j:Nat} (u:Up xs):∀(f lo hi:Nat),hi≤xs.size→hi - lo≤f→lo≤hi→(∀k,k<lo→xs.getD k j<j)→(∀k,hi≤k→k<xs.size→j≤xs.getD k j) →
  SetTable.below.go xs j f lo hi≤xs.size∧(∀k,k<SetTable.below.go xs j f lo hi→xs.getD k j<j)∧∀k,SetTable.below.go xs j f lo hi≤k→k<xs.size→j≤xs.getD k j
 |0,lo,hi,h1,h2,h3,a,b=>by
  have:lo=hi:=by lia
  subst this
  exact⟨h1,a,b⟩
 |f+1,lo,hi,h1,h2,h3,a,b=>by
  unfold SetTable.below.go
  by_cases c:lo<hi
  ·rw [if_pos c]
   dsimp only
   have m1:(lo+hi) / 2<hi:=by lia
   have m2:lo≤(lo+hi) / 2:=by lia
   by_cases d:xs.getD ((lo+hi) / 2) j<j
   ·rw [if_pos d]
    refine zbi0 u f _ hi h1 (by lia) (by lia) (fun k hk=>?_) b
    by_cases e:k=(lo+hi) / 2
    ·rw [e];exact d
    ·have k1:k<(lo+hi) / 2:=by lia
     have k2:(lo+hi) / 2<xs.size:=by lia
     have:=u.lt k1 k2
     simp only [zbq6,zbk8 k2,zbk8 (by lia:k<xs.size),zbt5]at d ⊢
     lia
   ·rw [if_neg d]
    refine zbi0 u f lo _ (by lia) (by lia) m2 a fun k hk hs=>?_
    by_cases e:k=(lo+hi) / 2
    ·rw [e];lia
    ·have k2:(lo+hi) / 2<xs.size:=by lia
     have:=u.lt (by lia:(lo+hi) / 2<k) hs
     simp only [zbq6,zbk8 k2,zbk8 hs,zbt5]at d ⊢
     lia
  ·rw [if_neg c]
   have:lo=hi:=by lia
   subst this
   exact⟨h1,a,b⟩
theorem zbh9 {xs:Array Nat} (u:Up xs) (j:Nat):SetTable.below xs j≤xs.size∧(∀k,k<SetTable.below xs j→xs.getD k j<j)∧∀k,SetTable.below xs j≤k→k<xs.size→j≤xs.getD k j :=
 zbi0 u xs.size 0 xs.size (zbk1 _) (by lia) (zbq5 _) (fun k hk=>by lia) fun k h1 h2=>by lia
theorem zy5 {xs:Array Nat}{k j:Nat} (h:k<xs.size):xs.getD k j=xs[k]:=by simp [zbq6,h]
theorem bel_next {xs:Array Nat} (u:Up xs) {i:Nat} (h:i<xs.size):SetTable.below xs (xs[i] + 1)=i+1:=by
 obtain⟨a,b,c⟩:=zbh9 u (xs[i] + 1)
 generalize SetTable.below xs (xs[i] + 1)=m at *
 have h1 : ¬ m≤i:=fun z=>by have:=c i z h;rw [zy5 h]at this;lia
 have h2 : ¬ i+1<m:=fun z=>by
  have:=b (i+1) z
  have hs:i+1<xs.size:=by lia
  rw [zy5 hs]at this
  have:=u.lt (by lia:i<i+1) hs
  lia
 lia
theorem bel_zero {xs:Array Nat} (u:Up xs):SetTable.below xs 0=0:=by
 obtain⟨a,b,c⟩:=zbh9 u 0
 cases e:SetTable.below xs 0 with
 |zero=>rfl
 |succ n=>have:=b 0 (by lia);lia
theorem ins_up {xs:Array Nat} (u:Up xs) {j:Nat} (h : ¬ xs[SetTable.below xs j]?=some j):Up (SetTable.insertAt xs (SetTable.below xs j) j):=by
 obtain⟨a,b,c⟩:=zbh9 u j
 unfold Up
 rw [SetTable.toList_insertAt]
 generalize SetTable.below xs j=p at *
 have h1:∀x∈xs.toList.take p,x<j:=fun x hx=>by
  obtain⟨i,hi,rfl⟩:=List.mem_take_iff_getElem.mp hx
  have hi2:i<xs.size:=by simp at hi;lia
  have:=b i (by simp at hi;lia)
  rw [zy5 hi2]at this
  simpa using this
 have h2:∀x∈xs.toList.drop p,j<x:=fun x hx=>by
  obtain⟨i,hi,rfl⟩:=List.mem_drop_iff_getElem.mp hx
  have hi2:p+i<xs.size:=by simpa [Nat.add_comm] using hi
  have h3:=c (p+i) (by lia) hi2
  rw [zy5 hi2]at h3
  have h4:xs[p+i]≠j:=fun z=>by
   by_cases e:i=0
   ·subst e
    exact h (by rw [zbk8 (by lia)];simpa using z)
   ·have hp:p<xs.size:=by lia
    have h5:=c p (zbk1 _) hp
    rw [zy5 hp]at h5
    have:=u.lt (by lia:p<p+i) hi2
    lia
  have:xs.toList[p+i]'(by simpa using hi2)=xs[p+i]:=by simp
  first | (rw [this];lia) | (simp only [Array.getElem_toList];lia)
 refine zbr6.mpr ⟨u.sublist (zbz0 _ _),zbm8.mpr ⟨h2,u.sublist (List.drop_sublist _ _)⟩,fun x hx y hy=>?_⟩
 have:=h1 x hx
 rcases zbj4.mp hy with z | z
 ·lia
 ·have:=h2 y z;lia
def zn6 (b:Bool) (t:SetTable):Prop:=t.led=b∧(t.plain=true→Up t.place∧t.dummies = #[])
theorem zbd5 (j:Nat):SetTable.has #[] j=false:=by simp [SetTable.has]
theorem zat4 {t:SetTable}{j:Nat} (h:t.dummies = #[]):t.slot j≠.dummy:=by
 unfold SetTable.slot
 rw [h,zbd5]
 dsimp only
 split
 ·exact fun z=>by cases z
 ·exact fun z=>by cases z
theorem zat3 {t:SetTable}{j:Nat} (h:t.slot j=.empty) : ¬ t.place[SetTable.below t.place j]?=some j:=fun z=>by
 unfold SetTable.slot at h
 dsimp only at h
 rw [if_pos (by rw [z];simp)]at h
 cases h
theorem zaq6 {t:SetTable}{hashAt:Nat→Int}{h:Int} (hd:t.dummies = #[]):∀(f:Nat) (p:SetTable.Probe) (j:Nat) (d:Option Nat),p.dummy=none→SetTable.probe.go t hashAt h f p=some (.empty j d)→t.slot j=.empty∧d=none
 |0,p,j,d,_,e=>by cases e
 |f+1,p,j,d,hp,e=>by
  unfold SetTable.probe.go at e
  cases c:t.slot p.j with
  |empty =>
   rw [c]at e
   dsimp only at e
   cases e
   exact⟨c,hp⟩
  |dummy=>exact absurd c (zat4 hd)
  |live i =>
   rw [c]at e
   dsimp only at e
   have pd:(t.advance p).dummy=none:=by
    unfold SetTable.advance
    split
    ·exact hp
    ·exact hp
   split at e
   ·cases e
   ·exact zaq6 hd f _ j d pd e
theorem free_ok {t:SetTable}{h:Int}{j:Nat}{b:Bool} (hd:t.dummies = #[]) (e:t.freeSlot h=some (j,b)):t.slot j=.empty:=by
 unfold SetTable.freeSlot at e
 split at e
 ·rename_i k d q
  have:=zaq6 hd _ _ k d rfl q
  cases e
  rw [this.2]
  exact this.1
 ·cases e
theorem zp1 {b:Bool}{t:SetTable}{n:Nat} (h:t.led=b):zn6 b (t.standIn n):=⟨h,fun z=>by cases z⟩
theorem zah6 {b:Bool}{t:SetTable}{n:Nat} (h:zn6 b t):zn6 b (t.orStandIn n):=by
 unfold SetTable.orStandIn
 split
 ·exact h
 ·exact zp1 h.1
theorem put_good {b:Bool}{t:SetTable}{j:Nat} (h:zn6 b t) (e:t.plain=true→t.slot j=.empty):zn6 b (t.put j).1:=by
 refine⟨h.1,fun z=>?_⟩
 have hp:t.plain=true:=z
 obtain⟨u,d⟩:=h.2 hp
 refine⟨ins_up u (zat3 (e hp)),?_⟩
 show (if SetTable.has t.dummies j=true then _ else t.dummies) = #[]
 rw [d,zbd5]
 rfl
theorem lay_good {b:Bool}{t:SetTable} (h:zn6 b t) (es:Array (Int×Value)) (k:Int) (x:Value):zn6 b (layNew t es k x).2.1:=by
 unfold layNew
 cases e:t.freeSlot k with
 |none=>exact zp1 h.1
 |some q =>
  obtain⟨j,wd⟩:=q
  exact zah6 (put_good h fun hp=>free_ok (h.2 hp).2 e)
theorem zat9 (f:Nat→Option Nat):∀n,(((zbm1 n).filterMap fun j=>(f j).map (j, ·)).map (·.1)).Pairwise (· < ·):=fun n=>by
 have sub:(((zbm1 n).filterMap fun j=>(f j).map (j, ·)).map (·.1)).Sublist (zbm1 n):=by
  induction zbm1 n with
  |nil=>exact List.Sublist.slnil
  |cons a l ih =>
   cases e:f a with
   |none=>rw [List.filterMap_cons_none (by simp [e])];exact ih.cons a
   |some v=>rw [zbv4 (b:=(a,v)) (by simp [e])];exact ih.cons₂ a
 exact (List.pairwise_lt_range (n:=n)).sublist sub
theorem zbc5 {mask finger moves:Nat}{led plain:Bool}{hs:Array Int}{t:SetTable}{o:Array Nat} (e:SetTable.laid mask finger moves led plain hs=some (t,o)):zn6 led t∧t.plain=plain:=by
 unfold SetTable.laid at e
 cases c:SetTable.layClean mask hs with
 |none=>rw [c]at e;cases e
 |some owner =>
  rw [c]at e
  have e:=Option.some.inj e
  have e1:=congrArg Prod.fst e
  dsimp only at e1
  subst e1
  refine⟨⟨rfl,fun _=>⟨?_,rfl⟩⟩,rfl⟩
  unfold Up
  simpa using zat9 (fun j=>owner.getD j none) (mask+1)
theorem zat8 {b:Bool}{t:SetTable} (h:zn6 b t) (es:Array (Int×Value)) (n:Nat):zn6 b (relayAll t es n).2.1:=by
 unfold relayAll
 cases e:t.relaid (es.map (·.1)) n with
 |none=>exact zp1 h.1
 |some q =>
  obtain⟨t',o⟩:=q
  have g:=zbc5 (t:=t') e
  dsimp only
  split
  ·have:=g.1
   rw [h.1]at this
   exact this
  ·exact zp1 h.1
theorem zau2 {b:Bool}{t:SetTable} (h:zn6 b t):zn6 b { t with plain:=false }:=⟨h.1,fun z=>by cases z⟩
def txt (w:World):Bool:=w.params.followText "set-order"
section
variable {prog:Program}{w:World}{A:Around}{E:Value→zbj7→Prop}{s:zbj7}
noncomputable def SetG (prog:Program) (w:World) (h:Heap) (a:Addr) (S:Int→Bool) (n:Nat):Prop :=
 ∃o es ep t,h.get? a=some o∧o.ExactSet∧o.data=.set es ep t∧ElemsOf (intKind prog w) es.toList∧(∀k,S k=true↔∃e∈es.toList,(intKind prog w).is k e.2=true)∧es.size<scanBound∧t.fits es.size=true∧es.size=n∧zn6 (!txt w) t
theorem SetG.at {h h':Heap}{a:Addr}{S:Int→Bool}{n:Nat} (x:SetG prog w h a S n) (k:∀o,h.get? a=some o→h'.get? a=some o):SetG prog w h' a S n :=
 let ⟨o,es,ep,t,g,r⟩:=x;⟨o,es,ep,t,k o g,r⟩
theorem SetG.store {h:Heap}{a:Addr}{o:Obj}{es es':Array (Int×Value)}{ep:Nat}{t t':SetTable}{S':Int→Bool} (g:h.get? a=some o) (x:o.ExactSet) (d:o.data=.set es ep t) (he:ElemsOf (intKind prog w) es'.toList) (hm:∀k,S' k=true↔∃e∈es'.toList,(intKind prog w).is k e.2=true) (hb:es'.size<scanBound) (hf:t'.fits es'.size=true) (hg:zn6 (!txt w) t') :
  (h.update a (Obj.putSet es' t')).get? a=some { o with data:=.set es' (ep+1) t' }∧SetG prog w (h.update a (Obj.putSet es' t')) a S' es'.size:=by
 have q:=(SetOf_store (knd:=intKind prog w) g x d he hm hb hf).1
 exact⟨q,_,es',ep+1,t',q,x,rfl,he,hm,hb,hf,rfl,hg⟩
theorem zaf8 {gw:Bool→Sem Unit} (hgw:∀(b:Bool) (s1:zbj7) (Q1:Unit→zbj7→Prop),Q1 () s1→wpAny (model prog w) A (gw b) Q1 E s1)
  {a:Addr}{o:Obj}{es es1:Array (Int×Value)}{ep:Nat}{t t2:SetTable}{S':Int→Bool}{wd:Bool}{R:Option Bool→zbj7→Prop} (g:s.heap.get? a=some o) (x:o.ExactSet) (d:o.data=.set es ep t)
  (he:ElemsOf (intKind prog w) es1.toList) (hm:∀k,S' k=true↔∃e∈es1.toList,(intKind prog w).is k e.2=true) (hb:es1.size<scanBound) (hf:t2.fits es1.size=true) (hg:zn6 (!txt w) t2)
  (h:∀h',Heap.SameBut a s.heap h'→SetG prog w h' a S' es1.size→R (some true) { s with heap:=h' }) :
  wpAny (model prog w) A (do
    storeSet a es1 t2
    if (!wd&&t2.tooFull)=true then do
      gw (relayAll t2 es1 (SetTable.grown es1.size)).2.2
      storeSet a (relayAll t2 es1 (SetTable.grown es1.size)).1 (relayAll t2 es1 (SetTable.grown es1.size)).2.1
      pure (some true)
     else pure (some true)) R E s:=by
 obtain⟨g1,G1⟩:=SetG.store (prog:=prog) (w:=w) g x d he hm hb hf hg
 have sb:=Heap.SameBut.update s.heap a (Obj.putSet es1 t2)
 refine zbi8 (wpAny_storeSet_of g d ?_ (fits_of_scanBound hb))
 by_cases c:(!wd&&t2.tooFull)=true
 ·rw [if_pos c]
  have pm:=relayAll_perm t2 es1 (SetTable.grown es1.size)
  have ft:=relayAll_fits t2 es1 (SetTable.grown es1.size)
  have gg:=zat8 hg es1 (SetTable.grown es1.size)
  generalize relayAll t2 es1 (SetTable.grown es1.size)=L at pm ft gg ⊢
  have sz:L.1.size=es1.size:=by have:=pm.length_eq;simpa using this
  refine zbi8 (hgw _ _ _ (zbi8 (wpAny_storeSet_of g1 rfl ?_ (fits_of_scanBound (by rw [sz];exact hb)))))
  have G2:=(SetG.store (prog:=prog) (w:=w) (S':=S') g1 x rfl (he.perm pm) (fun k=>(hm k).trans ⟨fun ⟨e,m,q⟩=>⟨e,pm.mem_iff.mpr m,q⟩,fun ⟨e,m,q⟩=>⟨e,pm.mem_iff.mp m,q⟩⟩) (by rw [sz];exact hb) ft gg).2
  rw [sz]at G2
  exact zbj5 (h _ (sb.trans (Heap.SameBut.update _ a _)) G2)
 ·rw [if_neg c]
  exact zbj5 (h _ sb G1)
theorem add_good {a:Addr}{S:Int→Bool}{n:Nat}{k:Int}{x:Value}{Q:Bool→zbj7→Prop} (hk:(intKind prog w).is k x=true) (hx:x.scannable=true) (G:SetG prog w s.heap a S n) (hr:n+1<scanBound)
  (h:∀h',Heap.SameBut a s.heap h'→SetG prog w h' a (fun k'=>S k'||decide (k'=k)) (if S k then n else n+1)→Q (!S k) { s with heap:=h' }) :
  wpAny (model prog w) A (setAddHashed a x ((intKind prog w).hash k)) Q E s:=by
 obtain⟨o,es,ep,t,g,ex,d,he,hm,hb,hf,hn,gt⟩:=G
 unfold setAddHashed setAddHashedIn
 refine wpAny_holding (zbi8 (wpAny_setState_of g d hf ?_))
 dsimp only
 rw [byScan_of hx hb he]
 simp only [↓reduceIte]
 unfold setAddByScan
 refine zbi8 (zbi8 (wpAny_rule (zbi8 (wpAny_setScan_of hk g d hf he ?_))))
 cases c:List.findIdx? (fun e=>(intKind prog w).is k e.2) es.toList with
 |some j =>
  obtain⟨jl,jp,_⟩:=List.findIdx?_eq_some_iff_getElem.mp c
  have sk:S k=true:=(hm k).mpr ⟨_,zbn9 jl,jp⟩
  have q:=h s.heap (Heap.SameBut.refl a s.heap) ⟨o,es,ep,t,g,ex,d,he,fun k'=>by
   rw [zbr1,decide_eq_true_eq, ← hm k']
   exact⟨fun z=>z.elim id fun w=>by rw [w];exact sk,Or.inl⟩,hb,hf,by rw [sk];exact hn,gt⟩
  rw [sk]at q
  exact zbj5 (zbj5 (by cases s;exact q))
 |none =>
  have sk:S k=false:=by
   cases z:S k with
   |false=>rfl
   |true =>
    obtain⟨e,m,p⟩:=(hm k).mp z
    have:=List.findIdx?_eq_none_iff.mp c e m
    rw [p]at this
    cases this
  have pm:=layNew_perm t es ((intKind prog w).hash k) x
  have ft:=layNew_fits t es ((intKind prog w).hash k) x
  have gg:=lay_good gt es ((intKind prog w).hash k) x
  dsimp only
  generalize layNew t es ((intKind prog w).hash k) x=L at pm ft gg ⊢
  obtain⟨es1,t1,wd,gave⟩:=L
  dsimp only at pm ft gg ⊢
  rw [zbv9]at pm
  have sz:es1.size=n+1:=by have:=pm.length_eq;simp at this;lia
  have he1:=(he.push hk hx).perm pm
  have hm1:=mem_push_iff hk hm pm
  have hb1:es1.size<scanBound:=by lia
  have gw:∀(b:Bool) (s1:zbj7) (Q1:Unit→zbj7→Prop),Q1 () s1→wpAny (model prog w) A (match b with | true=>rule "set.scan.the-table-gave-way" |false=>pure ()) Q1 E s1:=fun b s1 Q1 z=>by
   cases b
   ·exact zbj5 z
   ·exact wpAny_rule z
  have fin:∀h',Heap.SameBut a s.heap h'→SetG prog w h' a (fun k'=>S k'||decide (k'=k)) es1.size→Q true { s with heap:=h' }:=fun h' sb G'=>by
   have:=h h' sb
   rw [sk]at this
   exact this (by rw [sz]at G';exact G')
  refine zbi8 (gw _ _ _ ?_)
  cases pl:t1.plain with
  |true =>
   simp only [if_true]
   refine zbi8 ?_
   rw [hashByValue_scannable 8 hx]
   refine zbj5 (zaf8 ?_ g ex d he1 hm1 hb1 ?_ ?_ ?_)
   ·intro b s1 Q1 z;cases b<;>first | exact zbj5 z | exact wpAny_rule z
   ·split
    ·exact ft
    ·exact SetTable.fits_plain_off ft
   ·split
    ·exact gg
    ·exact zau2 gg
   ·intro h' sb G';exact zbj5 (fin h' sb G')
  |false =>
   simp only [zbl2,if_false]
   refine zbi8 (zbj5 ?_)
   simp only [↓reduceIte]
   refine zaf8 ?_ g ex d he1 hm1 hb1 ft gg ?_
   ·intro b s1 Q1 z;cases b<;>first | exact zbj5 z | exact wpAny_rule z
   ·intro h' sb G';exact zbj5 (fin h' sb G')
end
end TS
namespace TS
def zu8 (b:Bool):Obj:={ cls:=.type "set",dict:=none,data:=.set #[] 0 (.fresh 0 0 b) }
theorem zav5 (b:Bool):zn6 b (SetTable.fresh 0 0 b):=⟨rfl,fun _=>⟨List.Pairwise.nil,rfl⟩⟩
section
variable {prog:Program}{w:World}{A:Around}{E:Value→zbj7→Prop}{s:zbj7}
theorem SetG.cong {h:Heap}{a:Addr}{S S':Int→Bool}{n n':Nat} (x:SetG prog w h a S n) (e:∀k,S k=S' k) (en:n=n'):SetG prog w h a S' n':=by
 cases funext e;cases en;exact x
theorem zai6 {R:Result→zbj7→Prop}{I:Addr}{fp wr:List Addr}{G:Array GenState→Array GenState→Prop}{n:Nat}{P:Nat→Value→Prop}{St:Nat→zbj7→Prop} (W:WalksS prog w A.in1 I fp wr G n P St) (a:Addr) (na:a∉fp)
  (val:Nat→Int) (hv:∀i v,P i v→∃t,v=.int (val i) t) (hb:n+1<scanBound):∀(k i:Nat) (s:zbj7),n - i=k→i≤n→St i s →
   SetG prog w s.heap a (fun q=>(firstMet val i).any (· == q)) (firstMet val i).length →
   (∀s',Moved (a::wr) G s s'→SetG prog w s'.heap a (fun q=>(firstMet val n).any (· == q)) (firstMet val n).length→R (.ok (.ret .none)) s') →
   codeAny (model prog w) A (.builtin "set.update.loop" ⟨[.ref a,.ref I],[]⟩) R s
 |0,i,s,hk,hi,st,G0,hR=>by
  cases (by lia:i=n)
  refine codeAny_builtin F.entry_set_update_loop ?_
  rw [Around.under_plainId F.plain_set_update_loop _]
  show wpAny _ A.in1 (pyNext (.ref I) >>= _) _ _ s
  refine zbi8 (W.done s _ _ st fun s' m=>?_)
  show wpAny _ A.in1 (ret Value.none) _ _ s'
  exact zbj5 (hR s' (m.mono fun b z=>zbi6 _ z) (G0.at fun o g=>m.heap a _ (fun z=>na (W.sub _ z)) g))
 |k+1,i,s,hk,hi,st,G0,hR=>by
  have lt:i<n:=by lia
  have fl:=firstMet_length_le val i
  refine codeAny_builtin F.entry_set_update_loop ?_
  rw [Around.under_plainId F.plain_set_update_loop _]
  show wpAny _ A.in1 (pyNext (.ref I) >>= _) _ _ s
  refine zbi8 (W.item i s _ _ lt st fun v s' p st' m=>?_)
  obtain⟨t,rfl⟩:=hv i v p
  have G1:SetG prog w s'.heap a _ _:=G0.at fun o g=>m.heap a _ (fun z=>na (W.sub _ z)) g
  show wpAny _ A.in1 (holding [Value.int (val i) t] (setAdd a (.int (val i) t)) >>= _) _ _ s'
  unfold setAdd
  refine zbi8 (wpAny_holding (wpAny_holding (zbi8 ((intKind prog w).pyHash (k:=val i) (intKind_is _ _ _ _) ?_))))
  refine add_good (s:={ s' with toks:=s'.toks+1 }) (intKind_is _ _ _ _) rfl G1 (by lia) fun h' sb G2=>?_
  refine zbj5 ⟨plainId_quiet F.plain_set_update_loop _,zai6 W a na val hv hb k (i+1) _ (by lia) lt (W.frame _ s' _ _ st' (zbt1 _) fun b z o e=>?_) (G2.cong (fun q=>by rw [firstMet_succ,step_any]) (by rw [firstMet_succ,step_length])) fun s2 m2 G3=>?_⟩
  ·rw [sb.2 b fun z':b=a=>na (z' ▸ z)];exact e
  ·refine hR s2 (Moved.trans W.gtrans ((m.mono fun b z=>zbi6 _ z).then_heap (zbt1 _) fun b o z e=>?_) m2) G3
   rw [sb.2 b fun z':b=a=>z (by rw [z'];exact zbi9)];exact e
theorem new_good (x:Value) {Q1:Value→zbj7→Prop} (h:Q1 (.ref s.heap.objs.size) { s with heap:=s.heap.push (zu8 (!txt w)) }) :
  codeAny (model prog w) A (.call (.builtin "set.__new__") ⟨[.type "set",x],[]⟩) (wants Q1 E) s:=by
 refine codeAny_of_tree ?_
 show wpAny _ A.in1 (do checkBuiltinCall "set.__new__" ⟨[.type "set",x],[]⟩;again (.builtin "set.__new__" ⟨[.type "set",x],[]⟩)) _ _ s
 refine zbi8 (wpAny_of_eq (PySem.F.newCall_set_1 x) (zbj5 ⟨plainId_quiet zbw8 _,codeAny_builtin PySem.F.entry_set_new ?_⟩))
 rw [Around.under_plainId zbw8 _]
 unfold Builtin.«set.__new__» Builtin.Frozenset.newClass
 have sub:=sub_set_self
 obtain⟨hp,g,d,tk,os⟩:=s
 dsimp only
 wp_walk
 refine wpAny_askSetting (zbj5 ?_)
 dsimp only
 simp only [newObj]
 exact zbi8 (wpAny_alloc (zbj5 (zbj5 h)))
theorem zbh2 {l:Addr}{items:Array Value}{ns:List Int}{Q:Value→zbj7→Prop} (hh:A.handled=none) (hl:s.heap.IsList l items) (hi:IntsAre items.toList ns) (hb:items.size+1<scanBound)
  (h:∀(h':Heap) (tk:Nat),SetG prog w h' s.heap.objs.size (fun q=>(firstMet (fun i=>ns.getD i 0) items.size).any (· == q)) (firstMet (fun i=>ns.getD i 0) items.size).length →
   (∀b o,b<s.heap.objs.size→s.heap.get? b=some o→h'.get? b=some o)→Q (.ref s.heap.objs.size) { s with heap:=h',toks:=tk }) :
  wpAny (model prog w) A (call (.type "set") [.ref l]) Q E s:=by
 obtain⟨c,tl,mro⟩:=PySem.F.called_set.mro
 have made:=PySem.F.called_set.made
 have sub:=PySem.F.called_set.sub
 refine wpAny_call (codeAny_of_tree ?_)
 show wpAny _ _ (callAny (.type "set") _) _ _ _
 refine zbj5 ⟨Code.quiet_builtin _ (by decide +kernel),codeAny_builtin PySem.F.entry_type_call ?_⟩
 rw [Around.under_plain (weight_type_call_type "set" [.ref l] []) rfl]
 have n1:=PySem.F.called_set.notType
 have n2:=PySem.F.called_set.canCreate
 have n3:=PySem.F.typeCall_set_1 (.ref l)
 repeat (any_goals (first | assumption | wp_step))
 refine codeAny_mono (new_good (.ref l) (E:=E) (Q1:=fun ob s1=>ob=.ref s.heap.objs.size∧s1={ s with heap:=s.heap.push (zu8 (!txt w)) }) ⟨rfl,rfl⟩) fun r s1 hr=>?_
 cases r with
 |error e=>exact hr
 |ok fl =>
  cases fl with
  |ret ob =>
   obtain⟨rfl,rfl⟩:=hr
   have g0:(s.heap.push (zu8 (!txt w))).get? s.heap.objs.size=some (zu8 (!txt w)):=zbj9 _ rfl
   have T0:Shared.TypeIs { s with heap:=s.heap.push (zu8 (!txt w)) } (.ref s.heap.objs.size) "set":=⟨_,g0,rfl⟩
   have i1:=PySem.F.called_set.init.lookup
   have i2:=PySem.F.called_set.init.bind (.ref s.heap.objs.size)
   repeat (any_goals (first | assumption | wp_step))
   refine codeAny_mono (codeAny_call_builtin (R:=wants (fun r s2=>r=.none∧∃h' tk,s2={ s with heap:=h',toks:=tk }∧SetG prog w h' s.heap.objs.size (fun q=>(firstMet (fun i=>ns.getD i 0) items.size).any (· == q)) (firstMet (fun i=>ns.getD i 0) items.size).length ∧
     ∀b o,b<s.heap.objs.size→s.heap.get? b=some o→h'.get? b=some o) E) PySem.F.called_set.init.plain PySem.F.entry_set_init (check_set_init_1 T0 ?_)) fun r2 s2 hr2=>?_
   ·obtain⟨ol,gl,cl,nl,dl⟩:=hl
    obtain⟨ocls,odict,odata,oslots⟩:=ol
    simp only at cl dl
    subst cl;subst dl
    have gl':(s.heap.push (zu8 (!txt w))).get? l=some { cls:=.type "list",dict:=odict,data:=.seq items nl,slots:=oslots }:=zbj0 _ gl
    have s1:=PySem.F.sub_list_set
    have s2:=PySem.F.sub_list_frozenset
    have ne:(Value.type "list" == Value.type "dict")=false:=by decide
    have L1:(s.heap.push (zu8 (!txt w))).IsList l items:=⟨_,gl',rfl,nl,rfl⟩
    have ll:l<s.heap.objs.size:=zbj8 gl
    unfold Builtin.«set.__init__» noKeywords Builtin.Frozenset.updateFrom
    generalize hPI:pyIter=PI
    have g0':(s.heap.push (zu8 (!txt w))).get? s.heap.objs.size=some { cls:=.type "set",dict:=none,data:=.set #[] 0 (.fresh 0 0 (!txt w)),slots := #[] }:=g0
    wp_walk
    subst hPI
    refine wpAny_pyIter_list L1 (zbi8 (wpAny_runValue ?_))
    have hh3:A.in1.in1.in1.handled=none:=by simp [hh]
    refine zai6 ((Walks.list hh3 _ l (by rw [zbp7];exact zbl3 (zbo9 ll)) items).toS) s.heap.objs.size (by
     rw [zbp7]
     simp only [zbj4,zbm7,or_false,not_or]
     exact⟨zbl3 (zbs0 _),zbr5 ll⟩) (fun i=>ns.getD i 0) (fun i v z=>IntsAre.int_at hi i v (by rw [zbl6];exact z)) hb (items.size - 0) 0 _ (by lia) (zbq5 _)
     ⟨⟨_,zbj9 _ rfl,rfl,rfl⟩,L1.push _⟩ ?G0 ?hR
    case G0=>exact⟨_, #[],0,_,zbj0 _ g0,⟨rfl,rfl,rfl⟩,rfl,fun e z=>by simp at z,fun k=>by simp [firstMet_zero],by decide,by rfl,rfl,zav5 _⟩
    case hR =>
     intro s' m G1
     obtain⟨h',g',d',tk',os'⟩:=s'
     cases (show g'=s.gens from m.gens)
     cases (show d'=s.drawn from m.drawn)
     cases (show os'=s.os from m.os)
     show wpAny _ _ _ _ _ _
     refine zbj5 ?_
     show wpAny _ _ (ret Value.none) _ _ _
     refine zbj5 ⟨rfl,h',tk',rfl,G1,fun b o z e=>?_⟩
     refine m.heap b o ?_ (zbj0 _ (zbj0 _ e))
     simp only [zbj4,zbm7,or_false,not_or]
     exact⟨zbl3 z,by rw [zbp7];exact zbl3 (zbo9 z)⟩
   ·cases r2 with
    |error e=>exact hr2
    |ok f2 =>
     cases f2 with
     |ret r =>
      obtain⟨rfl,h',tk,rfl,G1,kk⟩:=hr2
      repeat (any_goals (first | assumption | wp_step))
      exact h _ _ G1 kk
     |_=>exact hr2.elim
  |_=>exact hr.elim
end
end TS
namespace TS
theorem slot_si_next:Slot "set_iterator" "__next__" "set_iterator.__next__" :=
 .of (owner := "set_iterator") (n := "__next__") (by rw [typeLookup_type,builtinLookup_eq_fast];kernel_rfl) (by decide +kernel) (by decide +kernel) (by decide +kernel) (.inl (by decide +kernel)) (by rw [isSubtype_type];kernel_rfl)
theorem zs7:entryFor table "set_iterator.__next__"=some Builtin.«set_iterator.__next__»:=entryFor_of_tree (by kernel_rfl)
theorem zaa4:entryFor table "set.__iter__"=some Builtin.«frozenset.__iter__» :=
 entryFor_alias (id' := "frozenset.__iter__") (by kernel_rfl) rfl (by decide +kernel) (by kernel_rfl)
theorem own_si:Manifest.owners.lookup (String.ofList ['r', 'o', 't', 'a', 'r', 'e', 't', 'i', '_', 't', 'e', 's'].reverse)=some Manifest.sig_set_iterator:=by kernel_rfl
theorem zv1 (a:Value):argsOk "set_iterator.__next__" ⟨[a],[]⟩:=by
 unfold argsOk;rw [signature?_of (id := "set_iterator.__next__") (n:=['_', '_', 't', 'x', 'e', 'n', '_', '_']) (o:=['r', 'o', 't', 'a', 'r', 'e', 't', 'i', '_', 't', 'e', 's']) (by kernel_rfl) own_si];kernel_rfl
noncomputable def RawS (h:Heap) (a:Addr) (es:Array (Int×Value)) (ep:Nat) (t:SetTable):Prop := ∃o,h.get? a=some o∧o.ExactSet∧o.data=.set es ep t∧t.fits es.size=true
theorem RawS.at {h h':Heap}{a:Addr}{es:Array (Int×Value)}{ep:Nat}{t:SetTable} (x:RawS h a es ep t) (k:∀o,h.get? a=some o→h'.get? a=some o):RawS h' a es ep t:=let ⟨o,g,r⟩:=x;⟨o,k o g,r⟩
noncomputable def ItS (h:Heap) (I:Addr) (f:Value) (i:Nat) (a:Addr) (n ep:Nat):Prop := ∃o,h.get? I=some o∧o.cls=.type "set_iterator"∧o.data=.fields #[f,.int i 0,.ref a,.int n 0,.int ep 0]
theorem ItS.at {h h':Heap}{I a:Addr}{f:Value}{i n ep:Nat} (x:ItS h I f i a n ep) (k:∀o,h.get? I=some o→h'.get? I=some o):ItS h' I f i a n ep:=let ⟨o,g,r⟩:=x;⟨o,k o g,r⟩
theorem ItS.ty {s:zbj7}{I a:Addr}{f:Value}{i n ep:Nat} (x:ItS s.heap I f i a n ep):s.TypeIs (.ref I) "set_iterator":=let ⟨o,g,c,_⟩:=x;⟨o,g,c⟩
theorem RawS.ty {s:zbj7}{a:Addr}{es:Array (Int×Value)}{ep:Nat}{t:SetTable} (x:RawS s.heap a es ep t):s.TypeIs (.ref a) "set":=let ⟨o,g,r,_⟩:=x;⟨o,g,r.1⟩
section
variable {prog:Program}{w:World}{A:Around}{E:Value→zbj7→Prop}{s:zbj7}
theorem zr0 {Q:Bool→zbj7→Prop} (h:Q (txt w) s):wpAny (model prog w) A setsByText Q E s:=by
 unfold setsByText
 exact zbi8 (wpAny_askSetting (zbj5 h))
theorem wp_choose {n:Nat}{Q:Nat→zbj7→Prop} (hn:n≠0) (h:∀i d,i<n→Q i { s with drawn:=d }):wpAny (model prog w) A (choose .order n) Q E s:=by
 intro Γ p hΓ
 unfold choose
 rw [Sem.wp_choose]
 exact⟨hn,h _ _ (Nat.mod_lt _ (by lia))⟩
theorem zal6 {α:Type}:∀(xs:List α) (i:Nat) (h:i<xs.length),(xs[i]::xs.eraseIdx i).Perm xs
 |[],i,h=>by simp at h
 |x::xs,0,h=>List.Perm.refl _
 |x::xs,i+1,h=>by
  have:=zal6 xs i (by simpa using h)
  simp only [List.getElem_cons_succ,List.eraseIdx_cons_succ]
  exact (List.Perm.swap _ _ _).trans (List.Perm.cons x this)
theorem zaw5 {α:Type}:∀(n:Nat) (xs:List α) (s:zbj7) {Q:List α→zbj7→Prop},xs.length=n→(∀ys d,ys.Perm xs→Q ys { s with drawn:=d })→wpAny (model prog w) A (drawOrder n xs) Q E s
 |0,xs,s,Q,hl,h=>by
  cases zbl8.mp hl
  unfold drawOrder
  exact zbj5 (h [] s.drawn (List.Perm.refl _))
 |n+1,[],s,Q,hl,h=>by simp at hl
 |n+1,x::xs,s,Q,hl,h=>by
  unfold drawOrder
  refine zbi8 (TS.wp_choose (by simp) fun i d hi=>?_)
  rw [zbj6 hi]
  dsimp only
  refine zbi8 (zaw5 n _ _ (by rw [zbu7 hi];lia) fun ys d' p=>zbj5 ?_)
  exact h _ d' ((List.Perm.cons _ p).trans (zal6 _ i hi))
theorem iter_set {a:Addr}{es:Array (Int×Value)}{ep:Nat}{t:SetTable}{Q:Value→zbj7→Prop} (x:RawS s.heap a es ep t) (hz:es.size≤100000)
  (q1:(!txt w&&(!t.plain&&decide (es.size > 1)))=false→Q (.ref s.heap.objs.size) { s with heap:=s.heap.push { cls:=.type "set_iterator",data:=.fields #[.int 0 0,.int 0 0,.ref a,.int es.size 0,.int ep 0] } })
  (q2:∀(ps:List Nat) d,(!txt w&&(!t.plain&&decide (es.size > 1)))=true→ps.Perm (zbm1 es.size)→Q (.ref (s.heap.objs.size+1)) { s with heap:=(s.heap.push { cls:=.type "tuple",data:=.seq (ps.map fun (i:Nat)=>Value.int i 0).toArray }).push { cls:=.type "set_iterator",data:=.fields #[.ref s.heap.objs.size,.int 0 0,.ref a,.int es.size 0,.int ep 0] },drawn:=d }) :
  wpAny (model prog w) A (pyIter (.ref a)) Q E s:=by
 have ty:=x.ty
 obtain⟨o,g,r,dd,hf⟩:=x
 refine wpAny_pyIter_slot ty zbw9 (wpAny_call_entry zbw9 ty zaa4 ?_ (PySem.F.args_set_iter_1 _))
 unfold Builtin.«frozenset.__iter__» Builtin.Frozenset.slot0 slotArgs
 simp only [zbw7,zby7,zbl2, ↓reduceIte,bind_assoc,zbu5,bne_self_eq_false]
 unfold Builtin.Frozenset.addrOf Builtin.Frozenset.sizeOf
 refine zbi8 (zbj5 ?_)
 try dsimp only
 refine zbi8 (zbj5 ?_)
 refine zbi8 (zbi8 (wpAny_setEntries_of g dd hf (zbj5 ?_)))
 unfold setDrawn
 refine zbi8 (zbi8 (wpAny_setState_of g dd hf ?_))
 dsimp only
 refine zbi8 (zr0 (zbj5 ?_))
 cases hc:(!txt w&&(!t.plain&&decide (es.size > 1))) with
 |true =>
  refine wpAny_ite_split (fun _=>?_) fun z=>absurd hc z
  refine zbi8 (zaw5 es.size _ s (zbp8) fun ps d p=>?_)
  have pl:ps.length=es.size:=by rw [p.length_eq,zbp8]
  refine zbi8 (wpAny_newTuple ?_ (by rw [zbk3,pl,sizeLine_eq];lia))
  refine zbi8 (wpAny_setEpoch_of (o:=o) (zbj0 _ g) dd hf ?_)
  unfold newFields
  refine zbi8 (wpAny_newObj_type (zbj5 ⟨_,rfl, "set_iterator",_,⟨_,zbj9 _ rfl,rfl⟩,slot_si_next.lookup,?_⟩))
  have:=q2 ps d hc p
  simpa [rawInt] using this
 |false =>
  refine wpAny_ite_split (fun z=>absurd (hc.symm.trans z) (by decide)) fun _=>?_
  refine zbi8 (zbj5 (zbi8 (wpAny_setEpoch_of g dd hf ?_)))
  unfold newFields
  refine zbi8 (wpAny_newObj_type (zbj5 ⟨_,rfl, "set_iterator",_,⟨_,zbj9 _ rfl,rfl⟩,slot_si_next.lookup,?_⟩))
  have:=q1 hc
  simpa [rawInt] using this
end
end TS
namespace TS
section
variable {prog:Program}{w:World}{A:Around}{E:Value→zbj7→Prop}{s:zbj7}
theorem zr8 {I a:Addr}{f:Value}{i n ep:Nat}{es:Array (Int×Value)}{t:SetTable}{Q:Option Value→zbj7→Prop} (ki:ItS s.heap I f i a es.size ep) (x:RawS s.heap a es ep t) (hh:A.handled=none)
  (slot:Nat) (ef:f=.int slot 0) (item:Option (Value×Nat)) (hn:∀(R:Option (Value×Nat)→zbj7→Prop),R item s→wpAny (model prog w) A.in1 (setNext a slot i ep) R (fun e s'=>False) s)
  (q1:∀v nx h',item=some (v,nx)→ItS h' I (.int nx 0) (i+1) a es.size ep→Heap.SameBut I s.heap h'→Q (some v) { s with heap:=h' })
  (q2:item=none→∀h',Heap.ExtBut I s.heap h'→Q none { s with heap:=h' }):wpAny (model prog w) A (pyNext (.ref I)) Q E s:=by
 have ty:=ki.ty
 obtain⟨o,g,c,d⟩:=ki
 obtain⟨os,gs,r,ds,hf⟩:=x
 subst ef
 unfold pyNext
 refine zbi8 (wpAny_attempt (wpAny_callSpecial?_slot (name:=Str.ofString "__next__") ty slot_si_next (wpAny_call_entry slot_si_next ty zs7 ?_ (zv1 _))))
 unfold Builtin.«set_iterator.__next__» slotArgs
 simp only [zbw7,zby7,zbl2, ↓reduceIte,bind_assoc,zbu5,bne_self_eq_false]
 refine zbi8 (zbj5 ?_)
 refine zbi8 (wpAny_fieldsOf g d ?_)
 dsimp only
 refine zbi8 (wpAny_setEntries_of gs ds hf ?_)
 rw [if_neg (by simp)]
 simp only [zbl5]
 refine zbi8 (wpAny_mono (hn _ ?_) (fun _ _ z=>z) fun _ _ z=>z.elim)
 cases item with
 |some p =>
  obtain⟨v,nx⟩:=p
  dsimp only
  refine zbi8 (wpAny_setField g d (by simp) ?_)
  have g1:=zbm2 (Obj.mapFields (·.setIfInBounds 0 (rawInt (nx:Int)))) g (Obj.isFreed_of_fields (Obj.data_mapFields d _))
  have d1:=Obj.data_mapFields d (·.setIfInBounds 0 (rawInt (nx:Int)))
  refine zbi8 (wpAny_setField g1 d1 (by simp) ?_)
  have g2:=zbm2 (Obj.mapFields (·.setIfInBounds 1 (rawInt ((i:Int)+1)))) g1 (Obj.isFreed_of_fields (Obj.data_mapFields d1 _))
  have d2:=Obj.data_mapFields d1 (·.setIfInBounds 1 (rawInt ((i:Int)+1)))
  refine zbj5 ⟨_,rfl,zbj5 (q1 v nx _ rfl ⟨_,g2,?_,?_⟩ ?_)⟩
  ·rw [Obj.cls_mapFields,Obj.cls_mapFields];exact c
  ·rw [d2];simp [rawInt]
  ·exact (Heap.SameBut.update ..).trans (Heap.SameBut.update ..)
 |none =>
  dsimp only
  refine zbi8 (wpAny_setField g d (by simp) ?_)
  refine zbi8 ?_
  simp only [newExc,newTuple]
  refine zbi8 (wpAny_newObj_type (zbi8 (m:=firstArgMember _ _) (wpAny_of_eq (a:=Value.none) (by first | rfl | (simp only [firstArgMember];rfl)) ?_)) (by size_fits))
  refine wpAny_newObj_type ?_ (by size_fits)
  simp only [raiseNew]
  refine zbi8 (wpAny_handled ?_)
  rw [show A.in1.handled=none from hh]
  refine zbi8 (zbj5 (wpAny_throw ?_))
  refine zbi8 (wpAny_isInstance (T := "StopIteration") (b:=true) ⟨_,zbj9 _ rfl,rfl⟩ isSubtype_stop ?_)
  exact zbj5 (q2 rfl _ (((Heap.SameBut.update ..).extBut.push _).push _))
theorem zab3 {I a T:Addr}{i ep:Nat}{es:Array (Int×Value)}{t:SetTable}{ps:List Nat}{Q:Option Value→zbj7→Prop} (ki:ItS s.heap I (.ref T) i a es.size ep) (x:RawS s.heap a es ep t) (hh:A.handled=none) (hp:ps.Perm (zbm1 es.size))
  (gT:s.heap.get? T=some { cls:=.type "tuple",data:=.seq (ps.map fun (i:Nat)=>Value.int i 0).toArray })
  (q1:∀p v h',ps[i]?=some p→(es[p]?).map (·.2)=some v→ItS h' I (.ref T) (i+1) a es.size ep→Heap.SameBut I s.heap h'→Q (some v) { s with heap:=h' })
  (q2:ps.length≤i→∀h',Heap.ExtBut I s.heap h'→Q none { s with heap:=h' }):wpAny (model prog w) A (pyNext (.ref I)) Q E s:=by
 have ty:=ki.ty
 obtain⟨o,g,c,d⟩:=ki
 obtain⟨os,gs,r,ds,hf⟩:=x
 unfold pyNext
 refine zbi8 (wpAny_attempt (wpAny_callSpecial?_slot (name:=Str.ofString "__next__") ty slot_si_next (wpAny_call_entry slot_si_next ty zs7 ?_ (zv1 _))))
 unfold Builtin.«set_iterator.__next__» slotArgs
 simp only [zbw7,zby7,zbl2, ↓reduceIte,bind_assoc,zbu5,bne_self_eq_false]
 refine zbi8 (zbj5 ?_)
 refine zbi8 (wpAny_fieldsOf g d ?_)
 dsimp only
 refine zbi8 (wpAny_setEntries_of gs ds hf ?_)
 rw [if_neg (by simp)]
 simp only [zbl5]
 refine zbi8 (wpAny_seqItems gT rfl ?_)
 dsimp only
 have pl:ps.length=es.size:=by rw [hp.length_eq,zbp8]
 by_cases hi:i<ps.length
 ·have e:(ps.map fun (i:Nat)=>Value.int i 0).toArray[i]?=some (.int (ps[i]:Int) 0):=by simp [hi]
  rw [e]
  dsimp only
  have pm:ps[i] < es.size:=zbp4.mp (hp.mem_iff.mp (zbn9 hi))
  unfold setNextDrawn
  refine zbi8 (zbi8 (wpAny_setState_of gs ds hf ?_))
  dsimp only
  rw [if_neg (by simp)]
  simp only [zbl5,zbk8 pm]
  refine zbj5 ?_
  refine zbi8 (wpAny_setField g d (by simp) ?_)
  have g2:=zbm2 (Obj.mapFields (·.setIfInBounds 1 (rawInt ((i:Int)+1)))) g (Obj.isFreed_of_fields (Obj.data_mapFields d _))
  have d2:=Obj.data_mapFields d (·.setIfInBounds 1 (rawInt ((i:Int)+1)))
  refine zbj5 ⟨_,rfl,zbj5 (q1 ps[i] es[ps[i]].2 _ (zbj6 hi) (by rw [zbk8 pm];rfl) ⟨_,g2,?_,?_⟩ (Heap.SameBut.update ..))⟩
  ·rw [Obj.cls_mapFields];exact c
  ·rw [d2];simp [rawInt]
 ·have e:(ps.map fun (i:Nat)=>Value.int i 0).toArray[i]?=none:=by simp;lia
  rw [e]
  dsimp only
  refine zbi8 (wpAny_setField g d (by simp) ?_)
  have g1:=zbm2 (Obj.mapFields (·.setIfInBounds 0 (rawInt 0))) g (Obj.isFreed_of_fields (Obj.data_mapFields d _))
  have d1:=Obj.data_mapFields d (·.setIfInBounds 0 (rawInt 0))
  refine zbi8 (wpAny_setField g1 d1 (by simp) ?_)
  refine zbi8 ?_
  simp only [newExc,newTuple]
  refine zbi8 (wpAny_newObj_type (zbi8 (m:=firstArgMember _ _) (wpAny_of_eq (a:=Value.none) (by first | rfl | (simp only [firstArgMember];rfl)) ?_)) (by size_fits))
  refine wpAny_newObj_type ?_ (by size_fits)
  simp only [raiseNew]
  refine zbi8 (wpAny_handled ?_)
  rw [show A.in1.handled=none from hh]
  refine zbi8 (zbj5 (wpAny_throw ?_))
  refine zbi8 (wpAny_isInstance (T := "StopIteration") (b:=true) ⟨_,zbj9 _ rfl,rfl⟩ isSubtype_stop ?_)
  exact zbj5 (q2 (by lia) _ ((((Heap.SameBut.update ..).trans (Heap.SameBut.update ..)).extBut.push _).push _))
theorem zab0 {a:Addr}{es:Array (Int×Value)}{ep:Nat}{t:SetTable} (x:RawS s.heap a es ep t) (hw:txt w=true) (slot i:Nat) (R:Option (Value×Nat)→zbj7→Prop)
  (h:R (((pickOrder (w.params.setOrder a ep) es)[i]?).map fun e=>(e.2,slot)) s):wpAny (model prog w) A (setNext a slot i ep) R (fun _ _=>False) s:=by
 obtain⟨o,g,r,d,hf⟩:=x
 unfold setNext
 refine zbi8 (wpAny_setState_of g d hf ?_)
 dsimp only
 refine zbi8 (zr0 ?_)
 rw [hw,if_pos rfl,if_neg (by simp)]
 unfold setWalk
 refine zbi8 (zbi8 (wpAny_setState_of g d hf ?_))
 dsimp only
 refine zbi8 (zr0 ?_)
 rw [hw,if_pos rfl]
 refine zbi8 (wpAny_askSetting (zbj5 (zbj5 ?_)))
 exact h
theorem zap3 {a:Addr}{es:Array (Int×Value)}{ep:Nat}{t:SetTable} (x:RawS s.heap a es ep t) (hw:txt w=false) (hd:(!t.plain&&decide (es.size > 1))=false) (hl:t.led=true) (slot i:Nat) (R:Option (Value×Nat)→zbj7→Prop)
  (h:R (match es[SetTable.below t.place slot]?,t.place[SetTable.below t.place slot]? with
   |some (_,v),some j=>some (v,j+1)
   |_,_=>none) s):wpAny (model prog w) A (setNext a slot i ep) R (fun _ _=>False) s:=by
 obtain⟨o,g,r,d,hf⟩:=x
 unfold setNext
 refine zbi8 (wpAny_setState_of g d hf ?_)
 dsimp only
 refine zbi8 (zr0 ?_)
 rw [hw,if_neg (by decide)]
 refine wpAny_ite_split (fun z=>absurd (hd.symm.trans z) (by decide)) fun _=>?_
 refine zbi8 ?_
 show wpAny _ _ (if (!t.led&&!es.isEmpty)=true then _ else _) _ _ _
 rw [hl,if_neg (by simp)]
 exact zbj5 (zbj5 h)
end
end TS
namespace TS
theorem zu3:Slot "set_iterator" "__iter__" "set_iterator.__iter__" :=
 .of (owner := "set_iterator") (n := "__iter__") (by rw [typeLookup_type,builtinLookup_eq_fast];kernel_rfl) (by decide +kernel) (by decide +kernel) (by decide +kernel) (.inl (by decide +kernel)) (by rw [isSubtype_type];kernel_rfl)
theorem zae8:entryFor table "set_iterator.__iter__"=some Builtin.«dict_keyiterator.__iter__» :=
 entryFor_alias (id' := "dict_keyiterator.__iter__") (by kernel_rfl) rfl (by decide +kernel) (by kernel_rfl)
theorem zak2 (a:Value):argsOk "set_iterator.__iter__" ⟨[a],[]⟩:=by
 unfold argsOk;rw [signature?_of (id := "set_iterator.__iter__") (n:=['_', '_', 'r', 'e', 't', 'i', '_', '_']) (o:=['r', 'o', 't', 'a', 'r', 'e', 't', 'i', '_', 't', 'e', 's']) (by kernel_rfl) own_si];kernel_rfl
theorem zaz8 {α:Type} (f:Nat→Nat):∀(n k:Nat) (l:List α) (out:Array α),l.length=n→(pickOrder.go f n k l out).toList.Perm (out.toList++l)
 |0,k,l,out,h=>by
  cases zbl8.mp h
  unfold pickOrder.go
  simp
 |n+1,k,l,out,h=>by
  unfold pickOrder.go
  have hi:f k % l.length<l.length:=Nat.mod_lt _ (by lia)
  rw [zbj6 hi]
  dsimp only
  refine (zaz8 f n (k+1) _ _ (by rw [zbu7 hi];lia)).trans ?_
  rw [zbv9,zbr4]
  exact List.Perm.append_left _ (zal6 l _ hi)
theorem zw8 {α:Type} (f:Nat→Nat) (xs:Array α):(pickOrder f xs).toList.Perm xs.toList:=by
 have:=zaz8 f xs.size 0 xs.toList #[] (by simp)
 simpa [pickOrder] using this
theorem zav6 {α:Type} (xs:Array α) {ps:List Nat} (h:ps.Perm (zbm1 xs.size)):(ps.filterMap fun p=>xs[p]?).Perm xs.toList:=by
 have:=h.filterMap fun p=>xs[p]?
 rw [filterMap_getElem?_range]at this
 exact this
section
variable {prog:Program}{w:World}{A:Around}{E:Value→zbj7→Prop}{s:zbj7}
theorem zac8 {I a:Addr}{f:Value}{i n ep:Nat}{Q:Value→zbj7→Prop} (ki:ItS s.heap I f i a n ep) (h:Q (.ref I) s):wpAny (model prog w) A (pyIter (.ref I)) Q E s:=by
 refine wpAny_pyIter_slot ki.ty zu3 (wpAny_call_entry zu3 ki.ty zae8 ?_ (zak2 _))
 show wpAny _ _ (ret (.ref I)) _ _ s
 exact zbj5 ⟨_,rfl, "set_iterator",_,ki.ty,slot_si_next.lookup,h⟩
theorem zaw8 (hh:A.handled=none) (I a:Addr) (ne:a≠I) (es:Array (Int×Value)) (ep:Nat) (t:SetTable) (hw:txt w=true) :
  Walks prog w A I [I,a] [I] es.size (fun i v=>(((pickOrder (w.params.setOrder a ep) es).toList.map (·.2))[i]?)=some v) (fun i h=>ItS h I (.int 0 0) i a es.size ep∧RawS h a es ep t) where
 sub:=fun b hb=>by simp at hb;simp [hb]
 frame:=fun _ _ _ st hk=>⟨st.1.at fun o e=>hk I (by simp) o e,st.2.at fun o e=>hk a (by simp) o e⟩
 item:=fun i s Q E hi st hQ=>by
  have sz:(pickOrder (w.params.setOrder a ep) es).size=es.size:=by have:=(zw8 (w.params.setOrder a ep) es).length_eq;simpa using this
  have e:(pickOrder (w.params.setOrder a ep) es)[i]?=some ((pickOrder (w.params.setOrder a ep) es)[i]'(by lia)):=zbk8 (by lia)
  refine zr8 (n:=0) st.1 st.2 hh 0 rfl _ (fun R h=>zab0 st.2 hw 0 i R h) (fun v nx h' ev it sb=>?_) fun en=>?_
  ·rw [e]at ev
   cases ev
   refine hQ _ h' s.toks ?_ ⟨it,st.2.at fun o g=>sb.extBut a o ne g⟩ fun b o hb g=>sb.extBut b o (fun z=>hb (by simp [z])) g
   rw [zbn4, ← zbl6]at *
   simp [e]
  ·rw [e]at en
   cases en
 done:=fun s Q E st hQ=>by
  have sz:(pickOrder (w.params.setOrder a ep) es).size=es.size:=by have:=(zw8 (w.params.setOrder a ep) es).length_eq;simpa using this
  have e:(pickOrder (w.params.setOrder a ep) es)[es.size]?=none:=zbs8 (by lia)
  refine zr8 (n:=0) st.1 st.2 hh 0 rfl _ (fun R h=>zab0 st.2 hw 0 es.size R h) (fun v nx h' ev it sb=>?_) fun en h' x=>hQ h' s.toks fun b o hb g=>x b o (fun z=>hb (by simp [z])) g
  rw [e]at ev
  cases ev
 self:=fun _ _ _ _ st hQ=>zac8 st.1 hQ
theorem walk_up (hh:A.handled=none) (I a:Addr) (ne:a≠I) (es:Array (Int×Value)) (ep:Nat) (t:SetTable) (hw:txt w=false) (hd:(!t.plain&&decide (es.size > 1))=false) (hl:t.led=true) (hu:Up t.place) (hf:t.place.size=es.size) :
  Walks prog w A I [I,a] [I] es.size (fun i v=>((es.toList.map (·.2))[i]?)=some v) (fun i h=>(∃slot:Nat,SetTable.below t.place slot=i∧ItS h I (.int slot 0) i a es.size ep)∧RawS h a es ep t) where
 sub:=fun b hb=>by simp at hb;simp [hb]
 frame:=fun _ _ _ st hk=>⟨let ⟨sl,e,x⟩:=st.1;⟨sl,e,x.at fun o e=>hk I (by simp) o e⟩,st.2.at fun o e=>hk a (by simp) o e⟩
 item:=fun i s Q E hi st hQ=>by
  obtain⟨⟨sl,es',it⟩,raw⟩:=st
  have hp:i<t.place.size:=by lia
  refine zr8 (n:=0) it raw hh sl rfl _ (fun R h=>zap3 raw hw hd hl sl i R h) (fun v nx h' ev it' sb=>?_) fun en=>?_
  ·rw [es',zbk8 hi,zbk8 hp]at ev
   cases ev
   exact hQ _ h' s.toks (by rw [zbn4,zbl6,zbk8 hi];rfl) ⟨⟨_,bel_next hu hp,it'⟩,raw.at fun o g=>sb.extBut a o ne g⟩ fun b o hb g=>sb.extBut b o (fun z=>hb (by simp [z])) g
  ·rw [es',zbk8 hi,zbk8 hp]at en
   cases en
 done:=fun s Q E st hQ=>by
  obtain⟨⟨sl,es',it⟩,raw⟩:=st
  refine zr8 (n:=0) it raw hh sl rfl _ (fun R h=>zap3 raw hw hd hl sl es.size R h) (fun v nx h' ev it sb=>?_) fun en h' x=>hQ h' s.toks fun b o hb g=>x b o (fun z=>hb (by simp [z])) g
  rw [es',zbs8 (zbk1 _)]at ev
  cases ev
 self:=fun _ _ _ _ st hQ=>let ⟨_,_,x⟩:=st.1;zac8 x hQ
theorem zat0 (hh:A.handled=none) (I a T:Addr) (ne:a≠I) (nT:T≠I) (es:Array (Int×Value)) (ep:Nat) (t:SetTable) {ps:List Nat} (hp:ps.Perm (zbm1 es.size)) :
  Walks prog w A I [I,a,T] [I] es.size (fun i v=>(((ps.filterMap fun p=>es[p]?).map (·.2))[i]?)=some v) (fun i h=>ItS h I (.ref T) i a es.size ep∧RawS h a es ep t∧h.get? T=some { cls:=.type "tuple",data:=.seq (ps.map fun (i:Nat)=>Value.int i 0).toArray }) where
 sub:=fun b hb=>by simp at hb;simp [hb]
 frame:=fun _ _ _ st hk=>⟨st.1.at fun o e=>hk I (by simp) o e,st.2.1.at fun o e=>hk a (by simp) o e,hk T (by simp) _ st.2.2⟩
 item:=fun i s Q E hi st hQ=>by
  have pl:ps.length=es.size:=by rw [hp.length_eq,zbp8]
  refine zab3 st.1 st.2.1 hh hp st.2.2 (fun p v h' e1 e2 it sb=>?_) fun z=>by lia
  refine hQ _ h' s.toks ?_ ⟨it,st.2.1.at fun o g=>sb.extBut a o ne g,sb.extBut T _ nT st.2.2⟩ fun b o hb g=>sb.extBut b o (fun z=>hb (by simp [z])) g
  have al:∀(qs:List Nat),(∀q∈qs,q<es.size)→∀i:Nat,((qs.filterMap fun p=>es[p]?).map (fun (x:Int×Value)=>x.2))[i]?=(qs[i]?).bind fun (p:Nat)=>(es[p]?).map (fun (x:Int×Value)=>x.2):=by
   intro qs
   induction qs with
   |nil=>intro _ i;simp
   |cons q qs ih =>
    intro hq i
    have q1:=hq q (zbi9 ..)
    rw [zbv4 (b:=es[q]) (zbk8 q1)]
    cases i with
    |zero=>simp [q1]
    |succ i=>simpa using ih (fun z hz=>hq z (zbi6 _ hz)) i
  rw [al ps (fun q hq=>zbp4.mp (hp.mem_iff.mp hq)) i,e1]
  exact e2
 done:=fun s Q E st hQ=>by
  have pl:ps.length=es.size:=by rw [hp.length_eq,zbp8]
  refine zab3 st.1 st.2.1 hh hp st.2.2 (fun p v h' e1 e2 it sb=>?_) fun z h' x=>hQ h' s.toks fun b o hb g=>x b o (fun z=>hb (by simp [z])) g
  rw [zbn1 (by lia)]at e1
  cases e1
 self:=fun _ _ _ _ st hQ=>zac8 st.1 hQ
theorem hint_set {r:Addr}{Q:Bool→zbj7→Prop} (hT:s.TypeIs (.ref r) "set") (h:Q false s):wpAny (model prog w) A (Builtin.List.listLengthHint (.ref r)) Q E s:=by
 unfold Builtin.List.listLengthHint
 refine zbi8 (wpAny_specialOf hT PySem.F.slot_set_len.lookup ?_)
 generalize hid:("set.__len__":String)=id0
 wp_delta
 rw [show splitId id0=some ("set", "__len__") from by subst hid;decide +kernel]
 subst hid
 refine zbi8 (wpAny_isInstance (T := "set") (b:=true) hT sub_set_self ?_)
 refine wpAny_ite_split (fun z=>absurd z (by decide)) fun _=>wpAny_ite_split (fun _=>?_) fun z=>absurd (by decide +kernel) z
 exact zbi8 (wpAny_typeOf hT (zbj5 h))
end
end TS
namespace TS
section
variable {prog:Program}{w:World}{A:Around}{E:Value→zbj7→Prop}{s:zbj7}
theorem iter_any (hh:A.handled=none) {a:Addr}{es:Array (Int×Value)}{ep:Nat}{t:SetTable}{Q:Value→zbj7→Prop} (x:RawS s.heap a es ep t) (hz:es.size≤100000) (gt:zn6 (!txt w) t)
  (q:∀(I:Addr) (fp:List Addr) (L:List Value) (St:Nat→Heap→Prop) (h1:Heap) d,L.Perm (es.toList.map (·.2))→Walks prog w A I fp [I] es.size (fun i v=>L[i]?=some v) St→St 0 h1→(∀b∈fp,b=a∨s.heap.objs.size≤b)→s.heap.objs.size≤I →
   (∀b o,s.heap.get? b=some o→h1.get? b=some o)→Q (.ref I) { s with heap:=h1,drawn:=d }):wpAny (model prog w) A (pyIter (.ref a)) Q E s:=by
 have ha:a<s.heap.objs.size:=by obtain⟨o,g,_⟩:=x;exact zbj8 g
 have hf:t.place.size=es.size:=by
  obtain⟨o,g,r,d,hf⟩:=x
  simp only [SetTable.fits,zbj3,beq_iff_eq]at hf
  exact hf.1
 refine iter_set x hz (fun hc=>?_) fun ps d hc hp=>?_
 ·have x1:RawS (s.heap.push { cls:=.type "set_iterator",data:=.fields #[.int 0 0,.int 0 0,.ref a,.int es.size 0,.int ep 0] }) a es ep t:=x.at fun o e=>zbj0 _ e
  have i1:ItS (s.heap.push { cls:=.type "set_iterator",data:=.fields #[.int 0 0,.int 0 0,.ref a,.int es.size 0,.int ep 0] }) s.heap.objs.size (.int 0 0) 0 a es.size ep:=⟨_,zbj9 _ rfl,rfl,rfl⟩
  have fpk:∀b∈[s.heap.objs.size,a],b=a∨s.heap.objs.size≤b:=fun b hb=>by
   simp only [zbj4,zbm7,or_false]at hb
   rcases hb with rfl | rfl
   ·exact .inr (zbk1 _)
   ·exact .inl rfl
  cases hw:txt w with
  |true=>exact q _ _ _ _ _ s.drawn ((zw8 _ es).map _) (zaw8 hh _ a (zbl3 ha) es ep t hw) ⟨i1,x1⟩ fpk (zbk1 _) fun b o e=>zbj0 _ e
  |false =>
   rw [hw]at hc gt
   have hd:(!t.plain&&decide (es.size > 1))=false:=by simpa using hc
   have hu:Up t.place:=by
    cases hp:t.plain with
    |true=>exact (gt.2 hp).1
    |false =>
     rw [hp]at hd
     have : ¬ es.size > 1:=by simpa using hd
     unfold Up
     have l:t.place.toList.length≤1:=by simp;lia
     exact zaq7 l
   exact q _ _ _ _ _ s.drawn (List.Perm.refl _) (walk_up hh _ a (zbl3 ha) es ep t hw hd gt.1 hu hf) ⟨⟨0,bel_zero hu,i1⟩,x1⟩ fpk (zbk1 _) fun b o e=>zbj0 _ e
 ·have sz:(s.heap.push { cls:=.type "tuple",data:=.seq (ps.map fun (i:Nat)=>Value.int i 0).toArray }).objs.size=s.heap.objs.size+1:=zbp7 ..
  have g2:((s.heap.push { cls:=.type "tuple",data:=.seq (ps.map fun (i:Nat)=>Value.int i 0).toArray }).push { cls:=.type "set_iterator",data:=.fields #[.ref s.heap.objs.size,.int 0 0,.ref a,.int es.size 0,.int ep 0] }).get? (s.heap.objs.size+1)=some { cls:=.type "set_iterator",data:=.fields #[.ref s.heap.objs.size,.int 0 0,.ref a,.int es.size 0,.int ep 0] }:=by
   rw [← sz];exact zbj9 _ rfl
  refine q _ _ _ _ _ d ((zav6 es hp).map _) (zat0 hh (s.heap.objs.size+1) a s.heap.objs.size (zbl3 (zbo9 ha)) (zbl3 (zbs0 _)) es ep t hp) ⟨⟨_,g2,rfl,rfl⟩,x.at fun o e=>zbj0 _ (zbj0 _ e),zbj0 _ (zbj9 _ rfl)⟩ (fun b hb=>?_) (zbt1 _) fun b o e=>zbj0 _ (zbj0 _ e)
  simp only [zbj4,zbm7,or_false]at hb
  rcases hb with rfl | rfl | rfl
  ·exact .inr (zbt1 _)
  ·exact .inl rfl
  ·exact .inr (zbk1 _)
theorem ext_set {R:Result→zbj7→Prop} (hh:A.handled=none) {a:Addr}{es:Array (Int×Value)}{ep:Nat}{t:SetTable} (x:RawS s.heap a es ep t) (hz:es.size≤100000) (gt:zn6 (!txt w) t) (S:Addr) (res:Value) (c₀:Nat) (hS:s.heap.get? S=some { cls:=.type "list",data:=.seq #[] c₀ })
  (hR:∀h' d tk acc c (L:List Value),L.Perm (es.toList.map (·.2))→(∀b o,b≠S→s.heap.get? b=some o→h'.get? b=some o)→h'.get? S=some { cls:=.type "list",dict:=none,data:=.seq acc c,slots := #[] }→acc.toList=L→R (.ok (.ret res)) { s with heap:=h',drawn:=d,toks:=tk }) :
  wpAny (model prog w) A.in1 (Builtin.List.listExtendWith (.ref S) (.ref a) res) (fun fin s'=>match fin with | .done f=>R (.ok f) s' | .again c'=>c'.quiet=true∧codeAny (model prog w) A c' R s') (fun e s'=>R (.error e) s') s:=by
 have Sa:S≠a:=fun e=>by
  obtain⟨o,g,r,_⟩:=x
  rw [e,g]at hS
  have:o.cls=.type "list":=by rw [Option.some.inj hS]
  rw [r.1]at this
  exact absurd this (by decide +kernel)
 have Sl:S<s.heap.objs.size:=zbj8 hS
 unfold Builtin.List.listExtendWith
 refine zbi8 (wpAny_typeOf (T := "set") x.ty ?_)
 have h1:Builtin.List.listSameRef (.ref S) (.ref a)=false:=by simp [Builtin.List.listSameRef,Sa]
 simp only [h1,show (Value.type "set" == Value.type "list")=false by decide,show (Value.type "set" == Value.type "tuple")=false by decide,Bool.or_false,zbl2,if_false]
 refine zbi8 (iter_any (A:=A.in1) hh x hz gt fun I fp L St h1 d pm W st fpk hI hk=>?_)
 have Lz:L.length=es.size:=by have:=pm.length_eq;simpa using this
 have SI:S≠I:=zbl3 (zbk6 Sl hI)
 have nS:S∉fp:=fun z=>(fpk S z).elim Sa fun w=>absurd Sl (Nat.not_lt.mpr w)
 have x1:RawS h1 a es ep t:=x.at fun o e=>hk a o e
 refine zbi8 (wpAny_holding (hint_set (RawS.ty (s:={ s with heap:=h1,drawn:=d }) x1) ?_))
 have key:∀(h:Heap) (c₁ tk:Nat),St 0 h→(∀b o,b≠S→s.heap.get? b=some o→h.get? b=some o)→h.get? S=some { cls:=.type "list",data:=.seq #[] c₁ } →
   codeAny (model prog w) A (.builtin "list.extend.loop" ⟨[.ref S,.ref I,res],[]⟩) R { s with heap:=h,drawn:=d,toks:=tk }:=by
  intro h c₁ tk st' hk' g1
  refine codeAny_extend_loopS W.toS (by rw [sizeLine_eq];lia) S nS res es.size 0 _ #[] c₁ rfl (zbq5 _) st' g1 (ItemsOf.nil _) fun s' acc' c' hm hS' hacc=>?_
  rw [Moved.eq_with hm]
  refine hR s'.heap d s'.toks acc' c' L pm (fun b o hb e=>hm.heap b o (fun hmem=>?_) (hk' b o hb e)) hS' ?_
  ·rcases zbj4.mp hmem with e' |hmem
   ·exact hb e'
   ·exact absurd (zbj8 e) (by rw [zbl4.mp hmem];exact Nat.not_lt.mpr hI)
  ·obtain⟨a1,a2⟩:=hacc
   refine zbt4 (by simp;lia) fun i u v=>?_
   have:L[i]?=some acc'[i]:=a2 i acc'[i] (by simp at u;simp [u])
   rw [zbj6 v]at this
   simpa using (Option.some.inj this).symm
 refine wpAny_ite_split (fun _=>?_) (fun _=>zbj5 ⟨plainId_quiet F.plain_extend_loop _,key h1 c₀ _ st (fun b o _ e=>hk b o e) (hk S _ hS)⟩)
 have g1:=hk S _ hS
 refine zbi8 (wpAny_rule (zbi8 ?_))
 show wpAny _ _ (updateSeq S (·.push .none) >>= fun _=>updateSeq S (·.pop)) _ _ _
 refine zbi8 (wpAny_updateSeq g1 rfl ?_)
 have g2:=zbm2 (Obj.mapSeq (·.push Value.none)) g1 rfl
 refine wpAny_updateSeq (hz:=by seq_fits) g2 rfl ?_
 have g3:=zbm2 (Obj.mapSeq (·.pop)) g2 rfl
 have ot:∀ {b:Addr}{o:Obj},b≠S→h1.get? b=some o→((h1.update S (Obj.mapSeq (·.push Value.none))).update S (Obj.mapSeq (·.pop))).get? b=some o:=fun {b o} hb e=>(zbl7 _ _ (Ne.symm hb)).trans ((zbl7 _ _ (Ne.symm hb)).trans e)
 exact zbj5 ⟨plainId_quiet F.plain_extend_loop _,key _ _ _ (W.frame 0 _ _ st fun b hb o e=>ot (fun z=>nS (z ▸ hb)) e) (fun b o hb e=>ot hb (hk b o e)) g3⟩
theorem zan7 (hh:A.handled=none) {a:Addr}{es:Array (Int×Value)}{ep:Nat}{t:SetTable} (x:RawS s.heap a es ep t) (hz:es.size≤100000) (gt:zn6 (!txt w) t) {R:List Value→zbj7→Prop}
  (h:∀(h':Heap) d (tk:Nat) (us:List Value),(∀b o,s.heap.get? b=some o→h'.get? b=some o)→s.heap.objs.size≤h'.objs.size→us.Perm (es.toList.map (·.2))→R us { s with heap:=h',drawn:=d,toks:=tk }) :
  wpAny (model prog w) A (collect (.ref a)) R E s:=by
 unfold collect
 refine zbi8 (wpAny_runValue (codeAny_builtin entry_proto_collect' ?_))
 rw [Around.under_plainId zbt9 _]
 show wpAny _ A.in1 (newList [] >>= fun l=>again (.builtin "list.__iadd__" ⟨[l,.ref a],[]⟩)) _ _ s
 refine zbi8 (wpAny_newObj_type ?_)
 refine zbj5 ⟨plainId_quiet zbq1 _,codeAny_builtin entry_list_iadd' ?_⟩
 rw [Around.under_plainId zbq1 _]
 have g0:(s.heap.push { cls:=.type "list",data:=.seq ([]:List Value).toArray }).get? s.heap.objs.size=some { cls:=.type "list",data:=.seq #[] }:=zbj9 _ rfl
 have key:=ext_set (A:=A) (s:={ s with heap:=s.heap.push { cls:=.type "list",data:=.seq ([]:List Value).toArray } }) (prog:=prog) (w:=w)
  (R:=fun (q:Result) (s':zbj7) => ∃(h':Heap) (d:Drawn) (tk:Nat) (acc:Array Value) (c:Nat),q=.ok (.ret (.ref s.heap.objs.size))∧s'={ s with heap:=h',drawn:=d,toks:=tk } ∧
   (∀b o,s.heap.get? b=some o→h'.get? b=some o)∧s.heap.objs.size≤h'.objs.size∧h'.get? s.heap.objs.size=some { cls:=.type "list",dict:=none,data:=.seq acc c,slots := #[] }∧acc.toList.Perm (es.toList.map (·.2)))
  hh (x.at fun o e=>zbj0 _ e) hz gt s.heap.objs.size (.ref s.heap.objs.size) 0 g0
  (fun h' d tk acc c L pm hk gS ea=>⟨h',d,tk,acc,c,rfl,rfl,fun b o e=>hk b o (zbl3 (zbj8 e)) (zbj0 _ e),zbs4 (zbj8 gS),gS,by rw [ea];exact pm⟩)
 show wpAny _ A.in1 (Builtin.List.listExtendWith (.ref s.heap.objs.size) (.ref a) (.ref s.heap.objs.size)) _ _ _
 refine wpAny_mono key (fun fin s' y=>?_) fun e s' y=>?_
 ·cases fin with
  |done f =>
   obtain⟨h',d,tk,acc,c,e,rfl,hk,hz',gS,pm⟩:=y
   cases e
   show wpAny _ A (load s.heap.objs.size >>= _) _ _ _
   exact zbi8 (wpAny_load gS (zbj5 (h h' d tk acc.toList hk hz' pm)))
  |again c₁ =>
   refine⟨y.1,codeAny_mono y.2 fun q s₂ z=>?_⟩
   obtain⟨h',d,tk,acc,c,rfl,rfl,hk,hz',gS,pm⟩:=z
   show wpAny _ A (load s.heap.objs.size >>= _) _ _ _
   exact zbi8 (wpAny_load gS (zbj5 (h h' d tk acc.toList hk hz' pm)))
 ·obtain⟨_,_,_,_,_,e',_⟩:=y
  cases e'
theorem zag2 {u:Value}{Q:Value→zbj7→Prop}{P:List Value→Prop}
  (col:∀R:List Value→zbj7→Prop,(∀(h':Heap) d (tk:Nat) (us:List Value),(∀b o,s.heap.get? b=some o→h'.get? b=some o)→s.heap.objs.size≤h'.objs.size→P us→us.length≤100000→R us { s with heap:=h',drawn:=d,toks:=tk })→wpAny (model prog w) A.in1 (collect u) R E s)
  (srt:∀(h':Heap) d (tk:Nat) (us:List Value),(∀b o,s.heap.get? b=some o→h'.get? b=some o)→s.heap.objs.size≤h'.objs.size→P us→us.length≤100000 →
   wpAny (model prog w) A.in1.in1 (Builtin.«list.sort» ⟨[.ref h'.objs.size],[]⟩) (fun fin s'=>fin=.done (.ret .none)∧Q (.ref h'.objs.size) s') E { s with heap:=h'.push (seqObj "list" us.toArray 0),drawn:=d,toks:=tk }) :
  wpAny (model prog w) A (call (.builtin "sorted") [u]) Q E s:=by
 refine call_function_entry_kw kind_sorted plain_sorted entry_sorted (args_sorted1 _) ?_
 unfold Builtin.«sorted»
 refine zbi8 (m:=checkCount "sorted" 1 1 _) (zbj5 (zbi8 (col _ fun h' d tk us hk hz hp hl=>?_)))
 refine zbi8 (wpAny_newList ?_ (by rw [sizeLine_eq];lia))
 have hoL:(h'.push (seqObj "list" us.toArray 0)).get? h'.objs.size=some (seqObj "list" us.toArray 0):=zbj9 _ rfl
 refine zbi8 (wpAny_holding (wpAny_call_entry_kw slot_list_sort ⟨_,hoL,rfl⟩ entry_list_sort ?_ (args_list_sort _)))
 refine wpAny_mono (srt h' d tk us hk hz hp hl) (fun fin s' hq=>?_) fun _ _ e=>e
 obtain⟨rfl,hq⟩:=hq
 exact⟨_,rfl,zbj5 ⟨_,rfl,hq⟩⟩
end
end TS
namespace TS
theorem zbd2 {prog:Program}{w:World}:∀ {es:List (Int×Value)},ElemsOf (intKind prog w) es→∃ms:List Int,IntsAre (es.map (·.2)) ms∧∀k,(∃e∈es,(intKind prog w).is k e.2=true)↔k∈ms
 |[],_=>⟨[],.nil,fun k=>by simp⟩
 |e::es,h=>by
  obtain⟨ms,i,m⟩:=zbd2 (es:=es) h.tail
  obtain⟨⟨n,hn,_⟩,_⟩:=h.head
  obtain⟨t,ht⟩:=Value.isInt_shape hn
  refine⟨n::ms,by rw [zbk5,ht];exact .cons n t i,fun k=>?_⟩
  constructor
  ·rintro ⟨e',m',p⟩
   rcases zbj4.mp m' with rfl | m'
   ·rw [(intKind prog w).inj _ _ _ p hn];exact zbi9 ..
   ·exact zbi6 _ ((m k).mp ⟨e',m',p⟩)
  ·intro hk
   rcases zbj4.mp hk with rfl | hk
   ·exact⟨e,zbi9 ..,hn⟩
   ·obtain⟨e',m',p⟩:=(m k).mpr hk
    exact⟨e',zbi6 _ m',p⟩
theorem zbd1 {us vs:List Value} (h:us.Perm vs):∀ {ms:List Int},IntsAre vs ms→∃ns:List Int,IntsAre us ns∧ns.Perm ms:=by
 induction h with
 |nil=>intro ms i;cases i;exact⟨[],.nil,List.Perm.refl _⟩
 |cons x _ ih =>
  intro ms i
  cases i with
  |cons n t i =>
   obtain⟨ns,a,b⟩:=ih i
   exact⟨n::ns,.cons n t a,List.Perm.cons n b⟩
 |swap x y l =>
  intro ms i
  cases i with
  |cons n t i =>
   cases i with
   |cons m u i=>exact⟨m::n::_,.cons m u (.cons n t i),List.Perm.swap ..⟩
 |trans _ _ a b =>
  intro ms i
  obtain⟨ns,x,p⟩:=b i
  obtain⟨ns',x',p'⟩:=a x
  exact⟨ns',x',p'.trans p⟩
theorem zah3:∀ {l m:List Int},l.Nodup→(∀x∈l,x∈m)→m.length≤l.length→m.Perm l
 |[],m,_,_,h=>by cases zbl8.mp (Nat.le_zero.mp h);exact List.Perm.refl _
 |x::l,m,nd,hs,h=>by
  have c:=zbl0.mp nd
  have xm:=hs x (zbi9 ..)
  have pe:=List.perm_cons_erase xm
  refine pe.trans (List.Perm.cons x (zah3 c.2 (fun y hy=>?_) ?_))
  ·have:y≠x:=fun z=>c.1 (z ▸ hy)
   exact (zbx4 this).mpr (hs y (zbi6 _ hy))
  ·rw [zbv5 xm];simp only [zbm5]at h;lia
theorem ddp_nodup (ns:List Int):(DL.ddp ns).Nodup:=by
 have:∀(l acc:List Int),acc.Nodup→(l.foldl step_dedup acc).Nodup:=by
  intro l
  induction l with
  |nil=>intro acc h;exact h
  |cons x l ih =>
   intro acc h
   simp only [zbs6]
   refine ih _ ?_
   unfold step_dedup
   split
   ·exact h
   ·rename_i c
    refine zbk9.mpr ⟨h,by simp,fun a ha b hb=>?_⟩
    rw [zbl4]at hb
    subst hb
    intro z
    subst z
    exact c (zbs1.mpr ⟨a,ha,by simp⟩)
 exact this ns [] zbo5
end TS
namespace L2
open PySem.Spec TS
theorem Inv.drew {X:Cx}{pins:List (Addr×Obj)}{s:zbj7}{σ:L2.St}{H:Hp} (I:Inv X pins σ H s) (d:Drawn):Inv X pins σ H { s with drawn:=d } :=
 ⟨I.ok,I.os,I.bare,I.base,I.loc,I.cell,I.free,I.freeC,I.pin,I.hok,I.len⟩
section
variable {X:Cx}{a:Expr}{pos pos2:Pos}{te:TE}
noncomputable def zax5 (K:zbi5) (te:TE):TE:=fun σ H Q=>te σ H fun v H1 => ∃(p:Addr) (ns:List Int),v=.ref p∧SqL K H1 p (ns.map V.int)∧ns.length≤3000∧(DL.ddp ns).length<64∧∀l,H1 l=none→Q (.ref l) (upd H1 l (.lst ((DL.sortI' (DL.ddp ns)).map V.int)))
theorem zal7 {p1 p2:Pos} (hc:X.calm=true) (hg1:Gl X "sorted") (hm1:X.mg "sorted"=none) (hg2:Gl X "set") (hm2:X.mg "set"=none) (ha:PE X a te) (hst:zbk2 [a] X.env=[(false,eval a X.env)]:=by rfl) (hst2:zbk2 [.Call (.Name "set" p2) [a] [] pos2] X.env=[(false,eval (.Call (.Name "set" p2) [a] [] pos2) X.env)]:=by rfl)
  (hpl:(zbq3 pos2 (zbk2 [] X.env)).any (·.1)=false:=by rfl) (hpl2:(zbq3 pos (zbk2 [] X.env)).any (·.1)=false:=by rfl) :
  PE X (.Call (.Name "sorted" p1) [.Call (.Name "set" p2) [a] [] pos2] [] pos) (zax5 X.K te):=by
 intro pins s σ H Q I h
 refine wpAny_Call_Name_kw (zl9 I hg1 hm1 boot_sorted ?_ (by decide) (by decide))
 refine PyProof.Rows.callWith_builtin1 ?_ hst2 hpl2
 rw [hst2]
 show wpAny _ _ (spliced ((false,eval (.Call (.Name "set" p2) [a] [] pos2) X.env)::zbq3 pos (zbk2 [] X.env))) _ _ s
 refine Calls.spliced_cons (wpAny_Call_Name_kw (zl9 I hg2 hm2 DL.bt_set ?_ (by decide) (by decide)))
 refine PyProof.Rows.callWith_type1 ?_ hst hpl
 rw [hst]
 show wpAny _ _ (spliced ((false,eval a X.env)::zbq3 pos2 (zbk2 [] X.env))) _ _ s
 refine Calls.spliced_cons (thn (ha pins s σ H _ I h) fun u s1 ⟨x,H1,I1,r1,q1⟩=>Calls.spliced_nil ?_)
 obtain⟨p,ns,rfl,hs,hz,hz2,q⟩:=q1
 cases r1
 obtain⟨its,rv,pl,_⟩:=I1.list hs
 have hi:IntsAre its ns:=zm0 rv
 have hl:=hi.length
 have e0:its.toArray.size=ns.length:=by rw [zbk0];exact hl
 refine zbh2 (ns:=ns) (I1.ok.hd hc) (DL.PlainL.isL pl) (by simpa using hi) (by rw [e0];unfold scanBound;lia) fun h2 tk G hk=>?_
 rw [e0,DL.first_met]at G
 refine Calls.spliced_nil ?_
 have I2:Inv X pins σ H1 { s1 with heap:=h2,toks:=tk }:=I1.kept fun b o e=>hk b o (zbj8 e) e
 obtain⟨o,es,ep,t,g,ex,d,he,hm,hb,hf,hn,gt⟩:=G
 obtain⟨ms,im,mm⟩:=zbd2 he
 have ml:ms.length=es.size:=by have:=im.length;simpa using this.symm
 have pm:ms.Perm (DL.ddp ns):=zah3 (ddp_nodup ns) (fun x hx=>(mm x).mp ((hm x).mp (zbs1.mpr ⟨x,hx,by simp⟩))) (by lia)
 have dl:=DL.ddp_le ns
 refine zag2 (s:={ s1 with heap:=h2,toks:=tk }) (P:=fun us=>us.Perm (es.toList.map (·.2))) (fun R hR=>?_) (fun h' dr tk' us hk' hz' hu hlen=>?_)
 ·refine zan7 (A:=X.A.in1) (s:={ s1 with heap:=h2,toks:=tk }) (show X.A.in1.handled=none from I1.ok.hd hc) (⟨o,g,ex,d,hf⟩:RawS h2 s1.heap.objs.size es ep t) (by lia) gt fun h' dr tk' us hk' hz' hu=>hR h' dr tk' us hk' hz' hu ?_
  have:=hu.length_eq
  simp at this
  lia
 ·obtain⟨ks,ik,pk⟩:=zbd1 hu im
  have es':DL.sortI' ks=DL.sortI' (DL.ddp ns):=DL.sorted_uniq (((DL.sortI'_perm ks).trans (pk.trans pm)).trans (DL.sortI'_perm _).symm) (DL.sortI'_sorted ks) (DL.sortI'_sorted _)
  refine list_sort_tree (zbj9 _ rfl) ik (by have q1:=ik.length;have q2:=pk.length_eq;lia) fun out ns' ho hp' hs'=>⟨rfl,?_⟩
  have fr:h2.objs.size≤h'.objs.size:=hz'
  have g0:(h'.push (seqObj "list" us.toArray 0)).get? h'.objs.size=some (seqObj "list" us.toArray 0):=zbj9 _ rfl
  obtain⟨e1,g1⟩:∃e1,((h'.push (seqObj "list" us.toArray 0)).update h'.objs.size (Obj.mapSeq fun _=>(#[]:Array Value))).get? h'.objs.size=some (seqObj "list" #[] e1):=⟨_,get?_update_seq g0 fun _ => #[]⟩
  obtain⟨k,g2⟩:∃k,(sortedHeap (h'.push (seqObj "list" us.toArray 0)) h'.objs.size us out).get? h'.objs.size=some (seqObj "list" out k):=⟨_,get?_update_seq (zbj0 _ (zbj0 _ g1)) fun _=>out⟩
  have en:ns'=DL.sortI' ks:=DL.sorted_uniq (hp'.trans (DL.sortI'_perm ks).symm) hs' (DL.sortI'_sorted ks)
  rw [en,es']at ho
  refine⟨.ref _,_,(I2.drew dr).laid (o:=HO.lst ((DL.sortI' (DL.ddp ns)).map V.int)) (fun b o e=>?_) fr ⟨?_,out.toList,k,zv9 ho,by simpa [seqObj] using g2⟩,rfl,q _ (I2.hok.fresh fr)⟩
  ·have e2:=hk' b o e
   have nb:h'.objs.size≠b:=zbr5 (zbj8 e2)
   unfold sortedHeap
   exact (zbl7 _ _ nb).trans (zbj0 _ (zbj0 _ ((zbl7 _ _ nb).trans (zbj0 _ e2))))
  ·refine DL.le_line ?_
   rw [zbk3,(DL.sortI'_perm _).length_eq];lia
end
end L2
namespace DL
open PySem.Spec L2 TS
section
variable {X:Cx}{F:List Addr}{a:Expr}{fa:DE}{pos pos2:Pos}
noncomputable def zo5:List Ev→Option Ev:=fun rs=>match rs with
 |[r]=>(match r.d with
  |.lst ds=>(zk4 ds).bind fun ns=>if ns.length≤3000∧(ddp ns).length<64 then some (.nw ((sortI' (ddp ns)).map D.int)) else none
  |_=>none)
 |_=>none
theorem zah4 {p1 p2:Pos} (hc:X.calm=true) (hg1:Gl X "sorted") (hm1:X.mg "sorted"=none) (hg2:Gl X "set") (hm2:X.mg "set"=none) (ha:PE X a (dE X.K F fa)) (hst:zbk2 [a] X.env=[(false,eval a X.env)]:=by rfl) (hst2:zbk2 [.Call (.Name "set" p2) [a] [] pos2] X.env=[(false,eval (.Call (.Name "set" p2) [a] [] pos2) X.env)]:=by rfl)
  (hpl:(zbq3 pos2 (zbk2 [] X.env)).any (·.1)=false:=by rfl) (hpl2:(zbq3 pos (zbk2 [] X.env)).any (·.1)=false:=by rfl) :
  PE X (.Call (.Name "sorted" p1) [.Call (.Name "set" p2) [a] [] pos2] [] pos) (dE X.K F (dT1 zo5 (za2 fa dNil))):=by
 refine PE.imp (zal7 hc hg1 hm1 hg2 hm2 ha hst hst2 hpl hpl2) ?_
 rintro σ H Q ⟨A,t,r,R,e,h⟩
 unfold dT1 za2 dNil at e
 cases e1:fa t with
 |none=>rw [e1]at e;cases e
 |some r1 =>
  rw [e1]at e
  simp only [zbj1]at e
  unfold zo5 at e
  simp only at e
  split at e
  case h_2=>cases e
  rename_i ds z
  cases e2:zk4 ds with
  |none=>rw [e2]at e;cases e
  |some ns =>
   rw [e2]at e
   simp only [zbj1]at e
   split at e
   case isFalse=>cases e
   rename_i hz
   cases e
   refine⟨A,t,r1,R,e1,fun x H1 gs q=>?_⟩
   have p:=q.full
   rw [z,zn4 e2]at p
   cases p with
   |@lst _ l ws h1 h2 =>
    rw [zh1 h2]at h1
    exact⟨l,ns,rfl,h1,hz.1,hz.2,fun l2 hl2=>h _ _ (gs.trans (zd2 hl2)) ⟨l2,_,rfl,Same.free gs hl2,zc6,Reps.ints _⟩⟩
end
end DL
namespace DL
open PySem.Spec L2
section
variable {X:Cx}{F:List Addr}
theorem od_shl:OpD X F (binaryOp .LShift) (kI cPow fun i j=>.int (i*2 ^ j.toNat)):=zt4 op_shl (fun i j h=>by
 simp only [cPow,decide_eq_true_eq]at h
 exact⟨h.1,by lia,by show i.natAbs<2 ^ 64;lia⟩) fun _ _ _=>.int _
end
end DL
namespace L2
open PySem.Spec
open AutoSeq1 (wpAny_loadPart')
theorem zac2 {M:Model}{A:Around}{E:Value→zbj7→Prop}{s:zbj7}{a:Addr}{Q:Option Obj→zbj7→Prop} (h:Q (s.heap.get? a) s):wpAny M A (loadIfAlive a) Q E s:=by
 intro Γ p hp
 unfold loadIfAlive
 rw [Sem.wp_loadIfAlive]
 exact zbj5 h Γ p hp
section
variable {prog:Program}{w:World}{A:Around}{E:Value→zbj7→Prop}{s:zbj7}
theorem free_is {z TI TO:Addr}{f0:Value}{b1:Bool}{Q:Bool→zbj7→Prop} (hf:f0=.none∨∃a:Nat,f0=rawInt a) (hz:s.heap.get? z=some { cls:=.type "zip",dict:=none,data:=.fields #[f0,.bool b1,.bool false,.ref TI,.ref TO],slots := #[] })
  (h1:Q true s) (h2:∀h',(∃b,h'.get? z=some { cls:=.type "zip",dict:=none,data:=.fields #[f0,.bool b,.bool false,.ref TI,.ref TO],slots := #[] })→Heap.SameBut z s.heap h'→Q false { s with heap:=h' }) :
  wpAny (model prog w) A (Builtin.SmallTypes.ownedTupleIsFree (.ref z)) Q E s:=by
 unfold Builtin.SmallTypes.ownedTupleIsFree
 rcases hf with rfl | ⟨a,rfl⟩
 ·exact zbi8 (wpAny_field hz rfl (x:=.none) rfl (zbj5 h1))
 ·refine zbi8 (wpAny_field hz rfl (x:=rawInt a) rfl ?_)
  show wpAny _ _ (loadIfAlive _ >>= _) _ _ s
  refine zbi8 (zac2 ?_)
  cases e:s.heap.get? (Int.toNat (a:Int)) with
  |none =>
   simp only [Option.isNone_none,if_true]
   exact zbj5 h1
  |some o =>
   simp only [Option.isNone_some,zbl2,if_false]
   refine zbi8 (wpAny_field hz rfl (x:=.bool b1) rfl ?_)
   cases b1 with
   |true =>
    have:(Value.bool true != Value.bool true)=false:=by decide
    simp only [this,zbl2,if_false]
    exact zbj5 (h2 s.heap ⟨_,hz⟩ (Heap.SameBut.refl ..))
   |false =>
    have:(Value.bool false != Value.bool true)=true:=by decide
    simp only [this,if_true]
    refine zbi8 (wpAny_setField_rec hz (by simp) fun h' hz' hs'=>zbj5 (h2 h' ⟨true,hz'⟩ hs'))
end
end L2
namespace L2
open PySem.Spec
theorem vals_get:∀ {xs:List V}{us:List Value},xs.length=us.length→(∀(j:Nat) (a:V) (b:Value),xs[j]?=some a→us[j]?=some b→RelV a b)→Vals xs us
 |[],[],_,_=>.nil
 |[],_::_,h,_=>by simp at h
 |_::_,[],h,_=>by simp at h
 |x::xs,u::us,h,k=>.cons (k 0 x u rfl rfl) (vals_get (by simpa using h) fun j a b ha hb=>k (j+1) a b (by simpa using ha) (by simpa using hb))
end L2
namespace DL
open PySem.Spec L2
section
variable {X:Cx}{F:List Addr}{a b c:Expr}{es:List Expr}{fa fb fc:DE}{pos:Pos}
noncomputable def kPopE (t:Th) (i:Nat) (k:Ev):Option Out:=match t[i]?,k.d with
 |some (.own xs),.int n=>if decide (-1000000≤n∧n≤1000000) then (ixN xs.length n).bind fun q=>(xs[q]?).map fun _=>.nx (t.set i (.own (xs.eraseIdx q))) else none
 |_,_=>none
def zbf1 (i:Nat) (f:DE):DS:=fun t=>(f t).bind (kPopE t i)
end
end DL
namespace DL
open PySem.Spec L2
theorem RepDs.part {K:zbi5}{H0 H:Hp}{xs:List D} (sc:xs.all scD=true):∀ {ds:List D}{vs:List V}{C:List Addr}{k:Nat},RepDs K H0 H ds vs C→ds[k]?=some (.lst xs) →
  ∃C1 C2 r,C=C1++r::C2∧vs[k]?=some (.ref r)∧H r=some (.lst (xs.map sV))∧∀(H01 H1:Hp) (xs':List D),xs'.all scD=true→H1 r=some (.lst (xs'.map sV))→(∀b∈C1++C2,∀o,H b=some o→H1 b=some o)→Same H0 H01→RepDs K H01 H1 (ds.set k (.lst xs')) vs (C1++r::C2)
 |_,_,_,_,.nil,e=>by simp at e
 |_,_,_,0,.cons (B:=B) (C:=C) h r,e=>by
  simp at e
  subst e
  cases h with
  |flat f q=>simp [flat]at f
  |@lst _ p vs' B' h1 h2 =>
   obtain⟨rfl,rfl⟩:=zaq0 h2 sc
   refine⟨[],C,p,rfl,rfl,h1,fun H01 H1 xs' s' h' kp sm=>?_⟩
   exact .cons (B:=[p]) (C:=C) (.lst h' (zap5 s')) (RepDs.mono sm r fun b hb o w=>kp b (by simpa using hb) o w)
 |_,_,_,k+1,.cons (B:=B) (C:=C) h r,e=>by
  obtain⟨C1,C2,q,rfl,a2,a3,a4⟩:=RepDs.part sc r (k:=k) (by simpa using e)
  refine⟨B++C1,C2,q,by simp,by simpa using a2,a3,fun H01 H1 xs' s' h' kp sm=>?_⟩
  rw [zbr4]
  exact .cons (RepD.mono sm h fun b hb o w=>kp b (by simp [hb]) o w) (a4 H01 H1 xs' s' h' (fun b hb o w=>kp b (by rcases zbj2.mp hb with z | z<;>simp [z]) o w) sm)
theorem RS.takeDp2 {K:zbi5}{F A:List Addr}{H:Hp}{t:Th}{σ:L2.St}{i:Nat}{d:D} (R:RS K F H A t σ) (e:t[i]?=some (.dp d)) :
  ∃v B A',σ[i]?=some (some v)∧RS K (B++F) H A' (t.set i .no) σ∧B.Nodup∧(∀b∈B,b∉F)∧RepD K (hide (A++F) H) H d v B∧(∀x∈A',x∈A)∧(∀x∈B,x∈A):=by
 obtain⟨v,B,A',a1,a2,a3,a4,a5,a6,a7,a8,a9⟩:=R.rel.loseDp R.nd e
 have s:Same (hide (A++F) H) (hide (A'++(B++F)) H):=zb5 H fun x hx=>by
  rcases zbj2.mp hx with z | z
  ·exact zbi7 _ (a4 x z)
  ·rcases zbj2.mp z with z | z
   ·exact zbi7 _ (a5 x z)
   ·exact zbi4 _ z
 refine⟨v,B,A',a1,⟨fun p hp=>?_,a8,fun p hp z=>?_,RSl.mono s a3 fun _ _ _ w=>w⟩,a7,fun b hb=>R.dj b (a5 b hb),a2,a4,a5⟩
 ·rcases zbj2.mp hp with z | z
  ·exact R.mu p (zbi7 _ (a4 p z))
  ·rcases zbj2.mp z with z | z
   ·exact R.mu p (zbi7 _ (a5 p z))
   ·exact R.mu p (zbi4 _ z)
 ·rcases zbj2.mp z with z | z
  ·exact a9 p hp z
  ·exact R.dj p (a4 p hp) z
theorem Reps.sc {K:zbi5}{H:Hp}:∀ {ds:List D},ds.all scD=true→Reps K H ds (ds.map sV)
 |[],_=>.nil
 |d::ds,s=>by
  simp only [zbo7,zbj3]at s
  exact .cons (sc_rep s.1) (Reps.sc s.2)
theorem RS.putRow {K:zbi5}{F A:List Addr}{H:Hp}{t:Th}{σ:L2.St}{i:Nat}{p:Addr}{xs:List D}{vs:List V} (R:RS K ([p]++F) H A t σ) (dj:p∉F) (hp:H p=some (.lst vs)) (r:Reps K (hide (A++([p]++F)) H) xs vs) (hi:i<t.length) :
  ∃A',(∀x∈A',x=p∨x∈A)∧RS K F H A' (t.set i (.own xs)) (σ.set i (some (.ref p))):=by
 obtain⟨A2,r2,sub2,nd2⟩:=RSl.setAny (s:=.own xs) (v:=.ref p) (B:=[p]) (fun q=>.own hp r q) i R.rel hi
 have sub2:∀x∈A2,x=p∨x∈A:=fun x hx=>by
  rcases sub2 x hx with z | z
  ·exact .inl (zbl4.mp z)
  ·exact .inr z
 refine⟨A2,sub2,⟨fun q hq=>?_,nd2 R.nd (by simp) (fun b hb z=>R.dj b z (zbi7 _ hb)),fun q hq=>?_,RSl.mono (zb5 H fun x hx=>?_) r2 fun _ _ _ w=>w⟩⟩
 ·rcases zbj2.mp hq with z | z
  ·rcases sub2 q z with w | w
   ·exact⟨mL vs,w ▸ hp⟩
   ·exact R.mu q (zbi7 _ w)
  ·exact R.mu q (zbi4 _ (zbi4 _ z))
 ·rcases sub2 q hq with w | w
  ·exact w ▸ dj
  ·exact fun z=>R.dj q w (zbi4 _ z)
 ·rcases zbj2.mp hx with z | z
  ·rcases sub2 x z with w | w
   ·exact zbi4 _ (by simp [w])
   ·exact zbi7 _ w
  ·exact zbi4 _ (zbi4 _ z)
theorem Gr.beside {A A' P:List Addr}{H H':Hp} (g:Gr A H A' H') (h:∀b∈P,b∉A∧H b≠none):Gr (A++P) H (A'++P) H' where
 kp:=fun b o n e=>g.kp b o (fun z=>n (zbi7 _ z)) e
 al:=fun b hb=>by
  rcases zbj2.mp hb with z | z
  ·exact g.al b z
  ·obtain⟨n,e⟩:=h b z
   cases q:H b with
   |none=>exact absurd q e
   |some o=>rw [g.kp b o n q];simp
 nw:=fun b hb=>by
  rcases zbj2.mp hb with z | z
  ·rcases g.nw b z with w | w
   ·exact .inl (zbi7 _ w)
   ·exact .inr w
  ·exact .inl (zbi4 _ z)
structure Lent (K:zbi5) (F:List Addr) (ir jx:Nat) (ds:List D) (k:Nat) (A0:List Addr) (Hb:Hp) (p r:Addr) (C1 C2:List Addr) (A:List Addr) (H:Hp) (σ:L2.St):Prop where
 nd:(p ::(C1++r::C2)).Nodup
 dj:∀b∈p ::(C1++r::C2),b∉F
 s1:σ[ir]?=some (some (.ref p))
 s2:σ[jx]?=some (some (.ref r))
 gr:Gr A0 Hb (A++p ::(C1++C2)) H
 kp:∀b∈p ::(C1++C2),∀o,Hb b=some o→H b=some o
 re:∀(H01 H1:Hp) (xs':List D),xs'.all scD=true→H1 r=some (.lst (xs'.map sV))→(∀b∈p ::(C1++C2),∀o,Hb b=some o→H1 b=some o)→Same (hide (A0++F) Hb) H01→RepD K H01 H1 (.lst (ds.set k (.lst xs'))) (.ref p) (p ::(C1++r::C2))
noncomputable def dB (K:zbi5) (F:List Addr) (ir jx:Nat) (G:List D→Nat→DS):TS:=fun E σ H => ∃ds k A0 Hb p r C1 C2 A t o,RS K ((p ::(C1++C2))++F) H A t σ∧Lent K F ir jx ds k A0 Hb p r C1 C2 A H σ∧G ds k t=some o∧Post K F A0 Hb E o
def zv2 (g1 g2:DS):DS:=fun t=>match g1 t with
 |some (.nx t')=>g2 t'
 |_=>none
noncomputable def zbf2 (ir jx:Nat) (ds:List D) (k:Nat) (g:DS):DS:=fun t=>match t[jx]? with
 |some (.own xs)=>if xs.all scD&&decide (ir<t.length) then g ((t.set jx .no).set ir (.dp (.lst (ds.set k (.lst xs))))) else none
 |_=>none
noncomputable def zan4 (ir jx:Nat) (fb:DE) (G:List D→Nat→DS):DS:=fun t=>match t[ir]? with
 |some (.dp (.lst ds))=>(fb t).bind fun r=>match r.d with
  |.int i=>(ixN ds.length i).bind fun k=>match ds[k]? with
   |some (.lst xs)=>if xs.all scD&&decide (ir≠jx∧jx<t.length) then G ds k ((t.set ir .no).set jx (.own xs)) else none
   |_=>none
  |_=>none
 |_=>none
section
variable {X:Cx}{F:List Addr}{I:List Nat}{a b c:Expr}{es:List Expr}{fa fb fc:DE}{g g1 g2:DS}{ft fu:DT}{pos:Pos}{st:Stmt}{rest:List Stmt}{ir jx:Nat}{G:List D→Nat→DS}
theorem pp_nil:PSs X [] (dP X.K F I zh0):=by
 refine PSs.imp zal2 ?_
 rintro E σ H ⟨A,t,t2,R,e,h⟩
 cases e
 exact h σ H A (Gr.refl R.mu.left) R fun _ _=>rfl
theorem zs0 (h1:∀F',PS X st (dP X.K F' [ir,jx] g1)) (h2:PSs X rest (dB X.K F ir jx G)):PSs X (st::rest) (dB X.K F ir jx fun ds k=>zv2 g1 (G ds k)):=by
 have h1':PS X st (fun E σ H => ∃F',dP X.K F' [ir,jx] g1 E σ H):=fun pins s σ H E I ⟨F',h⟩=>h1 F' pins s σ H E I h
 refine PSs.imp (zp7 h1' h2) ?_
 rintro E σ H ⟨ds,k,A0,Hb,p,r,C1,C2,A,t,o,R,L,e,h⟩
 unfold zv2 at e
 dsimp only at e
 split at e
 case h_2=>cases e
 rename_i t' e1
 refine⟨(p ::(C1++C2))++F,A,t,t',R,e1,fun σ' H' A' g' R' n'=>⟨ds,k,A0,Hb,p,r,C1,C2,A',t',o,R',?_,e,h⟩⟩
 have out:∀b∈p ::(C1++C2),b∉A:=fun b hb z=>R.dj b z (zbi7 _ hb)
 refine⟨L.nd,L.dj,(n' ir (by simp)).trans L.s1,(n' jx (by simp)).trans L.s2,L.gr.trans (g'.beside fun b hb=>⟨out b hb,?_⟩),fun b hb o w=>g'.kp b o (out b hb) (L.kp b hb o w),L.re⟩
 obtain⟨o,w⟩:=R.mu b (zbi4 _ (zbi7 _ hb))
 rw [w];simp
theorem lent_end (h1:PSs X rest (dS X.K F g)):PSs X rest (dB X.K F ir jx fun ds k=>zbf2 ir jx ds k g):=by
 refine PSs.imp h1 ?_
 rintro E σ H ⟨ds,k,A0,Hb,p,r,C1,C2,A,t,o,R,L,e,h⟩
 unfold zbf2 at e
 dsimp only at e
 split at e
 case h_2=>cases e
 rename_i xs z
 split at e
 case isFalse=>cases e
 rename_i ok
 simp only [zbj3,decide_eq_true_eq]at ok
 obtain⟨r',vs,A1,a1,R1,a3,a4,a5,a6,a7⟩:=R.takeOwn z
 rw [L.s2]at a1
 cases a1
 have eB:∀b,b∈p ::(C1++r::C2)↔b=r∨b∈p ::(C1++C2):=fun b=>by
  simp only [zbj4,zbj2]
  constructor
  ·rintro (h | h | h | h)<;>simp [h]
  ·rintro (h | h | h | h)<;>simp [h]
 have R2:RS X.K ((p ::(C1++r::C2))++F) H A1 (t.set jx .no) σ:=R1.less fun b hb=>by
  rcases zbj2.mp hb with w | w
  ·rcases (eB b).mp w with w | w
   ·exact zbi7 _ (by simp [w])
   ·exact zbi4 _ (zbi7 _ w)
  ·exact zbi4 _ (zbi4 _ w)
 have sm:Same (hide (A0++F) Hb) (hide (A1++((p ::(C1++r::C2))++F)) H):=fun b o w=>by
  obtain⟨n,w⟩:=zn2 w
  have n0:b∉A0:=fun z=>n (zbi7 _ z)
  refine zc7 (L.gr.kp b o n0 w) fun z=>?_
  have no:∀c,c=b→c∈A++p ::(C1++C2)→False:=fun c hc m=>by
   subst hc
   rcases L.gr.nw c m with q | q
   ·exact n0 q
   ·rw [q]at w;cases w
  rcases zbj2.mp z with z | z
  ·exact no b rfl (zbi7 _ (a6 b z))
  ·rcases zbj2.mp z with z | z
   ·rcases (eB b).mp z with q | q
    ·exact no b rfl (zbi7 _ (q ▸ a7))
    ·exact no b rfl (zbi4 _ q)
   ·exact n (zbi4 _ z)
 have ev:=zay7 a5 ok.1
 subst ev
 have RD:=L.re (hide (A1++((p ::(C1++r::C2))++F)) H) H xs ok.1 a4 L.kp sm
 obtain⟨A2,b1,R3⟩:=R2.putOwned L.nd L.dj RD (i:=ir) (by rw [zbu4];exact ok.2)
 have es:σ.set ir (some (.ref p))=σ:=by
  apply zbv8
  intro j
  by_cases hj:ir=j
  ·subst hj
   rw [L.s1,zbq4 (by
    have:=L.s1
    rcases zbn0.mp this with ⟨w,_⟩
    exact w)]
  ·rw [zbp5 hj]
 rw [es]at R3
 refine⟨A2,_,o,R3,e,Post.back h ⟨L.gr.kp,L.gr.al,fun b hb=>?_⟩⟩
 rcases b1 b hb with w | w
 ·rcases (eB b).mp w with q | q
  ·exact L.gr.nw b (zbi7 _ (q ▸ a7))
  ·exact L.gr.nw b (zbi4 _ q)
 ·exact L.gr.nw b (zbi7 _ (a6 b w))
theorem psd_lend {x y:Str}{p0 pos' spos:Pos} (hN:X.N.Nodup) (hi:X.N[jx]?=some x) (hx:Loc X.env.scope x) (hb:PE X b (dE X.K F fb)) (hr:PSs X rest (dB X.K F ir jx G)) (hNy:X.N[ir]?=some y:=by rfl) (hv:Vis X.env.scope y:=by first | exact Or.inl rfl | exact Or.inr (Or.inl rfl) |exact Or.inr (Or.inr rfl)) (hd:(y ==("__debug__":Str))=false:=by decide)
  (hcd:(y ==("__classdict__":Str))=false:=by decide) (hpl:zao4 b:=by intro _ _;rfl) (hs:swapsWith (.Subscript (.Name y p0) b spos) (some (.Name x pos')) pos.line X.env=pure false:=by rfl) (hf:X.fn x=true∨X.env.scope.names.lookup x=some .local:=by first | exact .inl rfl | exact .inr rfl | assumption) :
  PSs X (.Assign [.Name x pos'] (.Subscript (.Name y p0) b spos) pos::rest) (dS X.K F (zan4 ir jx fb G)):=by
 refine PSs.imp (zp7 (zah0 hN hi hx (pe_ix ix_list (zo2 (i:=ir) hNy hv hd hcd) hb hpl) hs hf) hr) ?_
 rintro E σ H ⟨A,t,o,R,e,h⟩
 have h:Post X.K F A H E o:=h
 unfold zan4 at e
 split at e
 case h_2=>cases e
 rename_i ds z
 cases e1:fb t with
 |none=>rw [e1]at e;cases e
 |some rb =>
  rw [e1]at e
  simp only [zbj1]at e
  split at e
  case h_2=>cases e
  rename_i n zn
  cases e2:ixN ds.length n with
  |none=>rw [e2]at e;cases e
  |some k =>
   rw [e2]at e
   simp only [zbj1]at e
   split at e
   case h_2=>cases e
   rename_i xs zx
   split at e
   case isFalse=>cases e
   rename_i ok
   simp only [zbj3,decide_eq_true_eq]at ok
   obtain⟨sc,ne,lj⟩:=ok
   obtain⟨v0,B0,A00,c1,c2,c3,c4,c5,c6,c7⟩:=R.takeDp z
   refine⟨v0,c1,A,t,rb,R,e1,fun y0 H2 gs q=>?_⟩
   have pb:=q.full
   rw [zn]at pb
   cases zd1 pb
   obtain⟨v,B,A',d1,R1,d3,d4,d5,d6,d7⟩:=(R.grow gs).takeDp2 z
   rw [c1]at d1
   cases d1
   cases d5 with
   |flat f _=>simp [flat]at f
   |@lst _ p vs C h1 h2 =>
    obtain⟨C1,C2,r,rfl,f2,f3,f4⟩:=RepDs.part sc h2 zx
    have eB:∀b,b∈p ::(C1++r::C2)↔b=r∨b∈p ::(C1++C2):=fun b=>by
     simp only [zbj4,zbj2]
     constructor
     ·rintro (h | h | h | h)<;>simp [h]
     ·rintro (h | h | h | h)<;>simp [h]
    have vl:vs.length=ds.length:=by
     have:Reps X.K H2 ds vs:=h2.rep (zb0 _ _) fun _ _ _ w=>w
     exact this.length
    refine⟨p,vs,n,.ref r,rfl,rfl,SqL.of h1,?_,?_⟩
    ·unfold L2.atI
     rw [vl,e2]
     exact f2
    ·have rP:r∉p ::(C1++C2):=by
      have n0:=zbl0.mp d3
      have n1:=zbk9.mp n0.2
      have n2:=zbl0.mp n1.2.1
      intro w
      rcases zbj4.mp w with w | w
      ·exact n0.1 (by rw [← w];simp)
      ·rcases zbj2.mp w with w | w
       ·exact n1.2.2 r w r (zbi9 ..) rfl
       ·exact n2.1 w
     have R2:RS X.K ([r]++((p ::(C1++C2))++F)) H2 A' (t.set ir .no) σ:=R1.less fun b hb=>by
      rcases zbj2.mp hb with w | w
      ·exact zbi7 _ ((eB b).mpr (.inl (zbl4.mp w)))
      ·rcases zbj2.mp w with w | w
       ·exact zbi7 _ ((eB b).mpr (.inr w))
       ·exact zbi4 _ w
     have rF:r∉(p ::(C1++C2))++F:=fun w=>by
      rcases zbj2.mp w with w | w
      ·exact rP w
      ·exact d4 r ((eB r).mpr (.inl rfl)) w
     have rx:Reps X.K (hide (A'++([r]++((p ::(C1++C2))++F))) H2) xs (xs.map sV):=Reps.sc sc
     obtain⟨A1,sub,R3⟩:=R2.putRow (i:=jx) rF f3 rx (by rw [zbu4];exact lj)
     refine⟨ds,k,A,H2,p,r,C1,C2,A1,_,o,R3,⟨d3,d4,?_,?_,⟨fun b o _ w=>w,fun b hb=>?_,fun b hb=>.inl ?_⟩,fun b _ o w=>w,fun H01 H1 xs' s' w1 w2 w3=>?_⟩,e,Post.back h (Gr.of_same R.mu.left gs)⟩
     ·rw [zbp5 (fun w:jx=ir=>ne w.symm)];exact c1
     ·rw [zbq4 (by
       have:=R.rel.len
       rw [this];exact lj)]
     ·obtain⟨o,w⟩:=(R.mu.mono gs) b (zbi7 _ hb)
      rw [w];simp
     ·rcases zbj2.mp hb with w | w
      ·rcases sub b w with w | w
       ·exact d7 b ((eB b).mpr (.inl w))
       ·exact d6 b w
      ·exact d7 b ((eB b).mpr (.inr w))
     ·exact .lst (w2 p (zbi9 ..) _ h1) (f4 H01 H1 xs' s' w1 (fun b hb o w=>w2 b (zbi6 _ hb) o w) w3)
end
end DL
namespace DL
open PySem.Spec L2
section
variable {X:Cx}{F:List Addr}{I:List Nat}{a b c:Expr}{es:List Expr}{fa fb fc:DE}{ga:DA}{g g1 g2:DS}{ft fu:DT}{pos:Pos}{st:Stmt}{rest:List Stmt}
theorem pp_popE (i:Nat) {x:Str}{p1 apos1 cpos1:Pos} (he:PE X a (dE X.K F fa)) (hN:X.N[i]?=some x:=by rfl) (hv:Vis X.env.scope x:=by first | exact Or.inl rfl | exact Or.inr (Or.inl rfl) |exact Or.inr (Or.inr rfl)) (hd:(x ==("__debug__":Str))=false:=by decide)
  (hcd:(x ==("__classdict__":Str))=false:=by decide) (hst:zbk2 [a] X.env=[(false,eval a X.env)]:=by rfl)
  (hbase:attributeBase (.Name x p1) "pop" X.env (eval (.Name x p1) X.env)=eval (.Name x p1) X.env:=by rfl)
  (hfew:((zbq3 cpos1 (zbk2 [a] X.env)).all (fun x=>!x.1)&&(backToKw cpos1 (keywordEach [] X.env)).all (fun x=>x.1.isSome)
   && decide ([a].length+([]:List Keyword).length+(if ([]:List Keyword).isEmpty then 0 else 1)<30))=true:=by rfl)
  (hline:(apos1.endLine == cpos1.line)=true:=by rfl) (hplain:(zbq3 cpos1 (zbk2 [] X.env)).any (·.1)=false:=by rfl)
  (hsw:swapsWith (.Call (.Attribute (.Name x p1) "pop" apos1) [a] [] cpos1) none pos.line X.env=pure false:=by rfl) :
  PS X (.Expr (.Call (.Attribute (.Name x p1) "pop" apos1) [a] [] cpos1) pos) (dP X.K F I (zbf1 i fa)):=by
 refine PS.imp (zad6 (pe_bm zbs3 PySem.F.slot_list_pop PySem.F.type_list_pop mt_popAt (zo2 (i:=i) hN hv hd hcd) (zf9 he zn9 hst) hbase hfew hline hst hplain) hsw) ?_
 rintro E σ H ⟨A,t,t2,R,e,h⟩
 unfold zbf1 at e
 cases e1:fa t with
 |none=>rw [e1]at e;cases e
 |some r =>
  rw [e1]at e
  have e:kPopE t i r=some (.nx t2):=e
  unfold kPopE at e
  split at e
  case h_2=>cases e
  rename_i xs n z1 zr
  split at e
  case isFalse=>cases e
  rename_i ok
  simp only [decide_eq_true_eq]at ok
  cases e3:ixN xs.length n with
  |none=>rw [e3]at e;cases e
  |some q =>
   rw [e3]at e
   simp only [zbj1]at e
   cases e4:xs[q]? with
   |none=>rw [e4]at e;cases e
   |some d =>
    rw [e4]at e
    cases e
    obtain⟨p,vs,a1,a2,a3,a4⟩:=R.rel.getOwn z1
    obtain⟨v,c1,c2⟩:=a4.get e4
    have hj:=zan0 (by rw [← a4.length]at e3;exact e3)
    refine⟨_,a1,.inl ⟨rfl,vs,SqL.of a3⟩,A,t,r,R,e1,fun w H1 gs q1=>?_⟩
    have pr:=q1.full
    rw [zr]at pr
    cases zd1 pr
    obtain⟨R1,g1⟩:=(R.grow gs).write (es:=xs.eraseIdx q) (ws:=vs.eraseIdx q) z1 a1 (Reps.erase q (Reps.mono (zc8 gs) a4))
    refine⟨p,vs,n,q,v,rfl,rfl,gs _ _ a3,by lia,by lia,hj.1,c1,?_⟩
    exact h _ _ _ ((Gr.of_same R.mu.left gs).trans g1) R1 fun _ _=>rfl
theorem pp_ins (i:Nat) {x:Str}{p0 apos cpos:Pos} (he:PA X [a,b] (dA X.K F ga)) (hN:X.N[i]?=some x:=by rfl) (hv:Vis X.env.scope x:=by first | exact Or.inl rfl | exact Or.inr (Or.inl rfl) |exact Or.inr (Or.inr rfl)) (hd:(x ==("__debug__":Str))=false:=by decide)
  (hcd:(x ==("__classdict__":Str))=false:=by decide) (hst:zbk2 [a,b] X.env=(false,eval a X.env)::zbk2 [b] X.env:=by rfl)
  (hbase:attributeBase (.Name x p0) "insert" X.env (eval (.Name x p0) X.env)=eval (.Name x p0) X.env:=by rfl)
  (hfew:((zbq3 cpos (zbk2 [a,b] X.env)).all (fun x=>!x.1)&&(backToKw cpos (keywordEach [] X.env)).all (fun x=>x.1.isSome)
   && decide ([a,b].length+([]:List Keyword).length+(if ([]:List Keyword).isEmpty then 0 else 1)<30))=true:=by rfl)
  (hline:(apos.endLine == cpos.line)=true:=by rfl) (hplain:(zbq3 cpos (zbk2 [b] X.env)).any (·.1)=false:=by rfl)
  (hsw:swapsWith (.Call (.Attribute (.Name x p0) "insert" apos) [a,b] [] cpos) none pos.line X.env=pure false:=by rfl) :
  PS X (.Expr (.Call (.Attribute (.Name x p0) "insert" apos) [a,b] [] cpos) pos) (dP X.K F I (dIns i ga)):=by
 refine PS.imp (zad6 (pe_bm zbs3 zbv3 PySem.F.type_list_insert zbb6 (zo2 (i:=i) hN hv hd hcd) he hbase hfew hline hst hplain) hsw) ?_
 rintro E σ H ⟨A,t,t2,R,e,h⟩
 unfold dIns at e
 cases e1:ga t with
 |none=>rw [e1]at e;cases e
 |some rs =>
  rw [e1]at e
  have e:kIns t i rs=some (.nx t2):=e
  unfold kIns at e
  split at e
  case h_2=>cases e
  rename_i rk rn
  split at e
  case h_2=>cases e
  rename_i xs k n z zk zn
  cases e3:zk4 xs with
  |none=>rw [e3]at e;cases e
  |some ns =>
   rw [e3]at e
   simp only [zbj1]at e
   split at e
   case isFalse=>cases e
   rename_i ok
   cases e
   obtain⟨p,vs,a1,a2,a3,a4⟩:=R.rel.getOwn z
   rw [zn4 e3]at a4
   have a5:=zh1 a4
   subst a5
   refine⟨_,a1,.inl ⟨rfl,_,SqL.of a3⟩,A,t,_,R,e1,fun ys H1 gs q=>⟨p,ns,k,n,rfl,?_,gs _ _ a3,ok.1,ok.2.1,ok.2.2,?_⟩⟩
   ·cases q with
    |cons qa qb =>
     cases qb with
     |cons qb qc =>
      cases qc
      have p1:=qa.full
      rw [zk]at p1
      cases zd1 p1
      have p2:=qb.full
      rw [zn]at p2
      cases zd1 p2
      rfl
   ·obtain⟨R',g'⟩:=(R.grow gs).write (es:=(insN ns k.toNat n).map D.int) (ws:=(insN ns k.toNat n).map V.int) z a1 (Reps.ints _)
    exact h _ _ _ ((Gr.of_same R.mu.left gs).trans g') R' fun _ _=>rfl
theorem zaq8 {i:Nat}{x:Str}{pos':Pos} (hJ:i∉I) (hN:X.N.Nodup) (hi:X.N[i]?=some x) (hx:Loc X.env.scope x) (he:PE X a (dE X.K F fa)) (hs:swapsWith a (some (.Name x pos')) pos.line X.env=pure false:=by rfl) (hf:X.fn x=true∨X.env.scope.names.lookup x=some .local:=by first | exact .inl rfl | exact .inr rfl | assumption) :
  PS X (.Assign [.Name x pos'] a pos) (dP X.K F I (dAsg i fa)):=by
 refine PS.imp (zah0 hN hi hx he hs hf) ?_
 rintro E σ H ⟨A,t,t',R,e,h⟩
 unfold dAsg at e
 cases e1:fa t with
 |none=>rw [e1]at e;cases e
 |some r1 =>
  rw [e1]at e
  have e:(zr1 t i r1).map Out.nx=some (.nx t'):=e
  cases e2:zr1 t i r1 with
  |none=>rw [e2]at e;cases e
  |some t2 =>
   rw [e2]at e
   cases e
   refine⟨A,t,r1,R,e1,fun v H' gs q=>?_⟩
   obtain⟨A',g',R'⟩:=R.put gs q e2
   exact h _ _ _ g' R' fun k hk=>zbp5 (fun (z:i=k)=>hJ (z ▸ hk))
end
end DL
namespace DL
open PySem.Spec L2
section
variable {X:Cx}{F:List Addr}{es:List Expr}{fns:DNs}{pos:Pos}
def zav7 (g:DNs):DE:=fun t=>(g t).bind fun q=>if q.1.length≤1000&&q.2.isEmpty then some (.dn (.lst q.1)) else none
theorem ped_newL (h:PA X es (dNs X.K F fns)):PE X (.List es pos) (dE X.K F (zav7 fns)):=by
 refine PE.imp (pe_lst h) ?_
 rintro σ H Q ⟨A,t,r,R,e,h⟩
 unfold zav7 at e
 cases e1:fns t with
 |none=>rw [e1]at e;cases e
 |some q =>
  obtain⟨ds,I⟩:=q
  rw [e1]at e
  simp only [zbj1]at e
  split at e
  case isFalse=>cases e
  rename_i ok
  cases e
  simp only [zbj3,decide_eq_true_eq,List.isEmpty_iff]at ok
  obtain⟨hl,rfl⟩:=ok
  refine⟨A,t,ds,[],R,e1,fun vs H1 B g1 n1 f1 r1=>⟨by rw [r1.length];exact le_line (by lia),fun p hp=>?_⟩⟩
  have s1:=zd2 (o:=HO.lst vs) hp
  have np:p∉B:=zd4 r1.lists hp
  refine h _ _ (g1.trans s1) ⟨p::B,zbl0.mpr ⟨np,n1⟩,fun b hb=>?_,.lst zc6 (RepDs.mono (zl1 hp) r1 fun b hb o w=>s1 _ _ w)⟩
  rcases zbj4.mp hb with z | z
  ·rw [z];exact Same.free g1 hp
  ·rcases f1 b z with w | ⟨i,hi,_⟩
   ·exact w
   ·cases hi
end
end DL
namespace KX
open PySem.Spec L2 DL
abbrev qA:=kOr (kI tt2 fun i j=>.int (i+j)) kCat
abbrev qS:=kI tt2 fun i j=>.int (i - j)
abbrev qM:=kOr (kI cMul fun i j=>.int (i*j)) kRep
abbrev qV:=kI cDiv fun i j=>.int (i.fdiv j)
abbrev qR:=kI cMod fun i j=>.int (i.fmod j)
abbrev qL:=kI tt2 fun i j=>.bl (decide (i<j))
abbrev qE:=kI tt2 fun i j=>.bl (decide (i≤j))
abbrev qG:=kI tt2 fun i j=>.bl (decide (j<i))
abbrev qH:=kI tt2 fun i j=>.bl (decide (j≤i))
abbrev qN:=k2I fun i j=>if j<i then j else i
abbrev qU:=kBls fun bs=>bs.all id
abbrev qP:=kI cPow fun i j=>.int (i ^ j.toNat)
theorem bnd_big:1000000000000000000000000000000000000≤bndS:=by
 have:(2:Nat) ^ 120≤2 ^ 1048576:=zbp6 (by decide) (by decide)
 unfold bndS
 exact zbn6 (by decide) this
theorem app_of (t:Th) {f:DE}{i:Nat}{xs:List D}{d:D} (hf:f t=some (.cl d)) (hi:t[i]?=some (.own xs)) (hl:xs.length<100000):dApp i f t=some (.nx (t.set i (.own (xs++[d])))):=by
 unfold dApp
 rw [hf]
 simp only [zbj1,kApp,hi,Ev.ok,Ev.d,hl,decide_true,Bool.and_self,if_true]
theorem asg_of (t:Th) {f:DE}{i:Nat}{d:D} (hf:f t=some (.cl d)) (hi:i<t.length):dAsg i f t=some (.nx (t.set i (.val d))):=by
 unfold dAsg
 rw [hf]
 simp only [zbj1,zr1,hi,if_true,zbn5]
theorem ze0:∀xs:List Int,zg9 (xs.map D.int)=true
 |[]=>rfl
 |x::xs=>by
  have:=ze0 xs
  simp [zg9,flat,this]
theorem zj0 {k:List Ev→Option Ev}{fa fb:DE}{t:Th}{ra rb:Ev} (h1:fa t=some ra) (h2:fb t=some rb):dT1 k (za2 fa (za2 fb dNil)) t=k [ra,rb]:=by
 simp [dT1,za2,dNil,h1,h2]
theorem zg3 {k:Ev→Ev→Option Ev}{fa fb:DE}{t:Th}{ra rb:Ev} (h1:fa t=some ra) (h2:fb t=some rb):d2 k fa fb t=k ra rb:=by
 simp [d2,h1,h2]
theorem t4_of {k:List Ev→Option Ev}{fa fb fc fd:DE}{t:Th}{ra rb rc rd:Ev} (h1:fa t=some ra) (h2:fb t=some rb) (h3:fc t=some rc) (h4:fd t=some rd):dT1 k (za2 fa (za2 fb (za2 fc (za2 fd dNil)))) t=k [ra,rb,rc,rd]:=by
 simp [dT1,za2,dNil,h1,h2,h3,h4]
theorem t3_of {k:List Ev→Option Ev}{fa fb fc:DE}{t:Th}{ra rb rc:Ev} (h1:fa t=some ra) (h2:fb t=some rb) (h3:fc t=some rc):dT1 k (za2 fa (za2 fb (za2 fc dNil))) t=k [ra,rb,rc]:=by
 simp [dT1,za2,dNil,h1,h2,h3]
theorem zs9 {k:List Ev→Option Ev}{fa:DE}{t:Th}{ra:Ev} (h1:fa t=some ra):dT1 k (za2 fa dNil) t=k [ra]:=by
 simp [dT1,za2,dNil,h1]
theorem ze4 {t:Th}{f:DE}{i:Nat}{d:D} (hf:f t=some (.cl d)) (hi:i<t.length):dAsg i f t=some (.nx (t.set i (.val d))):=asg_of t hf hi
theorem zs8 {t:Th}{f:DE}{i:Nat}{xs:List D} (hf:f t=some (.nw xs)) (hi:i<t.length):dAsg i f t=some (.nx (t.set i (.own xs))):=by
 unfold dAsg
 rw [hf]
 simp only [zbj1,zr1,hi,if_true,zbn5]
theorem zx9 (n b:Nat) (h:b<n):ixN n (b:Int)=some b:=by unfold ixN;rw [if_pos (by lia),if_pos (by lia)];simp
theorem get_map (L:List Int) (b:Nat) (h:b<L.length):(L.map D.int)[b]?=some (.int (L.getD b 0)):=by simp [zbl1,h]
theorem at_map (L:List Int) (b:Nat) (h:b<L.length):atI (L.map D.int) (b:Int)=some (.int (L.getD b 0)):=by
 unfold atI
 rw [zx9 _ _ (by simpa using h)]
 exact get_map L b h
theorem ixEv {r1 r2:Ev} (L:List Int) (b:Nat) (h:b<L.length) (h1:r1.d=.lst (L.map D.int)) (h2:r2.d=.int (b:Int)):kIx r1 r2=some (.cl (.int (L.getD b 0))):=by
 unfold kIx
 rw [h1,h2]
 show (atI (L.map D.int) (b:Int)).map _=_
 rw [at_map L b h]
 simp [flat]
theorem ifs_of {c:DT}{g1 g2:DS}{t:Th}{b:Bool} (h:c t=some b):dIfS c g1 g2 t=if b then g1 t else g2 t:=by
 unfold dIfS;rw [h];rfl
theorem zt8 {c:DT}{g1 g2:DS}{t:Th}{b:Bool} (h:c t=some b) (hb:b=true):dIfS c g1 g2 t=g1 t:=by
 rw [ifs_of h,hb];rfl
theorem ifs_f {c:DT}{g1 g2:DS}{t:Th}{b:Bool} (h:c t=some b) (hb:b=false):dIfS c g1 g2 t=g2 t:=by
 rw [ifs_of h,hb];rfl
theorem zan1 {r1 r2:Ev} (p:Int) (K:List Int) (h1:r1.d=.int p) (h2:r2.d=.lst (K.map D.int)):kIn r1 r2=some (.cl (.bl (decide (p∈K)))):=by
 unfold kIn
 rw [h1,h2]
 clear h2
 have e1:(K.map D.int).all (fun d=>scD d&&eqOk 0 d (.int p))=true:=by
  rw [zbm6]
  intro d hd
  obtain⟨k,_,rfl⟩:=zbm9.mp hd
  rfl
 have e2:(K.map D.int).any (fun d=>eqD d (.int p))=decide (p∈K):=by
  induction K with
  |nil=>rfl
  |cons k K ih =>
   have e1':(K.map D.int).all (fun d=>scD d&&eqOk 0 d (.int p))=true:=by
    simp only [zbk5,zbo7,zbj3]at e1;exact e1.2
   rw [zbk5,zbp0,ih e1',zan3]
   by_cases h:k=p
   ·subst h;simp
   ·have : ¬ p=k:=fun q=>h q.symm
    simp [h,this]
 show (if scD (.int p)&&(K.map D.int).all (fun d=>scD d&&eqOk 0 d (.int p)) then some (Ev.cl (.bl ((K.map D.int).any fun d=>eqD d (.int p)))) else none)=_
 rw [e1,e2]
 rfl
theorem bo_in {fa fb:DE}{t:Th}{r1 r2:Ev} (p:Int) (K:List Int) (ha:fa t=some r1) (hb:fb t=some r2) (h1:r1.d=.int p) (h2:r2.d=.lst (K.map D.int)):dBo (d2 kIn fa fb) t=some (decide (p∈K)):=by
 unfold dBo
 rw [zg3 ha hb,zan1 p K h1 h2]
 rfl
theorem zu1 (t:Th) {f:DE}{i:Nat}{xs:List Int}{p:Int} (hf:f t=some (.cl (.int p))) (hi:t[i]?=some (.own (xs.map D.int))) (hl:xs.length<100000):dApp i f t=some (.nx (t.set i (.own ((xs++[p]).map D.int)))):=by
 rw [app_of t hf hi (by simpa using hl)]
 simp
theorem seq_rt {g1 g2:DS}{t:Th}{r:Ev} (h:g1 t=some (.rt r)):dSeq g1 g2 t=some (.rt r):=by simp [dSeq,h]
theorem grd {c:DT}{g:DS}{t:Th}{b:Bool} (h:c t=some b) (hb:b=false):dIfS c g zh0 t=some (.nx t):=(ifs_f h hb).trans rfl
theorem zbd6 {c:DT}{g:DS}{t:Th}{b:Bool}{d:D} (h:c t=some b) (hb:b=true):dIfS c (dRet (dC d)) g t=some (.rt (.cl d)):=(zt8 h hb).trans rfl
theorem bnd {g:Option Out}{r:Ev} (h:g=some (.rt r)):g.bind zi7=some r:=by rw [h];rfl
theorem zi0 {fa fb:DE}{t:Th}{a b:Int} (h1:fa t=some (.cl (.int a))) (h2:fb t=some (.cl (.int b))):(d2 qA fa fb) t=some (.cl (.int (a+b))):=(zg3 h1 h2).trans rfl
theorem zag0 {fa fb:DE}{t:Th}{a b:Int} (h1:fa t=some (.cl (.int a))) (h2:fb t=some (.cl (.int b))):(d2 qS fa fb) t=some (.cl (.int (a - b))):=(zg3 h1 h2).trans rfl
theorem zf2 {fa fb:DE}{t:Th}{a b:Int} (h1:fa t=some (.cl (.int a))) (h2:fb t=some (.cl (.int b))) (hb:b≠0):(d2 qR fa fb) t=some (.cl (.int (a.fmod b))):=by
 rw [zg3 h1 h2]
 show (if cMod a b=true then _ else none)=_
 rw [if_pos (by unfold cMod;exact decide_eq_true hb)]
theorem zk3 {fa fb:DE}{t:Th}{a b:Int} (h1:fa t=some (.cl (.int a))) (h2:fb t=some (.cl (.int b))) (hb:b≠0) (hs:sm b=true):(d2 qV fa fb) t=some (.cl (.int (a.fdiv b))):=by
 rw [zg3 h1 h2]
 show (if cDiv a b=true then _ else none)=_
 rw [if_pos (by unfold cDiv;rw [hs];simp [hb])]
theorem zo3 {fa fb:DE}{t:Th}{a b:Int} (h1:fa t=some (.cl (.int a))) (h2:fb t=some (.cl (.int b))) (ha:sm a=true) (hb:sm b=true):(d2 qM fa fb) t=some (.cl (.int (a*b))):=by
 rw [zg3 h1 h2]
 have:cMul a b=true:=by simp only [cMul];rw [ha,hb];rfl
 simp [kOr,kI,Ev.d,this]
theorem pow12 (t:Th):(d2 qP (dC (.int 10)) (dC (.int 12))) t=some (.cl (.int 1000000000000)):=by
 simp [d2,dC,kI,cPow,kOr,tt2,Ev.d]
theorem zbb8 {fa fb:DE}{t:Th}{a b:Int} (h1:fa t=some (.cl (.int a))) (h2:fb t=some (.cl (.int b))):dBo (d2 qL fa fb) t=some (decide (a<b)):=by
 unfold dBo;rw [zg3 h1 h2];rfl
theorem gt_of {fa fb:DE}{t:Th}{a b:Int} (h1:fa t=some (.cl (.int a))) (h2:fb t=some (.cl (.int b))):dBo (d2 qG fa fb) t=some (decide (b<a)):=by
 unfold dBo;rw [zg3 h1 h2];rfl
theorem zs6 {fa fb:DE}{t:Th}{a b:Int} (h1:fa t=some (.cl (.int a))) (h2:fb t=some (.cl (.int b))):dBo (d2 kEq fa fb) t=some (decide (a=b)):=by
 unfold dBo;rw [zg3 h1 h2]
 have:kEq (.cl (.int a)) (.cl (.int b))=some (.cl (.bl (eqD (.int a) (.int b)))):=rfl
 rw [this,zan3];rfl
theorem neI_of {fa fb:DE}{t:Th}{a b:Int} (h1:fa t=some (.cl (.int a))) (h2:fb t=some (.cl (.int b))):dBo (d2 kNe fa fb) t=some (!decide (a=b)):=by
 unfold dBo;rw [zg3 h1 h2]
 have:kNe (.cl (.int a)) (.cl (.int b))=some (.cl (.bl (!eqD (.int a) (.int b)))):=rfl
 rw [this,zan3];rfl
theorem or_of {f g:DT}{t:Th}{a b:Bool} (h1:f t=some a) (h2:a=false→g t=some b):dOr f g t=some (a||b):=by
 unfold dOr;rw [h1]
 cases a with
 |true=>rfl
 |false=>simp [h2 rfl]
theorem zah5 {f g:DT}{t:Th}{a b:Bool} (h1:f t=some a) (h2:g t=some b):dOr f g t=some (a||b):=or_of h1 fun _=>h2
theorem zl7 {f g:DT}{t:Th}{a b:Bool} (h1:f t=some a) (h2:g t=some b):dAnd f g t=some (a&&b):=by
 unfold dAnd;rw [h1];cases a<;>simp [h2]
theorem zar3 {t:Th}{f:DE}{r:Ev}{xs:List Int} (h:f t=some r) (hr:r.d=.lst (xs.map D.int)):(dT1 kLen (za2 f dNil)) t=some (.cl (.int (xs.length:Int))):=by
 rw [zs9 h]
 unfold kLen
 simp only [hr,zbk3]
theorem zl0 {fa fb:DE}{t:Th}{r1 r2:Ev} (L:List Int) (b:Nat) (ha:fa t=some r1) (hb:fb t=some r2) (h:b<L.length) (h1:r1.d=.lst (L.map D.int)) (h2:r2.d=.int (b:Int)):(d2 kIx fa fb) t=some (.cl (.int (L.getD b 0))):=by
 rw [zg3 ha hb,ixEv L b h h1 h2]
theorem zac6 {t:Th}{fk fv:DE}{i:Nat}{L:List Int}{b:Nat}{v:Int} (hv:fv t=some (.cl (.int v))) (hk:fk t=some (.cl (.int (b:Int)))) (hi:t[i]?=some (.own (L.map D.int))) (hb:b<L.length):zm2 i fk fv t=some (.nx (t.set i (.own ((L.set b v).map D.int)))):=by
 unfold zm2
 rw [hv,hk]
 show zx7 t i (.cl (.int v)) (.cl (.int (b:Int)))=_
 unfold zx7
 rw [hi]
 show (ixN (L.map D.int).length (b:Int)).map _=_
 rw [zx9 _ b (by simpa using hb),zbx5]
 rfl
theorem zbi1 {t:Th}{f:Int→Int→Int}{fk fv:DE}{i:Nat}{L:List Int}{b:Nat}{v:Int} (hk:fk t=some (.cl (.int (b:Int)))) (hv:fv t=some (.cl (.int v))) (hi:t[i]?=some (.own (L.map D.int))) (hb:b<L.length):zav8 f i fk fv t=some (.nx (t.set i (.own ((L.set b (f (L.getD b 0) v)).map D.int)))):=by
 unfold zav8
 rw [hv,hk]
 show zbc8 f t i (.cl (.int (b:Int))) (.cl (.int v))=_
 unfold zbc8
 rw [hi]
 show (ixN (L.map D.int).length (b:Int)).bind _=_
 rw [zx9 _ b (by simpa using hb)]
 simp only [zbj1,get_map L b hb,zbx5]
theorem calln {G:List D→Option Ev}{rs:List Ev}{xs:List Int} (h:G (rs.map Ev.d)=some (.nw (xs.map D.int))):zc9 G rs=some (.nw (xs.map D.int)):=by
 unfold zc9
 rw [h]
 simp only [zbn5,upEv]
 split
 ·rfl
 ·simp [ze0]
theorem callc {G:List D→Option Ev}{rs:List Ev}{d:D} (h:G (rs.map Ev.d)=some (.cl d)) (hf:flat d=true):zc9 G rs=some (.cl d):=by
 unfold zc9
 rw [h]
 simp only [zbn5,upEv]
 split
 ·rfl
 ·simp [hf]
theorem cns {f:DE}{g:DA}{t:Th}{r:Ev}{rs:List Ev} (h1:f t=some r) (h2:g t=some rs):za2 f g t=some (r::rs):=by
 unfold za2;rw [h1,h2];rfl
theorem tk1 {k:List Ev→Option Ev}{g:DA}{t:Th}{rs:List Ev} (h:g t=some rs):dT1 k g t=k rs:=by
 unfold dT1;rw [h];rfl
theorem zw0 {f:DE}{t:Th}{b:Bool} (h:f t=some (.cl (.bl b))):dTr f t=some b:=by
 unfold dTr;rw [h];rfl
theorem zab2 {f:DT}{t:Th}{b:Bool} (h:f t=some b):dNot f t=some (!b):=by
 unfold dNot;rw [h];rfl
theorem zn8 {f:DE}{t:Th}{r:Ev} (h:f t=some r):dRet f t=some (.rt r):=by
 unfold dRet;rw [h];rfl
theorem zab9 {k:D→Th→Option Th}{f:DE}{b:DS}{t:Th}{r:Ev}{ds:List D} (h:f t=some r) (hd:r.d=.lst ds) (ho:r.ok=true):dFor k f b t=forD k b ds t:=by
 unfold dFor
 rw [h]
 simp only [zbj1,hd,ho,if_true]
theorem zak4 (n:Nat):Builtin.Range.rangeSize 0 (n:Int) 1=(n:Int):=by
 unfold Builtin.Range.rangeSize
 rw [if_pos (by lia)]
 split<;>lia
theorem ok_of {n:Nat} (hn:n≤1000):zw4 0 (n:Int) 1=true:=by
 unfold zw4
 rw [small_of (by lia) (by lia),zak4,decide_eq_true (by lia)]
 rfl
theorem lr_of {f:DE}{t:Th}{n:Nat} (h:f t=some (.cl (.int (n:Int)))) (hn:n≤1000):(zu9 (za2 f dNil)) t=some (.nw ((zc5 n).map D.int)):=by
 have e:(za2 f dNil) t=some [.cl (.int (n:Int))]:=by simp [za2,dNil,h]
 have e2:rArgs ([Ev.cl (.int (n:Int))].map Ev.d)=some (0,(n:Int),1):=rfl
 have c:(zw4 0 (n:Int) 1&&decide (Builtin.Range.rangeSize 0 (n:Int) 1≤50000))=true:=by
  rw [ok_of hn,zak4,decide_eq_true (by lia)];rfl
 unfold zu9
 rw [e,zbj1,e2,zbj1,if_pos c]
 unfold rng3 zc5
 rw [zak4,zbl5]
 simp
theorem zt2 {k0:D→Th→Option Th}{b:DS}{t:Th}{f:DE}{r:Ev}{n:Nat} (h:f t=some r) (hr:r.d=.int (n:Int)) (hn:n≤100000):zz1 k0 f b t=forD k0 b ((zc5 n).map D.int) t:=by
 unfold zz1
 rw [h]
 simp only [zbj1,hr]
 rw [if_pos (by unfold bigI;exact decide_eq_true (by lia)),zbl5]
 congr 1
 unfold rngD zc5
 simp
theorem zt7 {f:DE}{t:Th}{r:Ev}{xs:List Int} (h:f t=some r) (hr:r.d=.lst (xs.map D.int)):(dT1 zq3 (za2 f dNil)) t=some (.nw (xs.map D.int)):=by
 rw [zs9 h]
 unfold zq3
 simp only [hr,ze0,zbn2,if_true]
theorem zbd3 {f:DE}{t:Th}{b:Bool} (h:f t=some (.cl (.bl b))):(dT1 zam9 (za2 f dNil)) t=some (.cl (.int (if b then 1 else 0))):=by
 rw [zs9 h];rfl
theorem gtv_of {fa fb:DE}{t:Th}{a b:Int} (h1:fa t=some (.cl (.int a))) (h2:fb t=some (.cl (.int b))):(d2 qG fa fb) t=some (.cl (.bl (decide (b<a)))):=(zg3 h1 h2).trans rfl
theorem zae9 {k:D→Th→Option Th}{fe:DE}{f:Int→Int}{ext:Th} (hk:∀(s:Sl) (x:Int),k (.int x) (s::ext)=some (.val (.int x)::ext)):∀(xs:List Int) (s:Sl),(∀x∈xs,fe (.val (.int x)::ext)=some (.cl (.int (f x))))→zd5 k ze5 fe (xs.map D.int) (s::ext)=some ((xs.map f).map D.int)
 |[],s,_=>rfl
 |x::xs,s,hf=>by
  simp only [zbk5,zd5,hk,zbj1,ze5,hf x (zbi9 ..),if_true]
  rw [zae9 hk xs _ fun y hy=>hf y (zbi6 _ hy)]
  rfl
theorem zaf0 {cap:List Nat}{f:DE}{fe:DE}{t:Th}{r:Ev}{xs:List Int}{g:Int→Int}{b:Bool}{c:List D} (hf:f t=some r) (hr:r.d=.lst (xs.map D.int)) (hn:xs.length≤50000) (hc:capD t cap=some (b,c)) (he:∀x∈xs,fe (.val (.int x)::c.map Sl.val)=some (.cl (.int (g x)))) :
  (zd8 1 cap (fsL f) (za5 0) ze5 fe) t=some (.nw ((xs.map g).map D.int)):=by
 unfold zd8
 have e1:fsL f t=some (r.ok,xs.map D.int):=by
  unfold fsL
  rw [hf]
  simp only [zbj1,hr]
 have e2:zd5 (za5 0) ze5 fe (xs.map D.int) (Sl.no::c.map Sl.val)=some ((xs.map g).map D.int):=zae9 (fun _ _=>rfl) _ _ he
 rw [e1,hc]
 simp only [zbj1]
 rw [if_pos (by simpa using hn)]
 show (zd5 (za5 0) ze5 fe (xs.map D.int) (Sl.no::c.map Sl.val)).bind _=_
 rw [e2]
 simp only [zbj1,ze0,zbn2,if_true]
theorem zaf9 {f:DE}{t:Th}{r:Ev}{xs:List Int} (h:f t=some r) (hr:r.d=.lst (xs.map D.int)):(dT1 kSum (za2 f dNil)) t=some (.cl (.int xs.sum)):=by
 rw [zs9 h]
 unfold kSum
 simp only [hr,zk2]
 rfl
theorem for_P {k:D→Th→Option Th}{b:DS}{P:Th→Prop}:∀(ds:List D),(∀d∈ds,∀t,P t→∃t1 t2,k d t=some t1∧b t1=some (.nx t2)∧P t2)→∀t,P t→∃t',forD k b ds t=some (.nx t')∧P t'
 |[],_,t,h=>⟨t,rfl,h⟩
 |d::ds,hd,t,h=>by
  obtain⟨t1,t2,e1,e2,h2⟩:=hd d (zbi9 ..) t h
  obtain⟨t',e,h'⟩:=for_P ds (fun d' hd'=>hd d' (zbi6 _ hd')) t2 h2
  exact⟨t',by simp only [forD,e1,e2,zbj1];exact e,h'⟩
def stG (W:Int→Int) (b x:Int):Int:=if W b<W x then x else b
theorem zbh6 {fb:DE}{W:Int→Int}{cs:List D}:∀(l:List Int) (b:Int),(∀x∈l,fb (.val (.int x)::cs.map Sl.val)=some (.cl (.int (W x))))→zbh7 true fb cs (.int b) (.int (W b)) (l.map D.int)=some (.int (l.foldl (stG W) b))
 |[],b,_=>rfl
 |x::l,b,h=>by
  have e:=h x (zbi9 ..)
  simp only [zbk5,zbh7,e,zbj1,Ev.d,flat,if_true,cmpD,cmpI,zbs6]
  have ih:=fun b=>zbh6 l b fun y hy=>h y (zbi6 _ hy)
  by_cases c:W b<W x
  ·rw [if_pos (decide_eq_true c),show stG W b x=x from if_pos c];exact ih x
  ·rw [if_neg (by simpa using c),show stG W b x=b from if_neg c];exact ih b
theorem key_of {fa fb:DE}{W:Int→Int}{cs:List D}{b:Bool}{cap:List Nat}{t:Th}{r:Ev}{x:Int}{l:List Int} (ha:fa t=some r) (hr:r.d=.lst ((x::l).map D.int)) (hc:capD t cap=some (b,cs)) (h:∀y∈x::l,fb (.val (.int y)::cs.map Sl.val)=some (.cl (.int (W y)))):dKey true cap fa fb t=some (.cl (.int (l.foldl (stG W) x))):=by
 unfold dKey
 rw [ha,hc]
 simp only [zbj1,hr,zbk5]
 rw [show (zk4 (D.int x::l.map D.int)).isSome=true by rw [← zbk5 (f:=D.int),zk2];rfl,if_pos rfl,h x (zbi9 ..)]
 simp only [zbj1,Ev.d,flat,if_true]
 rw [zbh6 l x fun y hy=>h y (zbi6 _ hy)]
 rfl
def rwD (r:List Int):D:=.lst (r.map D.int)
def mD (M:List (List Int)):D:=.lst (M.map rwD)
def gM (M:List (List Int)) (i j:Int):Int:=(M.getD i.toNat []).getD j.toNat 0
structure Sq (n:Nat) (M:List (List Int)):Prop where
 len:M.length=n
 row:∀r∈M,r.length=n
theorem nin_of {fa fb:DE}{t:Th}{r1 r2:Ev} (p:Int) (K:List Int) (ha:fa t=some r1) (hb:fb t=some r2) (h1:r1.d=.int p) (h2:r2.d=.lst (K.map D.int)):dBo (d2 kNin fa fb) t=some (!decide (p∈K)):=by
 have e:=bo_in p K ha hb h1 h2
 unfold dBo at e ⊢
 rw [zg3 ha hb]at e ⊢
 unfold kIn at e
 unfold kNin
 rw [h2]at e ⊢
 simp only at e ⊢
 split at e
 ·rename_i c
  rw [if_pos c]
  simp only [zbj1,Ev.d,Option.some.injEq]at e ⊢
  rw [e]
 ·cases e
def lowI (L:List Int):Int:=leastI (L.headD 0) L.tail
def zax1 (L:List Int):Int:=zo4 (L.headD 0) L.tail
theorem extt_of {f:DE}{t:Th}{r:Ev}{L:List Int} (h:f t=some r) (hr:r.d=.lst (L.map D.int)) (hl:0<L.length):(dT1 (zav2 zo4) (za2 f dNil)) t=some (.cl (.int (zax1 L))):=by
 rw [zs9 h]
 unfold zav2
 simp only [hr,zk2]
 cases L with
 |nil=>simp at hl
 |cons x r=>rfl
theorem zal0:∀xs:List Int,(xs.map D.int).all scD=true
 |[]=>rfl
 |x::xs=>by simp only [zbk5,zbo7,zal0 xs];rfl
theorem zn3 {n:Nat}{x:Int} (h:x∈zc5 n):0≤x∧x<(n:Int):=by
 obtain⟨i,hi⟩:=List.mem_iff_getElem?.mp h
 obtain⟨q,l⟩:=zbb4 hi
 lia
theorem zk9 {n:Nat}{x:Int} (h0:0≤x) (h1:x<(n:Int)):x∈zc5 n:=by
 unfold zc5
 exact zbm9.mpr ⟨x.toNat,zbp4.mpr (by lia),by lia⟩
theorem zw2:∀ {l C:List Int},l.Nodup→(∀x∈l,x∈C)→l.length≤C.length
 |[],C,_,_=>zbq5 _
 |x::l,C,nd,h=>by
  rw [zbl0]at nd
  have hx:=h x (zbi9 ..)
  have:=zw2 (l:=l) (C:=C.erase x) nd.2 fun y hy=>(zbx4 (fun e=>nd.1 (by rw [← e];exact hy))).mpr (h y (zbi6 _ hy))
  rw [zbv5 hx]at this
  have:=zbw6 hx
  simp only [zbm5]
  lia
theorem zap7 {f:DE}{t:Th}{n:Nat} (hf:f t=some (.cl (.int (n:Int)))) (hn:n≤50000):fsR1 f t=some (true,(zc5 n).map D.int):=by
 unfold fsR1
 rw [hf]
 simp only [zbj1,Ev.d]
 rw [if_pos (by unfold bigI;exact decide_eq_true (by lia)),zbl5]
 congr 2
 unfold rngD zc5
 simp
theorem zbf6 {cap:List Nat}{f:DE}{fe:DE}{t:Th}{n:Nat}{g:Int→Int}{b:Bool}{c:List D} (hf:f t=some (.cl (.int (n:Int)))) (hn:n≤50000) (hc:capD t cap=some (b,c)) (he:∀x∈zc5 n,fe (.val (.int x)::c.map Sl.val)=some (.cl (.int (g x)))) :
  (zd8 1 cap (fsR1 f) (za5 0) ze5 fe) t=some (.nw (((zc5 n).map g).map D.int)):=by
 unfold zd8
 have e2:zd5 (za5 0) ze5 fe ((zc5 n).map D.int) (Sl.no::c.map Sl.val)=some (((zc5 n).map g).map D.int):=zae9 (fun _ _=>rfl) _ _ he
 rw [zap7 hf hn,hc]
 simp only [zbj1]
 rw [if_pos (by rw [zbk3,zg2];exact hn)]
 show (zd5 (za5 0) ze5 fe ((zc5 n).map D.int) (Sl.no::c.map Sl.val)).bind _=_
 rw [e2]
 simp only [zbj1,ze0,zbn2,if_true]
theorem zp0 {ft:DT}{p:Int→Bool}{ext:Th}:∀(l:List Int) (s:Sl),(∀x∈l,ft (.val (.int x)::ext)=some (p x))→zd5 (za5 0) ft (dVar 0) (l.map D.int) (s::ext)=some ((l.filter p).map D.int)
 |[],s,_=>rfl
 |x::l,s,h=>by
  have e0:za5 0 (.int x) (s::ext)=some (.val (.int x)::ext):=rfl
  have e1:=h x (zbi9 ..)
  have ih:=zp0 l (.val (.int x)) fun y hy=>h y (zbi6 _ hy)
  simp only [zbk5,zd5,e0,zbj1,e1]
  cases c:p x with
  |true=>rw [List.filter_cons_of_pos c,if_pos rfl,ih];rfl
  |false=>rw [List.filter_cons_of_neg (by simp [c]),if_neg (by simp),ih]
theorem zaj4 {cap:List Nat}{f:DE}{ft:DT}{t:Th}{n:Nat}{p:Int→Bool}{b:Bool}{c:List D} (hf:f t=some (.cl (.int (n:Int)))) (hn:n≤50000) (hc:capD t cap=some (b,c)) (he:∀x∈zc5 n,ft (.val (.int x)::c.map Sl.val)=some (p x)) :
  (zd8 1 cap (fsR1 f) (za5 0) ft (dVar 0)) t=some (.nw (((zc5 n).filter p).map D.int)):=by
 unfold zd8
 have e2:zd5 (za5 0) ft (dVar 0) ((zc5 n).map D.int) (Sl.no::c.map Sl.val)=some (((zc5 n).filter p).map D.int):=zp0 _ _ he
 rw [zap7 hf hn,hc]
 simp only [zbj1]
 rw [if_pos (by rw [zbk3,zg2];exact hn)]
 show (zd5 (za5 0) ft (dVar 0) ((zc5 n).map D.int) (Sl.no::c.map Sl.val)).bind _=_
 rw [e2]
 simp only [zbj1,ze0,zbn2,if_true]
def nr (M:List (List Int)) (C:List Int) (p:Int):Int:=lowI (C.map (gM M p))
structure CIn (n:Nat) (C:List Int):Prop where
 ne:0<C.length
 rg:∀x∈C,0≤x∧x<(n:Int)
def dV (P:List Int) (V:Int→Int):D:=.dct (P.map Sum.inl) (P.map fun p=>.int (V p))
def ltr (n:Int):Nat→List Int→Int→Int
 |_,[],_=>n
 |i,x::xs,p=>if x=p then (i:Int) else ltr n (i+1) xs p
def Fo (v:Int→Int) (p q:Int):Prop:=v q<v p∨(v q=v p∧p≤q)
theorem for_I {k:D→Th→Option Th}{b:DS}{f:Nat→D}{P:Nat→Th→Prop}{n:Nat} (hb:∀x,x<n→∀t,P x t→∃t1 t2,k (f x) t=some t1∧b t1=some (.nx t2)∧P (x+1) t2):∀(m i:Nat) (t:Th),i+m=n→P i t→∃t',forD k b ((List.range' i m).map f) t=some (.nx t')∧P n t'
 |0,i,t,e,h=>⟨t,rfl,by rw [← e];exact h⟩
 |m+1,i,t,e,h=>by
  obtain⟨t1,t2,e1,e2,h2⟩:=hb i (by lia) t h
  obtain⟨t',e3,h'⟩:=for_I hb m (i+1) t2 (by lia) h2
  refine⟨t',?_,h'⟩
  rw [zca2,zbk5]
  simp only [forD,e1,e2,zbj1,e3]
theorem zar6 {k:D→Th→Option Th}{b:DS}{f:Nat→D}{P:Nat→Th→Prop}{n:Nat} (hb:∀x,x<n→∀t,P x t→∃t1 t2,k (f x) t=some t1∧b t1=some (.nx t2)∧P (x+1) t2) (t:Th) (h:P 0 t):∃t',forD k b ((zbm1 n).map f) t=some (.nx t')∧P n t':=by
 have:=for_I hb n 0 t (by lia) h
 rwa [zbx6]
def DI (n:Int) (P:List Int) (V:Int→Int) (i:Nat) (ps:List Int):Prop := ∀q,(if q∈P then V q else n)=ltr n i (ps.drop i) q
structure Pol (room:Nat) (K:List Int) (x:Int) (K':List Int):Prop where
 has:x∈K'
 hit:x∈K→∀q,q∈K'↔q∈K
 old:∀q∈K',q=x∨q∈K
 nd:K'.Nodup
 len:K'.length≤room
inductive Rn (room:Nat):List Int→List Int→Nat→Prop
 |nil (K:List Int):Rn room K [] 0
 |cons {K K' xs:List Int}{x:Int}{m:Nat}:Pol room K x K'→Rn room K' xs m→Rn room K (x::xs) ((if x∈K then 0 else 1)+m)
def pD (p:Int×Int):D:=.tup [.int p.1,.int p.2]
theorem zar7:∀ts:List (Int×Int),zg9 (ts.map pD)=true
 |[]=>rfl
 |p::ts=>by simp only [zbk5,zg9,zar7 ts];rfl
theorem slu_pD {fa fb:DE}{t:Th}{r:Ev}{ts:List (Int×Int)}{n:Nat} (ha:fa t=some r) (hb:fb t=some (.cl (.int (n:Int)))) (hr:r.d=.lst (ts.map pD)):(dSlU fb fa) t=some (.nw ((ts.take n).map pD)):=by
 unfold dSlU
 rw [ha,hb]
 simp only [zbj1,hr]
 show (if (r.ok||zg9 (ts.map pD))=true then some (Ev.nw ((ts.map pD).take (HT.sIx (ts.map pD).length (ts.map pD).length (some (n:Int))))) else none)=_
 rw [zar7,if_pos (by simp),HT.sIx_nat,zbk3, ← zby6]
 congr 3
 by_cases h:n≤ts.length
 ·rw [Nat.min_eq_left h]
 ·rw [Nat.min_eq_right (by lia),zbs7 (zbk1 _),zbs7 (by lia)]
def prC (L:List Int) (u:Nat×Nat):Int:=if L.getD u.2 0<L.getD u.1 0 then L.getD u.2 0 else L.getD u.1 0
noncomputable def lfC (L:List Int) (u:Nat×Nat):List Int:=(L.set u.1 (L.getD u.1 0 - prC L u)).set u.2 ((L.set u.1 (L.getD u.1 0 - prC L u)).getD u.2 0 - prC L u)
def stC (s:List Int×List Int) (u:Nat×Nat):List Int×List Int:=(lfC s.1 u,s.2++[prC s.1 u])
theorem zx4 (L:List Int) (u:Nat×Nat):(lfC L u).length=L.length:=by unfold lfC;simp
theorem zae4 (L:List Int) (i j:Nat) (v:Int) (h:i<L.length):(L.set i v).getD j 0=if j=i then v else L.getD j 0:=by
 rw [zbl1,List.getElem?_set]
 by_cases e:j=i
 ·subst e;simp [h]
 ·rw [if_neg (fun z=>e z.symm),if_neg e, ← zbl1]
theorem zam8 {L:List Int}{u:Nat×Nat} (h:u.1<u.2) (h2:u.2<L.length) (j:Nat):(lfC L u).getD j 0=if j=u.1∨j=u.2 then L.getD j 0 - prC L u else L.getD j 0:=by
 unfold lfC
 rw [zae4 _ _ _ _ (by simpa using h2),zae4 _ _ _ _ (by lia),zae4 _ _ _ _ (by lia)]
 by_cases a:j=u.2
 ·subst a
  rw [if_pos rfl,if_neg (by lia),if_pos (Or.inr rfl)]
 ·rw [if_neg a]
  by_cases b:j=u.1
  ·rw [if_pos b,if_pos (Or.inl b),b]
  ·rw [if_neg b,if_neg (by lia)]
def nnL (L:List Int):Prop := ∀j,0≤L.getD j 0
theorem prC_le (L:List Int) (u:Nat×Nat):prC L u≤L.getD u.1 0∧prC L u≤L.getD u.2 0:=by unfold prC;split<;>lia
theorem prC_nn {L:List Int} (h:nnL L) (u:Nat×Nat):0≤prC L u:=by
 have:=h u.1;have:=h u.2
 unfold prC;split<;>lia
theorem lfC_nn {L:List Int}{u:Nat×Nat} (h:nnL L) (hu:u.1<u.2) (h2:u.2<L.length):nnL (lfC L u):=fun j=>by
 rw [zam8 hu h2]
 have:=h j
 have p:=prC_le L u
 split
 ·rename_i z
  rcases z with rfl | rfl<;>lia
 ·exact this
structure Ms where
 E:List Int
 Pr:List Int
 T:List Int
def uA (us:List (Nat×Nat)) (a:Int):Nat×Nat:=us.getD a.toNat (0,0)
structure Fe (us:List (Nat×Nat)) (ws:List Int) (s:Ms) (seen:List Int) (lo:Int):Prop where
 nn:∀j,0≤s.Pr.getD j 0
 hi:∀j:Nat,(j:Int)∈s.E→lo≤s.Pr.getD j 0
 ok:∀a∈seen,ws.getD a.toNat 0≤s.Pr.getD (uA us a).1 0+s.Pr.getD (uA us a).2 0
 zr:∀j:Nat,(j:Int)∉s.E→s.Pr.getD j 0=0
def top (i:Nat):Stmt:=PySem.Challenge.pw_nearenough_k08_whole_no_cover_half.main.body.getD i (.Pass ⟨0,0,0,0⟩)
abbrev zr2:Stmt:=top 1
abbrev zk5:Stmt:=top 2
abbrev zg4:Stmt:=top 4
abbrev zp6:Stmt:=top 5
abbrev zj7:Stmt:=top 6
abbrev zk6:Stmt:=top 7
abbrev zj6:Stmt:=top 9
abbrev zm9:Stmt:=top 10
abbrev zr4:Stmt:=top 11
abbrev zp2:Stmt:=top 12
abbrev zr3:Stmt:=top 13
abbrev zj5:Stmt:=top 14
abbrev zp3:Stmt:=top 15
abbrev zp5:Stmt:=top 16
abbrev zp4:Stmt:=top 17
abbrev zk7:Stmt:=top 18
abbrev zn0:Stmt:=top 19
abbrev zn1:Stmt:=top 20
abbrev s_law:Stmt:=top 21
structure Blt (mg:Str→Option Value):Prop where
 n_all:mg "all"=none
 n_any:mg "any"=none
 n_enumerate:mg "enumerate"=none
 n_int:mg "int"=none
 n_len:mg "len"=none
 n_list:mg "list"=none
 n_max:mg "max"=none
 n_min:mg "min"=none
 n_range:mg "range"=none
 n_set:mg "set"=none
 n_sorted:mg "sorted"=none
 n_sum:mg "sum"=none
 n_zip:mg "zip"=none
variable {P:Program}{w:World}{K:zbi5}{mg:Str→Option Value}{base:BHeap}{ad:Addr}{fd:FuncData}
theorem zat5:FnScope ["web", "point"] ["web", "point"] (zb8 zr2):=zm8 rfl rfl rfl rfl (by decide +kernel)
def ktT:D→Th→Option Th:=(zf4 2 (zb2 (za5 0) (zb2 (za5 1) zg0)))
def zy6:DS :=
 (dRet (zd8 2 [1] (fsE (d2 kIx (dVar 0) (dC (.int 1)))) ktT (dBo (d2 kIn (dVar 2) (dVar 1))) (dVar 0)))
def zf3:List D→Option Ev:=mkG 2 ["web", "point"] zy6
theorem zau5 (Fn:L2.Fun K "ties_of" "ties_of" zr2 ad fd) (bu:Blt mg) :FnOk P w K mg base CX0 1 ad fd ["web", "point"] (spD K zf3):=by
 have SC:=zat5
 refine zh9 (k:=0) Fn SC (fun _ _ e=>zf0 e) zy6 (fun _ _ e=>zh8 e) (fun cdv A outer s H E F hr=>?_)
 exact zb1 (zd6 (ze1 2 [1] ["at", "tie", "point"] rfl (pid_enum rfl bu.n_enumerate (zc2 (za0 0) za3)) (fun _ _ _ _ _=>(zj3 rfl (zc1 (zb4 (i:=0) (show List.Nodup (["at", "tie", "point"]:List Str) by decide +kernel) rfl (za8 rfl)) (zc1 (zb4 (i:=1) (show List.Nodup (["at", "tie", "point"]:List Str) by decide +kernel) rfl (za8 rfl)) zf8)))) (fun _=>(zj2 (zc0 (zb3 0) (zc0 (zb3 1) zf6)))) (fun _ _ _ _ _ _=>(zr5 (zc3 zai2 (za0 2) (za0 1)))) (fun _ _ _ _ _ _=>(za0 0))))
theorem zac9:FnScope ["numbers", "many"] ["numbers", "many"] (zb8 zk5):=zm8 rfl rfl rfl rfl (by decide +kernel)
noncomputable def zo7:DS :=
 (dRet (dT1 qU (za2 (zd8 2 [] (fsZ (d2 qA (dT1 kLst (za2 (d1 kNeg (dC (.int 1))) dNil)) (dVar 0)) (d2 qA (dVar 0) (dT1 kLst (za2 (dVar 1) dNil)))) ktT ze5 (d2 qL (dVar 0) (dVar 1))) dNil)))
def zi9:List D→Option Ev:=mkG 2 ["numbers", "many"] zo7
theorem zad8 (Fn:L2.Fun K "rise_below" "rise_below" zk5 ad fd) (bu:Blt mg) :FnOk P w K mg base CX0 1 ad fd ["numbers", "many"] (spD K zi9):=by
 have SC:=zac9
 refine zh9 (k:=0) Fn SC (fun _ _ e=>zf0 e) zo7 (fun _ _ e=>zh8 e) (fun cdv A outer s H E F hr=>?_)
 exact zb1 (zd6 (zb7 (zas4 (zl6 rfl)) rfl bu.n_all (by decide +kernel) (za1 (ze1 2 [] ["low", "high"] rfl (pid_zip rfl bu.n_zip (za7 (od_add.or ze2) (zf1 (za1 (zw9 za3) za4)) (za0 0)) (za7 (od_add.or ze2) (za0 0) (zf1 (za1 (za0 1) za4)))) (fun _ _ _ _ _=>(zj3 rfl (zc1 (zb4 (i:=0) (show List.Nodup (["low", "high"]:List Str) by decide +kernel) rfl (za8 rfl)) (zc1 (zb4 (i:=1) (show List.Nodup (["low", "high"]:List Str) by decide +kernel) rfl (za8 rfl)) zf8)))) (fun _=>(zj2 (zc0 (zb3 0) (zc0 (zb3 1) zf6)))) (fun _ _ _ _ _ _=>zh2) (fun _ _ _ _ _ _=>(zo1 zt6 (za0 0) (za0 1)))) za4)))
theorem zt0:FnScope ["web", "weights", "many", "ties", "left", "prices", "one", "other", "price", "cover"] ["web", "weights"] (zb8 zg4):=zm8 rfl rfl rfl rfl (by decide +kernel)
noncomputable def bdC:DS:=(dSeq (dAsg 8 (dT1 qN (za2 (d2 kIx (dVar 4) (dVar 6)) (za2 (d2 kIx (dVar 4) (dVar 7)) dNil))))
  (dSeq (zav8 (fun i j=>i - j) 4 (dVar 6) (dVar 8))
  (dSeq (zav8 (fun i j=>i - j) 4 (dVar 7) (dVar 8))
  (dApp 5 (dVar 8)))))
noncomputable def ftC:DT:=(dAnd (dBo (d2 kEq (d2 kIx (dVar 2) (dVar 0)) (dC (.int 0)))) (dTr (dT1 (zc9 zf3) (za2 (dVar 1) (za2 (dVar 0) dNil)))))
def ktE:D→Th→Option Th:=(zf4 2 (zb2 (za5 2) (zb2 (za5 3) zg0)))
noncomputable def zg5:DS :=
 (dSeq (zan5 ktE (dVar 0)) (dSeq (dAsg 4 (dT1 zq3 (za2 (dVar 1) dNil))) (dSeq (dAsg 5 (dT1 kLst dNil)) (dSeq (dFor (zf4 2 (zb2 (za5 6) (zb2 (za5 7) zg0))) (dVar 3) bdC) (dSeq (dAsg 9 (zd8 1 [0,4] (fsR1 (dVar 2)) (za5 0) ftC (dVar 0))) (dRet (dT1 kTup (za2 (dVar 9) (za2 (dVar 5) dNil)))))))))
def ze8:List D→Option Ev:=mkG 2 ["web", "weights", "many", "ties", "left", "prices", "one", "other", "price", "cover"] zg5
theorem zt5 (Fn:L2.Fun K "cover_by_price" "cover_by_price" zg4 ad fd) (bu:Blt mg) (c_ties_of:Cal P w K mg base "ties_of" 1 zf3):FnOk P w K mg base CX0 2 ad fd ["web", "weights"] (spD K ze8):=by
 have SC:=zt0
 refine zh9 (k:=1) Fn SC (fun _ _ e=>zf0 e) zg5 (fun _ _ e=>zh8 e) (fun cdv A outer s H E F hr=>?_)
 refine za6 ?_ ?_
 ·exact (zal3 (za0 0) (zj3 rfl (zc1 (zb4 (i:=2) SC.nd rfl (za8 rfl)) (zc1 (zb4 (i:=3) SC.nd rfl (za8 rfl)) zf8))) (zj2 (zc0 (zb3 2) (zc0 (zb3 3) zf6))))
 refine za6 ?_ ?_
 ·exact (zb9 (i:=4) SC.nd rfl (za8 rfl) (zi6 zt9 rfl bu.n_list zu0 (za1 (za0 1) za4)))
 refine za6 ?_ ?_
 ·exact (zb9 (i:=5) SC.nd rfl (za8 rfl) (zf1 za4))
 refine za6 ?_ ?_
 ·exact (zt3 PassesOwn.never rfl (za0 3) (zj3 rfl (zc1 (zb4 (i:=6) SC.nd rfl (za8 rfl)) (zc1 (zb4 (i:=7) SC.nd rfl (za8 rfl)) zf8))) (zj2 (zc0 (zb3 6) (zc0 (zb3 7) zf6))) (za6 (zb9 (i:=8) SC.nd rfl (za8 rfl) (zb7 (zas3 rfl) rfl bu.n_min (by decide +kernel) (za1 (zc2 (za0 4) (za0 6)) (za1 (zc2 (za0 4) (za0 7)) za4))))
  (za6 (zaq4 4 ip_sub (za0 6) (za0 8))
  (za6 (zaq4 4 ip_sub (za0 7) (za0 8))
  (zb1 (zq5 5 (za0 8)))))))
 refine za6 ?_ ?_
 ·exact (zaq2 (i:=9) 1 [0,4] ["point", "web", "left"] SC.nd rfl (Or.inl rfl) rfl (zr6 rfl bu.n_range (za0 2)) (fun _ _ _ _ _=>(zb4 (i:=0) (show List.Nodup (["point", "web", "left"]:List Str) by decide +kernel) rfl (za8 rfl))) (fun _=>(zb3 0)) (fun _ _ _ _ _ _=>(zr5 (L2.PW.pt (zl3 (zc3 (zx2 hr.units) (zc2 (za0 2) (za0 0)) za3) (zi5 (zl4 (zb6 c_ties_of (hr.mono (by decide)) (za1 (za0 1) (za1 (za0 0) za4))))))))) (fun _ _ _ _ _ _=>(za0 0)))
 exact zb1 (zd6 (zh3 (za1 (za0 9) (za1 (za0 5) za4))))
theorem zak9:FnScope ["web", "points", "many", "ties"] ["web", "points"] (zb8 zp6):=zm8 rfl rfl rfl rfl (by decide +kernel)
noncomputable def zab8:DS :=
 (dSeq (zan5 ktE (dVar 0)) (dSeq (dIfS (dNot (dTr (dT1 (zc9 zi9) (za2 (dVar 1) (za2 (dVar 2) dNil))))) (dRet (dC (.bl false))) zh0) (dRet (dT1 qU (za2 (zd8 2 [1] (fsL (dVar 3)) ktT ze5 (dOrV (d2 kIn (dVar 0) (dVar 2)) (d2 kIn (dVar 1) (dVar 2)))) dNil)))))
def zm7:List D→Option Ev:=mkG 2 ["web", "points", "many", "ties"] zab8
theorem zam3 (Fn:L2.Fun K "is_cover" "is_cover" zp6 ad fd) (bu:Blt mg) (c_rise_below:Cal P w K mg base "rise_below" 1 zi9):FnOk P w K mg base CX0 2 ad fd ["web", "points"] (spD K zm7):=by
 have SC:=zak9
 refine zh9 (k:=1) Fn SC (fun _ _ e=>zf0 e) zab8 (fun _ _ e=>zh8 e) (fun cdv A outer s H E F hr=>?_)
 refine za6 ?_ ?_
 ·exact (zal3 (za0 0) (zj3 rfl (zc1 (zb4 (i:=2) SC.nd rfl (za8 rfl)) (zc1 (zb4 (i:=3) SC.nd rfl (za8 rfl)) zf8))) (zj2 (zc0 (zb3 2) (zc0 (zb3 3) zf6))))
 refine za6 ?_ ?_
 ·exact (zh6 (zw6 (zl4 (zb6 c_rise_below (hr.mono (by decide)) (za1 (za0 1) (za1 (za0 2) za4))))) (zb1 (zd6 zj4)) zf7)
 exact zb1 (zd6 (zb7 (zas4 (zl6 rfl)) rfl bu.n_all (by decide +kernel) (za1 (ze1 2 [1] ["one", "other", "points"] rfl (zj8 (za0 3)) (fun _ _ _ _ _=>(zj3 rfl (zc1 (zb4 (i:=0) (show List.Nodup (["one", "other", "points"]:List Str) by decide +kernel) rfl (za8 rfl)) (zc1 (zb4 (i:=1) (show List.Nodup (["one", "other", "points"]:List Str) by decide +kernel) rfl (za8 rfl)) zf8)))) (fun _=>(zj2 (zc0 (zb3 0) (zc0 (zb3 1) zf6)))) (fun _ _ _ _ _ _=>zh2) (fun _ _ _ _ _ _=>(ped_or (zo1 zai2 (za0 0) (za0 2)) (ped_one (zo1 zai2 (za0 1) (za0 2)))))) za4)))
theorem zaa0:FnScope ["web", "weights", "prices", "many", "ties", "paid"] ["web", "weights", "prices"] (zb8 zj7):=zm8 rfl rfl rfl rfl (by decide +kernel)
noncomputable def zs3:DS :=
 (dSeq (zan5 (zf4 2 (zb2 (za5 3) (zb2 (za5 4) zg0))) (dVar 0)) (dSeq (dIfS (dOr (dBo (d2 kNe (dT1 kLen (za2 (dVar 2) dNil)) (dT1 kLen (za2 (dVar 4) dNil)))) (dTr (dT1 (kBls fun bs=>bs.any id) (za2 (zd8 1 [] (fsL (dVar 2)) (za5 0) ze5 (d2 qL (dVar 0) (dC (.int 0)))) dNil)))) (dRet (dC (.bl false))) zh0) (dSeq (dAsg 5 (zd8 1 [2,0] (fsR1 (dVar 3)) (za5 0) ze5 (dT1 kSum (za2 (zd8 1 [1] (fsL (dT1 (zc9 zf3) (za2 (dVar 2) (za2 (dVar 0) dNil)))) (za5 0) ze5 (d2 kIx (dVar 1) (dVar 0))) dNil)))) (dRet (dT1 qU (za2 (zd8 1 [5,1] (fsR1 (dVar 3)) (za5 0) ze5 (d2 qE (d2 kIx (dVar 1) (dVar 0)) (d2 kIx (dVar 2) (dVar 0)))) dNil))))))
def zh5:List D→Option Ev:=mkG 3 ["web", "weights", "prices", "many", "ties", "paid"] zs3
theorem zaa3 (Fn:L2.Fun K "are_payable" "are_payable" zj7 ad fd) (bu:Blt mg) (c_ties_of:Cal P w K mg base "ties_of" 1 zf3):FnOk P w K mg base CX0 2 ad fd ["web", "weights", "prices"] (spD K zh5):=by
 have SC:=zaa0
 refine zh9 (k:=1) Fn SC (fun _ _ e=>zf0 e) zs3 (fun _ _ e=>zh8 e) (fun cdv A outer s H E F hr=>?_)
 refine za6 ?_ ?_
 ·exact (zal3 (za0 0) (zj3 rfl (zc1 (zb4 (i:=3) SC.nd rfl (za8 rfl)) (zc1 (zb4 (i:=4) SC.nd rfl (za8 rfl)) zf8))) (zj2 (zc0 (zb3 3) (zc0 (zb3 4) zf6))))
 refine za6 ?_ ?_
 ·exact (zh6 (L2.PW.pt (zag8 (zc3 (od_ne hr.units) (zb7 zm3 rfl bu.n_len PySem.boot_len (za1 (za0 2) za4)) (zb7 zm3 rfl bu.n_len PySem.boot_len (za1 (za0 4) za4))) (zw5 (zl4 (zb7 (zas4 (zaa5 rfl)) rfl bu.n_any (by decide +kernel) (za1 (ze1 1 [] ["price"] rfl (zj8 (za0 2)) (fun _ _ _ _ _=>(zb4 (i:=0) (show List.Nodup (["price"]:List Str) by decide +kernel) rfl (za8 rfl))) (fun _=>(zb3 0)) (fun _ _ _ _ _ _=>zh2) (fun _ _ _ _ _ _=>(zo1 zt6 (za0 0) za3))) za4)))))) (zb1 (zd6 zj4)) zf7)
 refine za6 ?_ ?_
 ·exact (zb9 (i:=5) SC.nd rfl (za8 rfl) (ze1 1 [2,0] ["point", "prices", "web"] rfl (zr6 rfl bu.n_range (za0 3)) (fun _ _ _ _ _=>(zb4 (i:=0) (show List.Nodup (["point", "prices", "web"]:List Str) by decide +kernel) rfl (za8 rfl))) (fun _=>(zb3 0)) (fun _ _ _ _ _ _=>zh2) (fun _ _ _ _ _ _=>(zb7 (zaj5 rfl) rfl bu.n_sum (by decide +kernel) (za1 (ze1 1 [1] ["at", "prices"] rfl (zj8 (zb6 c_ties_of (hr.mono (by decide)) (za1 (za0 2) (za1 (za0 0) za4)))) (fun _ _ _ _ _=>(zb4 (i:=0) (show List.Nodup (["at", "prices"]:List Str) by decide +kernel) rfl (za8 rfl))) (fun _=>(zb3 0)) (fun _ _ _ _ _ _=>zh2) (fun _ _ _ _ _ _=>(zc2 (za0 1) (za0 0)))) za4)))))
 exact zb1 (zd6 (zb7 (zas4 (zl6 rfl)) rfl bu.n_all (by decide +kernel) (za1 (ze1 1 [5,1] ["point", "paid", "weights"] rfl (zr6 rfl bu.n_range (za0 3)) (fun _ _ _ _ _=>(zb4 (i:=0) (show List.Nodup (["point", "paid", "weights"]:List Str) by decide +kernel) rfl (za8 rfl))) (fun _=>(zb3 0)) (fun _ _ _ _ _ _=>zh2) (fun _ _ _ _ _ _=>(zo1 od_le (zc2 (za0 1) (za0 0)) (zc2 (za0 2) (za0 0))))) za4)))
theorem zad0:FnScope ["web", "weights", "cover", "prices"] ["web", "weights", "cover", "prices"] (zb8 zk6):=zm8 rfl rfl rfl rfl (by decide +kernel)
noncomputable def zu7:DS :=
 (dSeq (dIfS (dOr (dNot (dTr (dT1 (zc9 zm7) (za2 (dVar 0) (za2 (dVar 2) dNil))))) (dNot (dTr (dT1 (zc9 zh5) (za2 (dVar 0) (za2 (dVar 1) (za2 (dVar 3) dNil))))))) (dRet (dC (.bl false))) zh0) (dRet (d2 qE (dT1 kSum (za2 (zd8 1 [1] (fsL (dVar 2)) (za5 0) ze5 (d2 kIx (dVar 1) (dVar 0))) dNil)) (d2 qM (dC (.int 2)) (dT1 kSum (za2 (dVar 3) dNil))))))
def ze3:List D→Option Ev:=mkG 4 ["web", "weights", "cover", "prices"] zu7
theorem zad9 (Fn:L2.Fun K "lets_cover" "lets_cover" zk6 ad fd) (bu:Blt mg) (c_is_cover:Cal P w K mg base "is_cover" 2 zm7) (c_are_payable:Cal P w K mg base "are_payable" 2 zh5):FnOk P w K mg base CX0 3 ad fd ["web", "weights", "cover", "prices"] (spD K ze3):=by
 have SC:=zad0
 refine zh9 (k:=2) Fn SC (fun _ _ e=>zf0 e) zu7 (fun _ _ e=>zh8 e) (fun cdv A outer s H E F hr=>?_)
 refine za6 ?_ ?_
 ·exact (zh6 (L2.PW.pt (zag8 (zw6 (zl4 (zb6 c_is_cover (hr.mono (by decide)) (za1 (za0 0) (za1 (za0 2) za4))))) (zw5 (zw6 (zl4 (zb6 c_are_payable (hr.mono (by decide)) (za1 (za0 0) (za1 (za0 1) (za1 (za0 3) za4))))))))) (zb1 (zd6 zj4)) zf7)
 exact zb1 (zd6 (zo1 od_le (zb7 (zaj5 rfl) rfl bu.n_sum (by decide +kernel) (za1 (ze1 1 [1] ["point", "weights"] rfl (zj8 (za0 2)) (fun _ _ _ _ _=>(zb4 (i:=0) (show List.Nodup (["point", "weights"]:List Str) by decide +kernel) rfl (za8 rfl))) (fun _=>(zb3 0)) (fun _ _ _ _ _ _=>zh2) (fun _ _ _ _ _ _=>(zc2 (za0 1) (za0 0)))) za4)) (za7 (od_mul.or zl8) za3 (zb7 (zaj5 rfl) rfl bu.n_sum (by decide +kernel) (za1 (za0 3) za4)))))
theorem zz9:FnScope ["_law_script", "_law_k"] ["_law_script", "_law_k"] (zb8 zj6):=zm8 rfl rfl rfl rfl (by decide +kernel)
noncomputable def zf5:DS :=
 (dSeq (dIfS (dBo (d2 qL (dVar 1) (dT1 kLen (za2 (dVar 0) dNil)))) (dRet (d2 kIx (dVar 0) (dVar 1))) zh0) (dRet (dC (.int 0))))
def zc4:List D→Option Ev:=mkG 2 ["_law_script", "_law_k"] zf5
theorem zaa2 (Fn:L2.Fun K "_law_cell_at" "_law_cell_at" zj6 ad fd) (bu:Blt mg) :FnOk P w K mg base CX0 1 ad fd ["_law_script", "_law_k"] (spD K zc4):=by
 have SC:=zz9
 refine zh9 (k:=0) Fn SC (fun _ _ e=>zf0 e) zf5 (fun _ _ e=>zh8 e) (fun cdv A outer s H E F hr=>?_)
 refine za6 ?_ ?_
 ·exact (zh6 (zc3 zt6 (za0 1) (zb7 zm3 rfl bu.n_len PySem.boot_len (za1 (za0 0) za4))) (zb1 (zd6 (zc2 (za0 0) (za0 1)))) zf7)
 exact zb1 (zd6 za3)
theorem zag4:FnScope ["_law_cell", "_law_k", "_law_number"] ["_law_cell", "_law_k"] (zb8 zm9):=zm8 rfl rfl rfl rfl (by decide +kernel)
noncomputable def zq8:DS :=
 (dSeq (dAsg 2 (d2 qR (d2 qA (d2 qA (d2 qR (dVar 0) (dC (.int 2147483647))) (d2 qM (d2 qM (dC (.int 69621)) (dVar 1)) (dVar 1))) (dC (.int 40014))) (dC (.int 2147483647)))) (dSeq (dAsg 2 (d2 qR (d2 qA (d2 qA (d2 qM (dVar 2) (dVar 2)) (d2 qM (dC (.int 7919)) (dVar 1))) (dC (.int 1))) (dC (.int 2147483629)))) (dRet (d2 qV (d2 qR (d2 qA (d2 qM (dVar 2) (dVar 2)) (d2 qM (dC (.int 104729)) (dVar 1))) (dC (.int 2147483587))) (dC (.int 64))))))
def zd9:List D→Option Ev:=mkG 2 ["_law_cell", "_law_k", "_law_number"] zq8
theorem zah8 (Fn:L2.Fun K "_law_mixed" "_law_mixed" zm9 ad fd) (bu:Blt mg) :FnOk P w K mg base CX0 1 ad fd ["_law_cell", "_law_k"] (spD K zd9):=by
 have SC:=zag4
 refine zh9 (k:=0) Fn SC (fun _ _ e=>zf0 e) zq8 (fun _ _ e=>zh8 e) (fun cdv A outer s H E F hr=>?_)
 refine za6 ?_ ?_
 ·exact (zb9 (i:=2) SC.nd rfl (za8 rfl) (za7 ze7 (za7 (od_add.or ze2) (za7 (od_add.or ze2) (za7 ze7 (za0 0) za3) (za7 (od_mul.or zl8) (za7 (od_mul.or zl8) za3 (za0 1)) (za0 1))) za3) za3))
 refine za6 ?_ ?_
 ·exact (zb9 (i:=2) SC.nd rfl (za8 rfl) (za7 ze7 (za7 (od_add.or ze2) (za7 (od_add.or ze2) (za7 (od_mul.or zl8) (za0 2) (za0 2)) (za7 (od_mul.or zl8) za3 (za0 1))) za3) za3))
 exact zb1 (zd6 (za7 zh7 (za7 ze7 (za7 (od_add.or ze2) (za7 (od_mul.or zl8) (za0 2) (za0 2)) (za7 (od_mul.or zl8) za3 (za0 1))) za3) za3))
theorem zat7:FnScope ["_law_found", "_law_many", "_law_number", "_law_one", "_law_other"] ["_law_found", "_law_many", "_law_number"] (zb8 zr4):=zm8 rfl rfl rfl rfl (by decide +kernel)
theorem zau7 (Fn:L2.Fun K "_law_put" "_law_put" zr4 ad fd) (bu:Blt mg):FnOk P w K mg base CX0 1 ad fd ["_law_found", "_law_many", "_law_number"] (spP putG):=by
 have SC:=zat7
 refine Fn.ok (k:=0) SC (fun vs H Q E h=>?_) (fun cdv A outer s H vs Q E hr h=>?_)
 ·obtain⟨p,ps,ps',ns,rfl,_,hg,_⟩:=h
  exact put_len hg
 ·obtain⟨p,ps,ps',ns,rfl,hp,hg,cont⟩:=h
  obtain⟨m,k,rfl⟩:=zay9 hg
  exact⟨tPutB K fP1 fP2 ftP gkP fvP,zp7 (zah0 (i:=3) SC.nd rfl (za8 rfl) (za7 ze7 (za0 2) (za0 1))) (zp7 (zah0 (i:=4) SC.nd rfl (za8 rfl) (za7 ze7 (za7 zh7 (za0 2) (za0 1)) (za0 1))) (zad4 (ps_if (zc3 (od_ne hr.units) (za0 3) (za0 4)) (zad4 (ps_dput (zbv2 (Nat.add_lt_add_left (by decide) _) hr.units) (zo2 (i:=0) rfl (by first | exact Or.inl rfl | exact Or.inr (Or.inl rfl) |exact Or.inr (Or.inr rfl))) (pe_tup (za1 (zb7 (zas3 rfl) rfl bu.n_min (by decide +kernel) (za1 (za0 3) (za1 (za0 4) za4))) (za1 (zb7 (cd_max rfl) rfl bu.n_max (by decide +kernel) (za1 (za0 3) (za1 (za0 4) za4))) za4))) zj4 rfl)) zal2))),put_law hp hg cont⟩
theorem zak5:FnScope ["_law_script", "_law_many", "_law_found", "_law_k", "_law_cell", "_law_number", "_law_turn"] ["_law_script", "_law_many"] (zb8 zp2):=zm8 rfl rfl rfl rfl (by decide +kernel)
def tieN:DE:=(dT1 (zc9 zd9) (za2 (dVar 4) (za2 (d2 qA (d2 qA (dC (.int 64)) (d2 qM (dC (.int 6)) (dVar 3))) (dVar 6)) dNil)))
noncomputable def bdT1:DS:=(dSeq (dIfS (dBo (d2 qE (dVar 5) (dC (.int 0)))) (dAsg 5 tieN) zh0)
  (dSeq (zac0 2 putG (za2 (dVar 1) (za2 (dVar 5) dNil)))
  (dAsg 5 (d2 qV (dVar 5) (d2 qM (dVar 1) (dVar 1))))))
def bdT2:DS:=(zac0 2 putG (za2 (dVar 1) (za2 tieN dNil)))
noncomputable def bdT:DS:=(dIfS (dBo (d2 kEq (d2 qR (dT1 (zc9 zc4) (za2 (dVar 0) (za2 (dC (.int 0)) dNil))) (dC (.int 2))) (dC (.int 0)))) (dSeq (dAsg 5 (d2 qV (dVar 4) (dC (.int 61))))
  (zz1 (za5 6) (d2 qR (dVar 4) (dC (.int 61))) bdT1)) (zz1 (za5 6) (d2 qA (dC (.int 1)) (d2 qR (dT1 (zc9 zd9) (za2 (dVar 4) (za2 (dVar 3) dNil))) (dC (.int 6)))) bdT2))
noncomputable def zp9:DS :=
 (dSeq (dAsg 2 dNewP) (dSeq (zbf3 (zf4 2 (zb2 (za5 3) (zb2 (za5 4) zg0))) (dSl (dC (.int 3)) (dC (.int 62)) (dVar 0)) bdT) (dRet (dSlU (dC (.int 400)) (dT1 zx6 (za2 (dVar 2) dNil))))))
def zi2:List D→Option Ev:=mkG 2 ["_law_script", "_law_many", "_law_found", "_law_k", "_law_cell", "_law_number", "_law_turn"] zp9
theorem zal9 (Fn:L2.Fun K "_law_ties" "_law_ties" zp2 ad fd) (bu:Blt mg) (c_law_cell_at:Cal P w K mg base "_law_cell_at" 1 zc4) (c_law_mixed:Cal P w K mg base "_law_mixed" 1 zd9) (c_law_put:CalP P w K mg base "_law_put" 1 putG):FnOk P w K mg base CX0 2 ad fd ["_law_script", "_law_many"] (spD K zi2):=by
 have SC:=zak5
 refine zh9 (k:=1) Fn SC (fun _ _ e=>zf0 e) zp9 (fun _ _ e=>zh8 e) (fun cdv A outer s H E F hr=>?_)
 refine za6 ?_ ?_
 ·exact (zb9 (i:=2) SC.nd rfl (za8 rfl) ped_newP)
 refine za6 ?_ ?_
 ·exact (psd_enum PassesOwn.never rfl rfl bu.n_enumerate (zba2 (za0 0) za3 za3) (zj3 rfl (zc1 (zb4 (i:=3) SC.nd rfl (za8 rfl)) (zc1 (zb4 (i:=4) SC.nd rfl (za8 rfl)) zf8))) (zj2 (zc0 (zb3 3) (zc0 (zb3 4) zf6))) (zb1 (zh6 (zc3 (zx2 hr.units) (za7 ze7 (zb6 c_law_cell_at (hr.mono (by decide)) (za1 (za0 0) (za1 za3 za4))) za3) za3) (za6 (zb9 (i:=5) SC.nd rfl (za8 rfl) (za7 zh7 (za0 4) za3))
  (zb1 (zp8 PassesOwn.never rfl rfl bu.n_range (za7 ze7 (za0 4) za3) (zb4 (i:=6) SC.nd rfl (za8 rfl)) (zb3 6) (za6 (zh6 (zc3 od_le (za0 5) za3) (zb1 (zb9 (i:=5) SC.nd rfl (za8 rfl) (zb6 c_law_mixed (hr.mono (by decide)) (za1 (za0 4) (za1 (za7 (od_add.or ze2) (za7 (od_add.or ze2) za3 (za7 (od_mul.or zl8) za3 (za0 3))) (za0 6)) za4))))) zf7)
  (za6 (zag9 2 c_law_put (hr.mono (by decide)) (za1 (za0 1) (za1 (za0 5) za4)))
  (zb1 (zb9 (i:=5) SC.nd rfl (za8 rfl) (za7 zh7 (za0 5) (za7 (od_mul.or zl8) (za0 1) (za0 1)))))))))) (zb1 (zp8 PassesOwn.never rfl rfl bu.n_range (za7 (od_add.or ze2) za3 (za7 ze7 (zb6 c_law_mixed (hr.mono (by decide)) (za1 (za0 4) (za1 (za0 3) za4))) za3)) (zb4 (i:=6) SC.nd rfl (za8 rfl)) (zb3 6) (zb1 (zag9 2 c_law_put (hr.mono (by decide)) (za1 (za0 1) (za1 (zb6 c_law_mixed (hr.mono (by decide)) (za1 (za0 4) (za1 (za7 (od_add.or ze2) (za7 (od_add.or ze2) za3 (za7 (od_mul.or zl8) za3 (za0 3))) (za0 6)) za4))) za4)))))))))
 exact zb1 (zd6 (zau3 (zb7 (zbg4 rfl) rfl bu.n_sorted boot_sorted (za1 (za0 2) za4)) za3))
theorem zat6:FnScope ["_law_script", "_law_most", "_law_many"] ["_law_script", "_law_most"] (zb8 zr3):=zm8 rfl rfl rfl rfl (by decide +kernel)
noncomputable def zy7:DS :=
 (dSeq (dAsg 2 (d2 qA (dC (.int 1)) (d2 qR (d2 qV (dT1 (zc9 zc4) (za2 (dVar 0) (za2 (dC (.int 0)) dNil))) (dC (.int 2))) (dVar 1)))) (dRet (dT1 kTup (za2 (dVar 2) (za2 (dT1 (zc9 zi2) (za2 (dVar 0) (za2 (dVar 2) dNil))) dNil)))))
def zm4:List D→Option Ev:=mkG 2 ["_law_script", "_law_most", "_law_many"] zy7
theorem zau6 (Fn:L2.Fun K "_law_web" "_law_web" zr3 ad fd) (bu:Blt mg) (c_law_cell_at:Cal P w K mg base "_law_cell_at" 1 zc4) (c_law_ties:Cal P w K mg base "_law_ties" 2 zi2):FnOk P w K mg base CX0 3 ad fd ["_law_script", "_law_most"] (spD K zm4):=by
 have SC:=zat6
 refine zh9 (k:=2) Fn SC (fun _ _ e=>zf0 e) zy7 (fun _ _ e=>zh8 e) (fun cdv A outer s H E F hr=>?_)
 refine za6 ?_ ?_
 ·exact (zb9 (i:=2) SC.nd rfl (za8 rfl) (za7 (od_add.or ze2) za3 (za7 ze7 (za7 zh7 (zb6 c_law_cell_at (hr.mono (by decide)) (za1 (za0 0) (za1 za3 za4))) za3) (za0 1))))
 exact zb1 (zd6 (zh3 (za1 (za0 2) (za1 (zb6 c_law_ties (hr.mono (by decide)) (za1 (za0 0) (za1 (za0 2) za4))) za4))))
theorem zz8:FnScope ["_law_script", "_law_many", "_law_found", "_law_number", "_law_k", "_law_drawn"] ["_law_script", "_law_many"] (zb8 zj5):=zm8 rfl rfl rfl rfl (by decide +kernel)
noncomputable def bdW:DS:=(dIfS (dAnd (dBo (d2 kEq (d2 qR (dT1 (zc9 zc4) (za2 (dVar 0) (za2 (dC (.int 0)) dNil))) (dC (.int 2))) (dC (.int 0)))) (dBo (d2 qG (dVar 3) (dC (.int 0))))) (dSeq (dApp 2 (d2 qR (dVar 3) (d2 qA (d2 qP (dC (.int 10)) (dC (.int 12))) (dC (.int 1)))))
  (dAsg 3 (d2 qV (dVar 3) (d2 qA (d2 qP (dC (.int 10)) (dC (.int 12))) (dC (.int 1)))))) (dSeq (dAsg 5 (dT1 (zc9 zd9) (za2 (dT1 (zc9 zc4) (za2 (dVar 0) (za2 (dC (.int 1)) dNil))) (za2 (d2 qA (dC (.int 500)) (dVar 4)) dNil))))
  (dApp 2 (d2 kIx (dT1 kLst (za2 (dC (.int 0)) (za2 (dC (.int 1)) (za2 (dC (.int 2)) (za2 (d2 qR (d2 qV (dVar 5) (dC (.int 4))) (dC (.int 10))) (za2 (d2 qR (d2 qV (dVar 5) (dC (.int 4))) (dC (.int 100))) (za2 (d2 qR (d2 qM (dVar 5) (dC (.int 29803))) (d2 qA (d2 qP (dC (.int 10)) (dC (.int 12))) (dC (.int 1)))) dNil))))))) (d2 qR (dVar 5) (dC (.int 6)))))))
noncomputable def zj9:DS :=
 (dSeq (dAsg 2 (dT1 kLst dNil)) (dSeq (dAsg 3 (dT1 (zc9 zc4) (za2 (dVar 0) (za2 (dC (.int 1)) dNil)))) (dSeq (zz1 (za5 4) (dVar 1) bdW) (zbf0 2))))
def zh4:List D→Option Ev:=mkG 2 ["_law_script", "_law_many", "_law_found", "_law_number", "_law_k", "_law_drawn"] zj9
theorem zaa1 (Fn:L2.Fun K "_law_weights" "_law_weights" zj5 ad fd) (bu:Blt mg) (c_law_cell_at:Cal P w K mg base "_law_cell_at" 1 zc4) (c_law_mixed:Cal P w K mg base "_law_mixed" 1 zd9):FnOk P w K mg base CX0 2 ad fd ["_law_script", "_law_many"] (spD K zh4):=by
 have SC:=zz8
 refine zh9 (k:=1) Fn SC (fun _ _ e=>zf0 e) zj9 (fun _ _ e=>zh8 e) (fun cdv A outer s H E F hr=>?_)
 refine za6 ?_ ?_
 ·exact (zb9 (i:=2) SC.nd rfl (za8 rfl) (zf1 za4))
 refine za6 ?_ ?_
 ·exact (zb9 (i:=3) SC.nd rfl (za8 rfl) (zb6 c_law_cell_at (hr.mono (by decide)) (za1 (za0 0) (za1 za3 za4))))
 refine za6 ?_ ?_
 ·exact (zp8 PassesOwn.never rfl rfl bu.n_range (za0 1) (zb4 (i:=4) SC.nd rfl (za8 rfl)) (zb3 4) (zb1 (zh6 (L2.PW.pt (zl3 (zc3 (zx2 hr.units) (za7 ze7 (zb6 c_law_cell_at (hr.mono (by decide)) (za1 (za0 0) (za1 za3 za4))) za3) za3) (zi5 (zc3 od_gt (za0 3) za3)))) (za6 (zq5 2 (za7 ze7 (za0 3) (za7 (od_add.or ze2) (za7 zai1 za3 za3) za3)))
  (zb1 (zb9 (i:=3) SC.nd rfl (za8 rfl) (za7 zh7 (za0 3) (za7 (od_add.or ze2) (za7 zai1 za3 za3) za3))))) (za6 (zb9 (i:=5) SC.nd rfl (za8 rfl) (zb6 c_law_mixed (hr.mono (by decide)) (za1 (zb6 c_law_cell_at (hr.mono (by decide)) (za1 (za0 0) (za1 za3 za4))) (za1 (za7 (od_add.or ze2) za3 (za0 4)) za4))))
  (zb1 (zq5 2 (zc2 (by refine zf1 ?_;exact (by refine za1 ?_ ?_ ?_;exact za3;exact (by refine za1 ?_ ?_ ?_;exact za3;exact (by refine za1 ?_ ?_ ?_;exact za3;exact (by refine za1 ?_ ?_ ?_;exact (za7 ze7 (za7 zh7 (za0 5) za3) za3);exact (by refine za1 ?_ ?_ ?_;exact (za7 ze7 (za7 zh7 (za0 5) za3) za3);exact (by refine za1 ?_ ?_ ?_;exact (za7 ze7 (za7 (od_mul.or zl8) (za0 5) za3) (za7 (od_add.or ze2) (za7 zai1 za3 za3) za3));exact za4;exact (zd0 rfl));exact (zd0 rfl));exact (zd0 rfl));exact (zd0 rfl));exact (zd0 rfl));exact (zd0 rfl))) (za7 ze7 (za0 5) za3))))))))
 exact zb1 (zaq3 2)
theorem zak6:FnScope ["_law_web_here", "_law_weights_here", "_law_left", "_law_prices", "_law_one", "_law_other", "_law_price", "_law_tied"] ["_law_web_here", "_law_weights_here"] (zb8 zp3):=zm8 rfl rfl rfl rfl (by decide +kernel)
noncomputable def bdR:DS:=(dSeq (dAsg 6 (d2 kIx (dVar 2) (dVar 4)))
  (dSeq (dIfS (dBo (d2 qL (d2 kIx (dVar 2) (dVar 5)) (dVar 6))) (dAsg 6 (d2 kIx (dVar 2) (dVar 5))) zh0)
  (dSeq (dApp 3 (dVar 6))
  (dSeq (zm2 2 (dVar 4) (d2 qS (d2 kIx (dVar 2) (dVar 4)) (dVar 6)))
  (zm2 2 (dVar 5) (d2 qS (d2 kIx (dVar 2) (dVar 5)) (dVar 6)))))))
def ftR:DT:=(dAnd (dTr (d2 kIx (dVar 1) (dVar 0))) (dBo (d2 kEq (d2 kIx (dVar 2) (dVar 0)) (dC (.int 0)))))
def bdS:DS:=(dSeq (zm2 7 (dVar 4) (dC (.bl true))) (zm2 7 (dVar 5) (dC (.bl true))))
noncomputable def zab7:DS :=
 (dSeq (dAsg 2 (dT1 zq3 (za2 (dVar 1) dNil))) (dSeq (dAsg 3 (dT1 kLst dNil)) (dSeq (dFor (zf4 2 (zb2 (za5 4) (zb2 (za5 5) zg0))) (d2 kIx (dVar 0) (dC (.int 1))) bdR) (dSeq (dAsg 7 (d2 qM (dT1 kLst (za2 (dC (.bl false)) dNil)) (d2 kIx (dVar 0) (dC (.int 0))))) (dSeq (dFor (zf4 2 (zb2 (za5 4) (zb2 (za5 5) zg0))) (d2 kIx (dVar 0) (dC (.int 1))) bdS) (dRet (dT1 kTup (za2 (zd8 1 [7,2] (fsR1 (d2 kIx (dVar 0) (dC (.int 0)))) (za5 0) ftR (dVar 0)) (za2 (dVar 3) dNil)))))))))
noncomputable def zm5:List D→Option Ev:=mkG 2 ["_law_web_here", "_law_weights_here", "_law_left", "_law_prices", "_law_one", "_law_other", "_law_price", "_law_tied"] zab7
theorem zam0 (Fn:L2.Fun K "_law_rule" "_law_rule" zp3 ad fd) (bu:Blt mg) :FnOk P w K mg base CX0 1 ad fd ["_law_web_here", "_law_weights_here"] (spD K zm5):=by
 have SC:=zak6
 refine zh9 (k:=0) Fn SC (fun _ _ e=>zf0 e) zab7 (fun _ _ e=>zh8 e) (fun cdv A outer s H E F hr=>?_)
 refine za6 ?_ ?_
 ·exact (zb9 (i:=2) SC.nd rfl (za8 rfl) (zi6 zt9 rfl bu.n_list zu0 (za1 (za0 1) za4)))
 refine za6 ?_ ?_
 ·exact (zb9 (i:=3) SC.nd rfl (za8 rfl) (zf1 za4))
 refine za6 ?_ ?_
 ·exact (zt3 PassesOwn.never rfl (zc2 (za0 0) za3) (zj3 rfl (zc1 (zb4 (i:=4) SC.nd rfl (za8 rfl)) (zc1 (zb4 (i:=5) SC.nd rfl (za8 rfl)) zf8))) (zj2 (zc0 (zb3 4) (zc0 (zb3 5) zf6))) (za6 (zb9 (i:=6) SC.nd rfl (za8 rfl) (zc2 (za0 2) (za0 4)))
  (za6 (zh6 (zc3 zt6 (zc2 (za0 2) (za0 5)) (za0 6)) (zb1 (zb9 (i:=6) SC.nd rfl (za8 rfl) (zc2 (za0 2) (za0 5)))) zf7)
  (za6 (zq5 3 (za0 6))
  (za6 (zv4 2 (za0 4) (za7 zx1 (zc2 (za0 2) (za0 4)) (za0 6)))
  (zb1 (zv4 2 (za0 5) (za7 zx1 (zc2 (za0 2) (za0 5)) (za0 6)))))))))
 refine za6 ?_ ?_
 ·exact (zb9 (i:=7) SC.nd rfl (za8 rfl) (za7 (od_mul.or zl8) (zf1 (za1 zj4 za4)) (zc2 (za0 0) za3)))
 refine za6 ?_ ?_
 ·exact (zt3 PassesOwn.never rfl (zc2 (za0 0) za3) (zj3 rfl (zc1 (zb4 (i:=4) SC.nd rfl (za8 rfl)) (zc1 (zb4 (i:=5) SC.nd rfl (za8 rfl)) zf8))) (zj2 (zc0 (zb3 4) (zc0 (zb3 5) zf6))) (za6 (zv4 7 (za0 4) zj4)
  (zb1 (zv4 7 (za0 5) zj4))))
 exact zb1 (zd6 (zh3 (za1 (ze1 1 [7,2] ["_law_point", "_law_tied", "_law_left"] rfl (zr6 rfl bu.n_range (zc2 (za0 0) za3)) (fun _ _ _ _ _=>(zb4 (i:=0) (show List.Nodup (["_law_point", "_law_tied", "_law_left"]:List Str) by decide +kernel) rfl (za8 rfl))) (fun _=>(zb3 0)) (fun _ _ _ _ _ _=>(zr5 (L2.PW.pt (zl3 (zl4 (zc2 (za0 1) (za0 0))) (zi5 (zc3 (zx2 hr.units) (zc2 (za0 2) (za0 0)) za3)))))) (fun _ _ _ _ _ _=>(za0 0))) (za1 (za0 3) za4))))
theorem zak8:FnScope ["_law_paper", "_law_most", "_law_cell", "_law_rows", "_law_what", "_law_which", "_law_row", "_law_at", "_law_number", "_law_kept"] ["_law_paper", "_law_most", "_law_cell"] (zb8 zp5):=zm8 rfl rfl rfl rfl (by decide +kernel)
noncomputable def b4:DS:=(dIfS (dBo (d2 kIn (dVar 4) (dT1 kTup (za2 (dC (.int 0)) (za2 (dC (.int 7)) dNil))))) (dIns 6 (za2 (dVar 7) (za2 (dVar 8) dNil))) (dIfS (dAnd (dBo (d2 kEq (dVar 4) (dC (.int 1)))) (dBo (d2 qL (dVar 7) (dT1 kLen (za2 (dVar 6) dNil))))) (dIns 6 (za2 (dVar 7) (za2 (d2 kIx (dVar 6) (dVar 7)) dNil))) (dIfS (dAnd (dBo (d2 kIn (dVar 4) (dT1 kTup (za2 (dC (.int 2)) (za2 (dC (.int 8)) dNil))))) (dBo (d2 qL (dVar 7) (dT1 kLen (za2 (dVar 6) dNil))))) (zbf1 6 (dVar 7)) (dIfS (dAnd (dBo (d2 kIn (dVar 4) (dT1 kTup (za2 (dC (.int 3)) (za2 (dC (.int 9)) dNil))))) (dBo (d2 qL (dVar 7) (dT1 kLen (za2 (dVar 6) dNil))))) (zm2 6 (dVar 7) (dVar 8)) (dIfS (dAnd (dBo (d2 kIn (dVar 4) (dT1 kTup (za2 (dC (.int 4)) (za2 (dC (.int 10)) dNil))))) (dBo (d2 qL (dVar 7) (dT1 kLen (za2 (dVar 6) dNil))))) (zm2 6 (dVar 7) (d2 qA (d2 kIx (dVar 6) (dVar 7)) (dC (.int 1)))) (dIfS (dAnd (dBo (d2 kIn (dVar 4) (dT1 kTup (za2 (dC (.int 5)) (za2 (dC (.int 11)) dNil))))) (dBo (d2 qL (dVar 7) (dT1 kLen (za2 (dVar 6) dNil))))) (zm2 6 (dVar 7) (d2 qS (d2 kIx (dVar 6) (dVar 7)) (dC (.int 1)))) (dIfS (dBo (d2 qL (dVar 7) (dT1 kLen (za2 (dVar 6) dNil)))) (dSeq (dAsg 9 (d2 kIx (dVar 6) (dVar 7))) (dSeq (zm2 6 (dVar 7) (d2 kIx (dVar 6) (d1 kNeg (dC (.int 1))))) (zm2 6 (d1 kNeg (dC (.int 1))) (dVar 9)))) zh0)))))))
noncomputable def b3:DS:=(dIfS (dBo (d2 kEq (d2 qR (d2 qV (dVar 2) (dC (.int 26))) (dC (.int 5))) (dC (.int 4)))) (dAsg 8 (d2 kIx (dT1 kLst (za2 (d1 kNeg (dC (.int 2))) (za2 (d2 qS (d2 qS (dC (.int 0)) (dVar 8)) (dC (.int 2))) (za2 (d2 qA (d2 qP (dC (.int 10)) (dC (.int 12))) (dVar 8)) (za2 (d2 qP (dC (.int 10)) (dC (.int 30))) dNil))))) (d2 qR (d2 qV (dVar 2) (dC (.int 130))) (dC (.int 4))))) zh0)
noncomputable def b8:DS:=(dAsg 8 (d2 qS (d2 qR (d2 qV (d2 qV (dVar 2) (dC (.int 13))) (d2 qA (dT1 kLen (za2 (dVar 6) dNil)) (dC (.int 1)))) (d2 qA (dVar 1) (dC (.int 3)))) (dC (.int 1))))
def b7:DS:=(dAsg 7 (d2 qR (d2 qV (dVar 2) (dC (.int 13))) (d2 qA (dT1 kLen (za2 (dVar 6) dNil)) (dC (.int 1)))))
noncomputable def zm1:DS :=
 (dSeq (dAsg 3 (zav7 (zae1 (nOf (dT1 zq3 (za2 (d2 kIx (dVar 0) (dC (.int 0))) dNil))) (zae1 (nOf (dT1 zq3 (za2 (d2 kIx (dVar 0) (dC (.int 1))) dNil))) nNil)))) (dSeq (dAsg 4 (d2 qR (dVar 2) (dC (.int 13)))) (dSeq (dAsg 5 (dT1 zam9 (za2 (d2 qG (dVar 4) (dC (.int 6))) dNil))) (zan4 3 6 (dVar 5) fun ds k=>(zv2 b7 (zv2 b8 (zv2 b3 (zv2 b4 (zbf2 3 6 ds k (dRet (dT1 kTup (za2 (d2 kIx (dVar 3) (dC (.int 0))) (za2 (d2 kIx (dVar 3) (dC (.int 1))) dNil)))))))))))))
noncomputable def zg8:List D→Option Ev:=mkG 3 ["_law_paper", "_law_most", "_law_cell", "_law_rows", "_law_what", "_law_which", "_law_row", "_law_at", "_law_number", "_law_kept"] zm1
theorem zam2 (Fn:L2.Fun K "_law_bent" "_law_bent" zp5 ad fd) (bu:Blt mg) :FnOk P w K mg base CX0 1 ad fd ["_law_paper", "_law_most", "_law_cell"] (spD K zg8):=by
 have SC:=zak8
 refine zh9 (k:=0) Fn SC (fun _ _ e=>zf0 e) zm1 (fun _ _ e=>zh8 e) (fun cdv A outer s H E F hr=>?_)
 refine za6 ?_ ?_
 ·exact (zb9 (i:=3) SC.nd rfl (za8 rfl) (ped_newL (zaq9 (pn_of (zi6 zt9 rfl bu.n_list zu0 (za1 (zc2 (za0 0) za3) za4))) (zaq9 (pn_of (zi6 zt9 rfl bu.n_list zu0 (za1 (zc2 (za0 0) za3) za4))) pns_nil))))
 refine za6 ?_ ?_
 ·exact (zb9 (i:=4) SC.nd rfl (za8 rfl) (za7 ze7 (za0 2) za3))
 refine za6 ?_ ?_
 ·exact (zb9 (i:=5) SC.nd rfl (za8 rfl) (zi6 zbg5 rfl bu.n_int bt_int (za1 (zo1 od_gt (za0 4) za3) za4)))
 exact (psd_lend (ir:=3) (jx:=6) SC.nd rfl (za8 rfl) (za0 5)
  (zs0 (fun _=>(zaq8 (i:=7) (by decide) SC.nd rfl (za8 rfl) (za7 ze7 (za7 zh7 (za0 2) za3) (za7 (od_add.or ze2) (zb7 zm3 rfl bu.n_len PySem.boot_len (za1 (za0 6) za4)) za3))))
  (zs0 (fun _=>(zaq8 (i:=8) (by decide) SC.nd rfl (za8 rfl) (za7 zx1 (za7 ze7 (za7 zh7 (za7 zh7 (za0 2) za3) (za7 (od_add.or ze2) (zb7 zm3 rfl bu.n_len PySem.boot_len (za1 (za0 6) za4)) za3)) (za7 (od_add.or ze2) (za0 1) za3)) za3)))
  (zs0 (fun _=>(zah1 (zc3 (zx2 hr.units) (za7 ze7 (za7 zh7 (za0 2) za3) za3) za3) (zk8 (zaq8 (i:=8) (by decide) SC.nd rfl (za8 rfl) (zc2 (by refine zf1 ?_;exact (by refine za1 ?_ ?_ ?_;exact (zw9 za3);exact (by refine za1 ?_ ?_ ?_;exact (za7 zx1 (za7 zx1 za3 (za0 8)) za3);exact (by refine za1 ?_ ?_ ?_;exact (za7 (od_add.or ze2) (za7 zai1 za3 za3) (za0 8));exact (by refine za1 ?_ ?_ ?_;exact (za7 zai1 za3 za3);exact za4;exact (zd0 rfl));exact (zd0 rfl));exact (zd0 rfl));exact (zd0 rfl))) (za7 ze7 (za7 zh7 (za0 2) za3) za3)))) pp_nil))
  (zs0 (fun _=>(zah1 (zc3 zai2 (za0 4) (zh3 (za1 za3 (za1 za3 za4)))) (zk8 (pp_ins 6 (za1 (za0 7) (za1 (za0 8) za4)))) (zk8 (zah1 (L2.PW.pt (zl3 (zc3 (zx2 hr.units) (za0 4) za3) (zi5 (zc3 zt6 (za0 7) (zb7 zm3 rfl bu.n_len PySem.boot_len (za1 (za0 6) za4)))))) (zk8 (pp_ins 6 (za1 (za0 7) (za1 (zc2 (za0 6) (za0 7)) za4)))) (zk8 (zah1 (L2.PW.pt (zl3 (zc3 zai2 (za0 4) (zh3 (za1 za3 (za1 za3 za4)))) (zi5 (zc3 zt6 (za0 7) (zb7 zm3 rfl bu.n_len PySem.boot_len (za1 (za0 6) za4)))))) (zk8 (pp_popE 6 (za0 7))) (zk8 (zah1 (L2.PW.pt (zl3 (zc3 zai2 (za0 4) (zh3 (za1 za3 (za1 za3 za4)))) (zi5 (zc3 zt6 (za0 7) (zb7 zm3 rfl bu.n_len PySem.boot_len (za1 (za0 6) za4)))))) (zk8 (zw7 6 (za0 7) (za0 8))) (zk8 (zah1 (L2.PW.pt (zl3 (zc3 zai2 (za0 4) (zh3 (za1 za3 (za1 za3 za4)))) (zi5 (zc3 zt6 (za0 7) (zb7 zm3 rfl bu.n_len PySem.boot_len (za1 (za0 6) za4)))))) (zk8 (zw7 6 (za0 7) (za7 (od_add.or ze2) (zc2 (za0 6) (za0 7)) za3))) (zk8 (zah1 (L2.PW.pt (zl3 (zc3 zai2 (za0 4) (zh3 (za1 za3 (za1 za3 za4)))) (zi5 (zc3 zt6 (za0 7) (zb7 zm3 rfl bu.n_len PySem.boot_len (za1 (za0 6) za4)))))) (zk8 (zw7 6 (za0 7) (za7 zx1 (zc2 (za0 6) (za0 7)) za3))) (zk8 (zah1 (zc3 zt6 (za0 7) (zb7 zm3 rfl bu.n_len PySem.boot_len (za1 (za0 6) za4))) (zaz4 (zaq8 (i:=9) (by decide) SC.nd rfl (za8 rfl) (zc2 (za0 6) (za0 7))) (zaz4 (zw7 6 (za0 7) (zc2 (za0 6) (zw9 za3))) (zk8 (zw7 6 (zw9 za3) (za0 9))))) pp_nil))))))))))))))
  (lent_end (zb1 (zd6 (zh3 (za1 (zc2 (za0 3) za3) (za1 (zc2 (za0 3) za3) za4)))))))))))
theorem zak7:FnScope ["_law_cell", "_law_many", "_law_ties_here", "_law_most", "_law_chosen", "_law_point", "_law_prices", "_law_k"] ["_law_cell", "_law_many", "_law_ties_here", "_law_most"] (zb8 zp4):=zm8 rfl rfl rfl rfl (by decide +kernel)
noncomputable def f2:DS:=(dSeq (dApp 6 (d2 qS (d2 qR (d2 qV (dVar 0) (dC (.int 244))) (d2 qA (dVar 3) (dC (.int 3)))) (dC (.int 1))))
  (dAsg 0 (d2 qV (dVar 0) (d2 qA (dVar 3) (dC (.int 3))))))
noncomputable def f1:DS:=(dSeq (dIfS (dBo (d2 kEq (d2 qR (dVar 0) (dC (.int 2))) (dC (.int 1)))) (dApp 4 (dVar 5)) zh0)
  (dAsg 0 (d2 qV (dVar 0) (dC (.int 2)))))
noncomputable def zq0:DS :=
 (dSeq (dAsg 4 (dT1 kLst dNil)) (dSeq (zbe9 (za5 5) (d1 kNeg (dC (.int 1))) (d2 qA (dVar 1) (dC (.int 1))) f1) (dSeq (dAsg 6 (dT1 kLst dNil)) (dSeq (zz1 (za5 7) (d2 kIx (dT1 kLst (za2 (dVar 2) (za2 (d2 qR (d2 qV (dVar 0) (dC (.int 4))) (dC (.int 61))) dNil))) (dT1 zam9 (za2 (d2 kEq (d2 qR (dVar 0) (dC (.int 4))) (dC (.int 3))) dNil))) f2) (dRet (dT1 kTup (za2 (dVar 4) (za2 (dVar 6) dNil))))))))
noncomputable def zm6:List D→Option Ev:=mkG 4 ["_law_cell", "_law_many", "_law_ties_here", "_law_most", "_law_chosen", "_law_point", "_law_prices", "_law_k"] zq0
theorem zam1 (Fn:L2.Fun K "_law_free" "_law_free" zp4 ad fd) (bu:Blt mg) :FnOk P w K mg base CX0 1 ad fd ["_law_cell", "_law_many", "_law_ties_here", "_law_most"] (spD K zm6):=by
 have SC:=zak7
 refine zh9 (k:=0) Fn SC (fun _ _ e=>zf0 e) zq0 (fun _ _ e=>zh8 e) (fun cdv A outer s H E F hr=>?_)
 refine za6 ?_ ?_
 ·exact (zb9 (i:=4) SC.nd rfl (za8 rfl) (zf1 za4))
 refine za6 ?_ ?_
 ·exact (psd_rng2 PassesOwn.never rfl rfl bu.n_range (zw9 za3) (za7 (od_add.or ze2) (za0 1) za3) (zb4 (i:=5) SC.nd rfl (za8 rfl)) (zb3 5) (za6 (zh6 (zc3 (zx2 hr.units) (za7 ze7 (za0 0) za3) za3) (zb1 (zq5 4 (za0 5))) zf7)
  (zb1 (zb9 (i:=0) SC.nd rfl (za8 rfl) (za7 zh7 (za0 0) za3)))))
 refine za6 ?_ ?_
 ·exact (zb9 (i:=6) SC.nd rfl (za8 rfl) (zf1 za4))
 refine za6 ?_ ?_
 ·exact (zp8 PassesOwn.never rfl rfl bu.n_range (zc2 (zf1 (za1 (za0 2) (za1 (za7 ze7 (za7 zh7 (za0 0) za3) za3) za4))) (zi6 zbg5 rfl bu.n_int bt_int (za1 (zo1 (zx2 hr.units) (za7 ze7 (za0 0) za3) za3) za4))) (zb4 (i:=7) SC.nd rfl (za8 rfl)) (zb3 7) (za6 (zq5 6 (za7 zx1 (za7 ze7 (za7 zh7 (za0 0) za3) (za7 (od_add.or ze2) (za0 3) za3)) za3))
  (zb1 (zb9 (i:=0) SC.nd rfl (za8 rfl) (za7 zh7 (za0 0) (za7 (od_add.or ze2) (za0 3) za3))))))
 exact zb1 (zd6 (zh3 (za1 (za0 4) (za1 (za0 6) za4))))
theorem zad1:FnScope ["_law_script", "_law_web_here", "_law_weights_here", "_law_cell", "_law_most", "_law_paper", "_law_ends", "_law_halves", "_law_free_here", "_law_bent_here", "_law_k"] ["_law_script", "_law_web_here", "_law_weights_here"] (zb8 zk7):=zm8 rfl rfl rfl rfl (by decide +kernel)
noncomputable def reJ:DE:=(d2 qA (dT1 kLst (za2 (dVar 5) (za2 (dVar 8) (za2 (dT1 kTup (za2 (dVar 6) (za2 (dVar 7) dNil))) (za2 (dT1 kTup (za2 (zu9 (za2 (d2 kIx (dVar 1) (dC (.int 0))) dNil)) (za2 (d2 kIx (dVar 5) (dC (.int 1))) dNil))) (za2 (dT1 kTup (za2 (d2 kIx (dVar 5) (dC (.int 0))) (za2 (dVar 7) dNil))) (za2 (dT1 kTup (za2 (dT1 kLst dNil) (za2 (dT1 kLst dNil) dNil))) dNil))))))) (dVar 9))
noncomputable def bdJ:DS:=(dApp 9 (dT1 (zc9 zg8) (za2 (dVar 5) (za2 (dVar 4) (za2 (dT1 (zc9 zd9) (za2 (dVar 3) (za2 (d2 qA (dC (.int 900)) (dVar 10)) dNil))) dNil)))))
noncomputable def zl2:DS :=
 (dSeq (dAsg 3 (dT1 (zc9 zc4) (za2 (dVar 0) (za2 (dC (.int 62)) dNil)))) (dSeq (dAsg 4 (dT1 (zav2 zo4) (za2 (dVar 2) dNil))) (dSeq (dAsg 5 (dT1 (zc9 zm5) (za2 (dVar 1) (za2 (dVar 2) dNil)))) (dSeq (dAsg 6 (dT1 zo5 (za2 (d2 qA (zd8 2 [] (fsL (d2 kIx (dVar 1) (dC (.int 1)))) ktT ze5 (dVar 0)) (zd8 2 [] (fsL (d2 kIx (dVar 1) (dC (.int 1)))) ktT ze5 (dVar 1))) dNil))) (dSeq (dAsg 7 (zd8 2 [2] (fsL (d2 kIx (dVar 1) (dC (.int 1)))) ktT ze5 (d2 qV (dT1 qN (za2 (d2 kIx (dVar 2) (dVar 0)) (za2 (d2 kIx (dVar 2) (dVar 1)) dNil))) (dC (.int 2))))) (dSeq (dAsg 8 (dT1 (zc9 zm6) (za2 (dVar 3) (za2 (d2 kIx (dVar 1) (dC (.int 0))) (za2 (dT1 qN (za2 (dC (.int 60)) (za2 (dT1 kLen (za2 (d2 kIx (dVar 1) (dC (.int 1))) dNil)) dNil))) (za2 (dVar 4) dNil)))))) (dSeq (dAsg 9 (dT1 kLst (za2 (dT1 (zc9 zg8) (za2 (dVar 5) (za2 (dVar 4) (za2 (dVar 3) dNil)))) dNil))) (dSeq (zz1 (za5 10) (dC (.int 6)) bdJ) (dFrz 9 (dFrz 7 (dFrz 6 (dRet reJ))))))))))))
noncomputable def zg7:List D→Option Ev:=mkG 3 ["_law_script", "_law_web_here", "_law_weights_here", "_law_cell", "_law_most", "_law_paper", "_law_ends", "_law_halves", "_law_free_here", "_law_bent_here", "_law_k"] zl2
theorem zae0 (Fn:L2.Fun K "_law_papers" "_law_papers" zk7 ad fd) (bu:Blt mg) (c_law_cell_at:Cal P w K mg base "_law_cell_at" 1 zc4) (c_law_rule:Cal P w K mg base "_law_rule" 1 zm5) (c_law_free:Cal P w K mg base "_law_free" 1 zm6) (c_law_bent:Cal P w K mg base "_law_bent" 1 zg8) (c_law_mixed:Cal P w K mg base "_law_mixed" 1 zd9):FnOk P w K mg base CX0 2 ad fd ["_law_script", "_law_web_here", "_law_weights_here"] (spD K zg7):=by
 have SC:=zad1
 refine zh9 (k:=1) Fn SC (fun _ _ e=>zf0 e) zl2 (fun _ _ e=>zh8 e) (fun cdv A outer s H E F hr=>?_)
 refine za6 ?_ ?_
 ·exact (zb9 (i:=3) SC.nd rfl (za8 rfl) (zb6 c_law_cell_at (hr.mono (by decide)) (za1 (za0 0) (za1 za3 za4))))
 refine za6 ?_ ?_
 ·exact (zb9 (i:=4) SC.nd rfl (za8 rfl) (zb7 (cd_maxL rfl) rfl bu.n_max (by decide +kernel) (za1 (za0 2) za4)))
 refine za6 ?_ ?_
 ·exact (zb9 (i:=5) SC.nd rfl (za8 rfl) (zb6 c_law_rule (hr.mono (by decide)) (za1 (za0 1) (za1 (za0 2) za4))))
 refine za6 ?_ ?_
 ·exact (zb9 (i:=6) SC.nd rfl (za8 rfl) (zah4 rfl rfl bu.n_sorted rfl bu.n_set (za7 (od_add.or ze2) (ze1 2 [] ["_law_one", "_law_other"] rfl (zj8 (zc2 (za0 1) za3)) (fun _ _ _ _ _=>(zj3 rfl (zc1 (zb4 (i:=0) (show List.Nodup (["_law_one", "_law_other"]:List Str) by decide +kernel) rfl (za8 rfl)) (zc1 (zb4 (i:=1) (show List.Nodup (["_law_one", "_law_other"]:List Str) by decide +kernel) rfl (za8 rfl)) zf8)))) (fun _=>(zj2 (zc0 (zb3 0) (zc0 (zb3 1) zf6)))) (fun _ _ _ _ _ _=>zh2) (fun _ _ _ _ _ _=>(za0 0))) (ze1 2 [] ["_law_one", "_law_other"] rfl (zj8 (zc2 (za0 1) za3)) (fun _ _ _ _ _=>(zj3 rfl (zc1 (zb4 (i:=0) (show List.Nodup (["_law_one", "_law_other"]:List Str) by decide +kernel) rfl (za8 rfl)) (zc1 (zb4 (i:=1) (show List.Nodup (["_law_one", "_law_other"]:List Str) by decide +kernel) rfl (za8 rfl)) zf8)))) (fun _=>(zj2 (zc0 (zb3 0) (zc0 (zb3 1) zf6)))) (fun _ _ _ _ _ _=>zh2) (fun _ _ _ _ _ _=>(za0 1))))))
 refine za6 ?_ ?_
 ·exact (zaq2 (i:=7) 2 [2] ["_law_one", "_law_other", "_law_weights_here"] SC.nd rfl (Or.inl rfl) rfl (zj8 (zc2 (za0 1) za3)) (fun _ _ _ _ _=>(zj3 rfl (zc1 (zb4 (i:=0) (show List.Nodup (["_law_one", "_law_other", "_law_weights_here"]:List Str) by decide +kernel) rfl (za8 rfl)) (zc1 (zb4 (i:=1) (show List.Nodup (["_law_one", "_law_other", "_law_weights_here"]:List Str) by decide +kernel) rfl (za8 rfl)) zf8)))) (fun _=>(zj2 (zc0 (zb3 0) (zc0 (zb3 1) zf6)))) (fun _ _ _ _ _ _=>zh2) (fun _ _ _ _ _ _=>(za7 zh7 (zb7 (zas3 rfl) rfl bu.n_min (by decide +kernel) (za1 (zc2 (za0 2) (za0 0)) (za1 (zc2 (za0 2) (za0 1)) za4))) za3)))
 refine za6 ?_ ?_
 ·exact (zb9 (i:=8) SC.nd rfl (za8 rfl) (zb6 c_law_free (hr.mono (by decide)) (by refine za1 ?_ ?_ ?_;exact (za0 3);exact (by refine za1 ?_ ?_ ?_;exact (zc2 (za0 1) za3);exact (by refine za1 ?_ ?_ ?_;exact (zb7 (zas3 rfl) rfl bu.n_min (by decide +kernel) (za1 za3 (za1 (zb7 zm3 rfl bu.n_len PySem.boot_len (za1 (zc2 (za0 1) za3) za4)) za4)));exact (by refine za1 ?_ ?_ ?_;exact (za0 4);exact za4;exact (zd0 rfl));exact (zd0 rfl));exact (zd0 rfl));exact (zd0 rfl))))
 refine za6 ?_ ?_
 ·exact (zb9 (i:=9) SC.nd rfl (za8 rfl) (zf1 (za1 (zb6 c_law_bent (hr.mono (by decide)) (za1 (za0 5) (za1 (za0 4) (za1 (za0 3) za4)))) za4)))
 refine za6 ?_ ?_
 ·exact (zp8 PassesOwn.never rfl rfl bu.n_range za3 (zb4 (i:=10) SC.nd rfl (za8 rfl)) (zb3 10) (zb1 (zq5 9 (zb6 c_law_bent (hr.mono (by decide)) (za1 (za0 5) (za1 (za0 4) (za1 (zb6 c_law_mixed (hr.mono (by decide)) (za1 (za0 3) (za1 (za7 (od_add.or ze2) za3 (za0 10)) za4))) za4)))))))
 exact zb1 (zad5 9 (zad5 7 (zad5 6 (zd6 (za7 (od_add.or ze2) (by refine zf1 ?_;exact (by refine za1 ?_ ?_ ?_;exact (za0 5);exact (by refine za1 ?_ ?_ ?_;exact (za0 8);exact (by refine za1 ?_ ?_ ?_;exact (zh3 (za1 (za0 6) (za1 (za0 7) za4)));exact (by refine za1 ?_ ?_ ?_;exact (zh3 (za1 (zba4 rfl rfl bu.n_list rfl bu.n_range (za1 (zc2 (za0 1) za3) za4)) (za1 (zc2 (za0 5) za3) za4)));exact (by refine za1 ?_ ?_ ?_;exact (zh3 (za1 (zc2 (za0 5) za3) (za1 (za0 7) za4)));exact (by refine za1 ?_ ?_ ?_;exact (zh3 (za1 (zf1 za4) (za1 (zf1 za4) za4)));exact za4;exact (zd0 rfl));exact (zd0 rfl));exact (zd0 rfl));exact (zd0 rfl));exact (zd0 rfl));exact (zd0 rfl))) (za0 9))))))
theorem zag5:FnScope ["_law_web_here", "_law_chosen", "_law_one", "_law_other"] ["_law_web_here", "_law_chosen"] (zb8 zn0):=zm8 rfl rfl rfl rfl (by decide +kernel)
def bdE:DS:=(dIfS (dAnd (dBo (d2 kNin (dVar 2) (dVar 1))) (dBo (d2 kNin (dVar 3) (dVar 1)))) (dRet (dC (.bl false))) zh0)
def zy8:DS :=
 (dSeq (dFor ktE (d2 kIx (dVar 0) (dC (.int 1))) bdE) (dRet (dC (.bl true))))
def zi3:List D→Option Ev:=mkG 2 ["_law_web_here", "_law_chosen", "_law_one", "_law_other"] zy8
theorem zah9 (Fn:L2.Fun K "_law_meets" "_law_meets" zn0 ad fd) (bu:Blt mg) :FnOk P w K mg base CX0 1 ad fd ["_law_web_here", "_law_chosen"] (spD K zi3):=by
 have SC:=zag5
 refine zh9 (k:=0) Fn SC (fun _ _ e=>zf0 e) zy8 (fun _ _ e=>zh8 e) (fun cdv A outer s H E F hr=>?_)
 refine za6 ?_ ?_
 ·exact (zt3 PassesOwn.never rfl (zc2 (za0 0) za3) (zj3 rfl (zc1 (zb4 (i:=2) SC.nd rfl (za8 rfl)) (zc1 (zb4 (i:=3) SC.nd rfl (za8 rfl)) zf8))) (zj2 (zc0 (zb3 2) (zc0 (zb3 3) zf6))) (zb1 (zh6 (L2.PW.pt (zl3 (zc3 od_nin (za0 2) (za0 1)) (zi5 (zc3 od_nin (za0 3) (za0 1))))) (zb1 (zd6 zj4)) zf7)))
 exact zb1 (zd6 zj4)
theorem zag6:FnScope ["_law_web_here", "_law_weights_here", "_law_least_here", "_law_bits", "_law_good", "_law_one", "_law_other", "_law_weight"] ["_law_web_here", "_law_weights_here"] (zb8 zn1):=zm8 rfl rfl rfl rfl (by decide +kernel)
def ktI:D→Th→Option Th:=(zf4 2 (zb2 (za5 5) (zb2 (za5 6) zg0)))
noncomputable def zn5:DS :=
 (dSeq (dAsg 2 (dC .non)) (dSeq (zz1 (za5 3) (d2 (kI cPow fun i j=>.int (i*2 ^ j.toNat)) (dC (.int 1)) (d2 kIx (dVar 0) (dC (.int 0)))) (dSeq (dAsg 4 (dC (.bl true))) (dSeq (dFor ktI (d2 kIx (dVar 0) (dC (.int 1))) (dIfS (dAnd (dBo (d2 kEq (d2 (kI tt2 fun i j=>.int (Builtin.bitAnd i j)) (d2 (kI cShr fun i j=>.int (i / 2 ^ j.toNat)) (dVar 3) (dVar 5)) (dC (.int 1))) (dC (.int 0)))) (dBo (d2 kEq (d2 (kI tt2 fun i j=>.int (Builtin.bitAnd i j)) (d2 (kI cShr fun i j=>.int (i / 2 ^ j.toNat)) (dVar 3) (dVar 6)) (dC (.int 1))) (dC (.int 0))))) (dSeq (dAsg 4 (dC (.bl false))) dBrk) zh0)) (dIfS (dTr (dVar 4)) (dSeq (dAsg 7 (dT1 kSum (za2 (zd8 1 [3,1] (fsR1 (d2 kIx (dVar 0) (dC (.int 0)))) (za5 0) (dBo (d2 kEq (d2 (kI tt2 fun i j=>.int (Builtin.bitAnd i j)) (d2 (kI cShr fun i j=>.int (i / 2 ^ j.toNat)) (dVar 1) (dVar 0)) (dC (.int 1))) (dC (.int 1)))) (d2 kIx (dVar 2) (dVar 0))) dNil))) (dIfS (dOr (dBo (d2 kIs (dVar 2) (dC .non))) (dBo (d2 qL (dVar 7) (dVar 2)))) (dAsg 2 (dVar 7)) zh0)) zh0)))) (zbf0 2)))
noncomputable def zi4:List D→Option Ev:=mkG 2 ["_law_web_here", "_law_weights_here", "_law_least_here", "_law_bits", "_law_good", "_law_one", "_law_other", "_law_weight"] zn5
theorem zai0 (Fn:L2.Fun K "_law_least" "_law_least" zn1 ad fd) (bu:Blt mg) :FnOk P w K mg base CX0 1 ad fd ["_law_web_here", "_law_weights_here"] (spD K zi4):=by
 have SC:=zag6
 refine zh9 (k:=0) Fn SC (fun _ _ e=>zf0 e) zn5 (fun _ _ e=>zh8 e) (fun cdv A outer s H E F hr=>?_)
 refine za6 ?_ ?_
 ·exact (zb9 (i:=2) SC.nd rfl (za8 rfl) zba3)
 refine za6 ?_ ?_
 ·exact (zp8 PassesOwn.never rfl rfl bu.n_range (za7 od_shl za3 (zc2 (za0 0) za3)) (zb4 (i:=3) SC.nd rfl (za8 rfl)) (zb3 3) (za6 (zb9 (i:=4) SC.nd rfl (za8 rfl) zj4)
  (za6 (zt3 PassesOwn.never rfl (zc2 (za0 0) za3) (zj3 rfl (zc1 (zb4 (i:=5) SC.nd rfl (za8 rfl)) (zc1 (zb4 (i:=6) SC.nd rfl (za8 rfl)) zf8))) (zj2 (zc0 (zb3 5) (zc0 (zb3 6) zf6))) (zb1 (zh6 (L2.PW.pt (zl3 (zc3 (zx2 hr.units) (za7 zbb2 (za7 zbb1 (za0 3) (za0 5)) za3) za3) (zi5 (zc3 (zx2 hr.units) (za7 zbb2 (za7 zbb1 (za0 3) (za0 6)) za3) za3)))) (za6 (zb9 (i:=4) SC.nd rfl (za8 rfl) zj4)
  (zb1 zaz0)) zf7)))
  (zb1 (zh6 (zl4 (za0 4)) (za6 (zb9 (i:=7) SC.nd rfl (za8 rfl) (zb7 (zaj5 rfl) rfl bu.n_sum (by decide +kernel) (za1 (ze1 1 [3,1] ["_law_point", "_law_bits", "_law_weights_here"] rfl (zr6 rfl bu.n_range (zc2 (za0 0) za3)) (fun _ _ _ _ _=>(zb4 (i:=0) (show List.Nodup (["_law_point", "_law_bits", "_law_weights_here"]:List Str) by decide +kernel) rfl (za8 rfl))) (fun _=>(zb3 0)) (fun _ _ _ _ _ _=>(zr5 (zc3 (zx2 hr.units) (za7 zbb2 (za7 zbb1 (za0 1) (za0 0)) za3) za3))) (fun _ _ _ _ _ _=>(zc2 (za0 2) (za0 0)))) za4)))
  (zb1 (zh6 (L2.PW.pt (zag8 (zc3 od_is (za0 2) zba3) (zw5 (zc3 zt6 (za0 7) (za0 2))))) (zb1 (zb9 (i:=2) SC.nd rfl (za8 rfl) (za0 7))) zf7))) zf7)))))
 exact zb1 (zaq3 2)
theorem sc_law:FnScope ["_law_script", "_law_web_here", "_law_weights_here", "_law_least_here", "_law_told", "_law_chosen", "_law_prices"] ["_law_script"] (zb8 s_law):=zm8 rfl rfl rfl rfl (by decide +kernel)
noncomputable def bdL1:DS:=(dIfS (dOr (dNot (dTr (dT1 (zc9 zi3) (za2 (dVar 1) (za2 (dVar 5) dNil))))) (dBo (d2 qL (dT1 zx8 (za2 (dVar 5) dNil)) (dT1 kLen (za2 (dVar 5) dNil))))) (dRet (dC (.bl false))) zh0)
noncomputable def bdL2:DS:=(dIfS (dBo (d2 kNe (zd8 1 [1] (fsL (dVar 5)) (za5 0) (dOr (dBo (d2 qL (dVar 0) (dC (.int 0)))) (dBo (d2 qH (dVar 0) (d2 kIx (dVar 1) (dC (.int 0)))))) (dVar 0)) (dT1 kLst dNil))) (dRet (dC (.bl false))) zh0)
noncomputable def bdL3:DS:=(dIfS (dBo (d2 qG (dT1 kSum (za2 (zd8 1 [2] (fsL (dVar 5)) (za5 0) ze5 (d2 kIx (dVar 1) (dVar 0))) dNil)) (d2 qM (dC (.int 2)) (dVar 3)))) (dRet (dC (.bl false))) zh0)
noncomputable def bdL:DS:=(dIfS (dTr (dT1 (zc9 ze3) (za2 (dVar 1) (za2 (dVar 2) (za2 (dT1 zq3 (za2 (dVar 5) dNil)) (za2 (dT1 zq3 (za2 (dVar 6) dNil)) dNil)))))) (dSeq bdL1 (dSeq bdL2 bdL3)) zh0)
noncomputable def cT:DS:=(dIfS (dNot (dTr (dT1 (zc9 ze3) (za2 (dVar 1) (za2 (dVar 2) (za2 (d2 kIx (dVar 4) (dC (.int 0))) (za2 (d2 kIx (dVar 4) (dC (.int 1))) dNil))))))) (dRet (dC (.bl false))) zh0)
def feP:DE:=(d2 qA (dT1 kLst (za2 (dVar 4) dNil)) (dT1 (zc9 zg7) (za2 (dVar 0) (za2 (dVar 1) (za2 (dVar 2) dNil)))))
noncomputable def g_law:DS :=
 (dSeq (dAsg 1 (dT1 (zc9 zm4) (za2 (dVar 0) (za2 (dC (.int 9)) dNil)))) (dSeq (dAsg 2 (dT1 (zc9 zh4) (za2 (dVar 0) (za2 (d2 kIx (dVar 1) (dC (.int 0))) dNil)))) (dSeq (dFrz 2 (dAsg 3 (dT1 (zc9 zi4) (za2 (dVar 1) (za2 (dVar 2) dNil))))) (dSeq (dAsg 4 (dT1 (zc9 ze8) (za2 (dVar 1) (za2 (dVar 2) dNil)))) (dSeq cT (dSeq (dFor ktI feP bdL) (dRet (dC (.bl true)))))))))
noncomputable def G_law:List D→Option Ev:=mkG 1 ["_law_script", "_law_web_here", "_law_weights_here", "_law_least_here", "_law_told", "_law_chosen", "_law_prices"] g_law
theorem ok_law (Fn:L2.Fun K "law" "law" s_law ad fd) (bu:Blt mg) (c_law_web:Cal P w K mg base "_law_web" 3 zm4) (c_law_weights:Cal P w K mg base "_law_weights" 2 zh4) (c_law_least:Cal P w K mg base "_law_least" 1 zi4) (c_cover_by_price:Cal P w K mg base "cover_by_price" 2 ze8) (c_lets_cover:Cal P w K mg base "lets_cover" 3 ze3) (c_law_papers:Cal P w K mg base "_law_papers" 2 zg7) (c_law_meets:Cal P w K mg base "_law_meets" 1 zi3):FnOk P w K mg base CX0 4 ad fd ["_law_script"] (spD K G_law):=by
 have SC:=sc_law
 refine zh9 (k:=3) Fn SC (fun _ _ e=>zf0 e) g_law (fun _ _ e=>zh8 e) (fun cdv A outer s H E F hr=>?_)
 refine za6 ?_ ?_
 ·exact (zb9 (i:=1) SC.nd rfl (za8 rfl) (zb6 c_law_web (hr.mono (by decide)) (za1 (za0 0) (za1 za3 za4))))
 refine za6 ?_ ?_
 ·exact (zb9 (i:=2) SC.nd rfl (za8 rfl) (zb6 c_law_weights (hr.mono (by decide)) (za1 (za0 0) (za1 (zc2 (za0 1) za3) za4))))
 refine za6 ?_ ?_
 ·exact (zad5 2 (zb9 (i:=3) SC.nd rfl (za8 rfl) (zb6 c_law_least (hr.mono (by decide)) (za1 (za0 1) (za1 (za0 2) za4)))))
 refine za6 ?_ ?_
 ·exact (zb9 (i:=4) SC.nd rfl (za8 rfl) (zb6 c_cover_by_price (hr.mono (by decide)) (za1 (za0 1) (za1 (za0 2) za4))))
 refine za6 ?_ ?_
 ·exact (zh6 (zw6 (zl4 (zb6 c_lets_cover (hr.mono (by decide)) (by refine za1 ?_ ?_ ?_;exact (za0 1);exact (by refine za1 ?_ ?_ ?_;exact (za0 2);exact (by refine za1 ?_ ?_ ?_;exact (zc2 (za0 4) za3);exact (by refine za1 ?_ ?_ ?_;exact (zc2 (za0 4) za3);exact za4;exact (zd0 rfl));exact (zd0 rfl));exact (zd0 rfl));exact (zd0 rfl))))) (zb1 (zd6 zj4)) zf7)
 refine za6 ?_ ?_
 ·exact (zt3 PassesOwn.never rfl (za7 (od_add.or ze2) (zf1 (za1 (za0 4) za4)) (zb6 c_law_papers (hr.mono (by decide)) (za1 (za0 0) (za1 (za0 1) (za1 (za0 2) za4))))) (zj3 rfl (zc1 (zb4 (i:=5) SC.nd rfl (za8 rfl)) (zc1 (zb4 (i:=6) SC.nd rfl (za8 rfl)) zf8))) (zj2 (zc0 (zb3 5) (zc0 (zb3 6) zf6))) (zb1 (zh6 (zl4 (zb6 c_lets_cover (hr.mono (by decide)) (by refine za1 ?_ ?_ ?_;exact (za0 1);exact (by refine za1 ?_ ?_ ?_;exact (za0 2);exact (by refine za1 ?_ ?_ ?_;exact (zi6 zt9 rfl bu.n_list zu0 (za1 (za0 5) za4));exact (by refine za1 ?_ ?_ ?_;exact (zi6 zt9 rfl bu.n_list zu0 (za1 (za0 6) za4));exact za4;exact (zd0 rfl));exact (zd0 rfl));exact (zd0 rfl));exact (zd0 rfl)))) (za6 (zh6 (L2.PW.pt (zag8 (zw6 (zl4 (zb6 c_law_meets (hr.mono (by decide)) (za1 (za0 1) (za1 (za0 5) za4))))) (zw5 (zc3 zt6 (zau4 rfl rfl bu.n_len rfl bu.n_set (za0 5)) (zb7 zm3 rfl bu.n_len PySem.boot_len (za1 (za0 5) za4)))))) (zb1 (zd6 zj4)) zf7)
  (za6 (zh6 (zc3 (od_ne hr.units) (ze1 1 [1] ["_law_point", "_law_web_here"] rfl (zj8 (za0 5)) (fun _ _ _ _ _=>(zb4 (i:=0) (show List.Nodup (["_law_point", "_law_web_here"]:List Str) by decide +kernel) rfl (za8 rfl))) (fun _=>(zb3 0)) (fun _ _ _ _ _ _=>(zr5 (L2.PW.pt (zag8 (zc3 zt6 (za0 0) za3) (zw5 (zc3 od_ge (za0 0) (zc2 (za0 1) za3))))))) (fun _ _ _ _ _ _=>(za0 0))) (zf1 za4)) (zb1 (zd6 zj4)) zf7)
  (zb1 (zh6 (zc3 od_gt (zb7 (zaj5 rfl) rfl bu.n_sum (by decide +kernel) (za1 (ze1 1 [2] ["_law_point", "_law_weights_here"] rfl (zj8 (za0 5)) (fun _ _ _ _ _=>(zb4 (i:=0) (show List.Nodup (["_law_point", "_law_weights_here"]:List Str) by decide +kernel) rfl (za8 rfl))) (fun _=>(zb3 0)) (fun _ _ _ _ _ _=>zh2) (fun _ _ _ _ _ _=>(zc2 (za0 1) (za0 0)))) za4)) (za7 (od_mul.or zl8) za3 (za0 3))) (zb1 (zd6 zj4)) zf7)))) zf7)))
 exact zb1 (zd6 zj4)
end KX
namespace KX
open PySem.Spec L2 DL
theorem cell_of (ns:List Int) (hb:∀n∈ns,n.natAbs<bndS) (k:Nat):∃v:Int,v.natAbs<bndS∧zc4 [.lst (ns.map D.int),.int (k:Int)]=some (.cl (.int v)):=by
 have hbig:=bnd_big
 by_cases h:k<ns.length
 ·refine⟨ns[k],hb _ (zbn9 h),?_⟩
  have h1:((k:Int)<((ns.map D.int).length:Int)):=by simp;lia
  have h2:atI (ns.map D.int) (k:Int)=some (.int ns[k]):=by
   unfold atI ixN
   rw [if_pos (by lia),if_pos h1]
   simp [h]
  show (zf5 [.val (.lst (ns.map D.int)),.val (.int (k:Int))]).bind zi7=_
  simp only [zf5,dSeq,dIfS,dBo,d2,dVar,dT1,za2,dNil,kLen,Ev.d,kI,tt2,zbj1,zbw1,zbq0,if_true]
  rw [decide_eq_true h1]
  simp [dRet,d2,dVar,kIx,Ev.d,h2,zi7,Ev.ok]
 ·refine⟨0,by simp;lia,?_⟩
  have h1 : ¬ ((k:Int)<((ns.map D.int).length:Int)):=by simp;lia
  show (zf5 [.val (.lst (ns.map D.int)),.val (.int (k:Int))]).bind zi7=_
  simp only [zf5,dSeq,dIfS,dBo,d2,dVar,dT1,za2,dNil,kLen,Ev.d,kI,tt2,zbj1,zbw1,zbq0,if_true]
  rw [decide_eq_false h1]
  simp [dRet,zh0,dC,zi7]
theorem zbh3 (ns:List Int) (hb:∀n∈ns,n.natAbs<bndS) (k:Nat):∃v:Int,v.natAbs<bndS∧zc9 zc4 [.cl (.lst (ns.map D.int)),.cl (.int (k:Int))]=some (.cl (.int v)):=by
 obtain⟨v,h,e⟩:=cell_of ns hb k
 exact⟨v,h,by simp [zc9,Ev.d,e,upEv,Ev.ok]⟩
theorem zq1 (ns:List Int) (hb:∀n∈ns,n.natAbs<bndS) (k:Nat) (r:Th):∃v:Int,v.natAbs<bndS∧(dT1 (zc9 zc4) (za2 (dVar 0) (za2 (dC (.int (k:Int))) dNil))) (.val (.lst (ns.map D.int))::r)=some (.cl (.int v)):=by
 obtain⟨v,h,e⟩:=zbh3 ns hb k
 exact⟨v,h,(zj0 (ra:=.cl (.lst (ns.map D.int))) (rb:=.cl (.int (k:Int))) rfl rfl).trans e⟩
theorem fm {a b:Int} (h:0<b):0≤a.fmod b∧a.fmod b<b:=fmod_pos h
theorem mixed_is (c:Int) {k:Int} (k0:0≤k) (k1:k<100000):∃m:Int,0≤m∧m<2147483648∧zd9 [.int c,.int k]=some (.cl (.int m)):=by
 show ∃m:Int,0≤m∧m<2147483648∧(zq8 [.val (.int c),.val (.int k),.no]).bind zi7=some (.cl (.int m))
 have q1:=fm (a:=c) (b:=2147483647) (by decide)
 have kk:0≤69621*k*k∧69621*k*k≤69621*100000*100000:=by
  have h1:0≤69621*k:=by lia
  have h2:69621*k*k≤69621*100000*k:=zbp9 (by lia) k0
  exact⟨Int.mul_nonneg h1 k0,by lia⟩
 have e1:=zf2 (zi0 (zi0 (zf2 (fa:=dVar 0) (fb:=dC (.int 2147483647)) (t:=[.val (.int c),.val (.int k),.no]) (a:=c) (b:=2147483647) rfl rfl (by decide)) (zo3 (zo3 (fa:=dC (.int 69621)) (fb:=dVar 1) (t:=[.val (.int c),.val (.int k),.no]) (a:=69621) (b:=k) rfl rfl (ze9 (by decide) (by decide)) (ze9 (by lia) (by lia))) (rfl:dVar 1 _=some (.cl (.int k))) (ze9 (by lia) (by lia)) (ze9 (by lia) (by lia)))) (rfl:dC (.int 40014) _=some (.cl (.int 40014)))) (rfl:dC (.int 2147483647) _=some (.cl (.int 2147483647))) (by decide)
 have E1:=ze4 (i:=2) e1 (by simp)
 generalize hn:(Int.fmod (c.fmod 2147483647+69621*k*k+40014) 2147483647)=n at E1
 have q2:0≤n∧n<2147483647:=by rw [← hn];exact fm (by decide)
 let t:Th:=[.val (.int c),.val (.int k),.val (.int n)]
 have e2:=zf2 (zi0 (zi0 (zo3 (fa:=dVar 2) (fb:=dVar 2) (t:=t) (a:=n) (b:=n) rfl rfl (ze9 (by lia) (by lia)) (ze9 (by lia) (by lia))) (zo3 (fa:=dC (.int 7919)) (fb:=dVar 1) (t:=t) (a:=7919) (b:=k) rfl rfl (ze9 (by decide) (by decide)) (ze9 (by lia) (by lia)))) (rfl:dC (.int 1) t=some (.cl (.int 1)))) (rfl:dC (.int 2147483629) t=some (.cl (.int 2147483629))) (by decide)
 have E2:=ze4 (i:=2) e2 (by simp [t])
 generalize hn2:(Int.fmod (n*n+7919*k+1) 2147483629)=n2 at E2
 have q3:0≤n2∧n2<2147483629:=by rw [← hn2];exact fm (by decide)
 let t2:Th:=[.val (.int c),.val (.int k),.val (.int n2)]
 have e3:=zf2 (zi0 (zo3 (fa:=dVar 2) (fb:=dVar 2) (t:=t2) (a:=n2) (b:=n2) rfl rfl (ze9 (by lia) (by lia)) (ze9 (by lia) (by lia))) (zo3 (fa:=dC (.int 104729)) (fb:=dVar 1) (t:=t2) (a:=104729) (b:=k) rfl rfl (ze9 (by decide) (by decide)) (ze9 (by lia) (by lia)))) (rfl:dC (.int 2147483587) t2=some (.cl (.int 2147483587))) (by decide)
 have q4:=fm (a:=n2*n2+104729*k) (b:=2147483587) (by decide)
 have e4:=zk3 e3 (rfl:dC (.int 64) t2=some (.cl (.int 64))) (by decide) (ze9 (by decide) (by decide))
 have dd:∀x:Int,0≤x→x<2147483587→0≤x.fdiv 64∧x.fdiv 64<2147483648:=fun x h0 h1=>by
  rw [zbq8 x (by decide)]
  lia
 exact⟨_,(dd _ q4.1 q4.2).1,(dd _ q4.1 q4.2).2,bnd ((za9 E1).trans ((za9 E2).trans (zn8 e4)))⟩
theorem zq2 {r1 r2:Ev} (c:Int) {k:Int} (k0:0≤k) (k1:k<100000) (h1:r1.d=.int c) (h2:r2.d=.int k):∃m:Int,0≤m∧m<2147483648∧zc9 zd9 [r1,r2]=some (.cl (.int m)):=by
 obtain⟨m,a,b,e⟩:=mixed_is c k0 k1
 refine⟨m,a,b,callc ?_ rfl⟩
 simp only [zbk5,zbx3,h1,h2]
 exact e
theorem zbd8 {k:D→Th→Option Th}{b:DS}{P:Nat→Th→Prop}{C:Nat}:∀(ds:List D) (c:Nat),(∀d∈ds,∀c t,c<C→P c t→∃t1 t2,k d t=some t1∧b t1=some (.nx t2)∧P (c+1) t2)→c+ds.length≤C→∀t,P c t→∃t',forD k b ds t=some (.nx t')∧P (c+ds.length) t'
 |[],c,_,_,t,h=>⟨t,rfl,h⟩
 |d::ds,c,hd,hc,t,h=>by
  simp only [zbm5]at hc
  obtain⟨t1,t2,e1,e2,h2⟩:=hd d (zbi9 ..) c t (by lia) h
  obtain⟨t',e,h'⟩:=zbd8 ds (c+1) (fun d' hd'=>hd d' (zbi6 _ hd')) (by lia) t2 h2
  refine⟨t',by simp only [forD,e1,e2,zbj1];exact e,?_⟩
  rw [show c+(d::ds).length=c+1+ds.length by simp only [zbm5];lia]
  exact h'
theorem zar8:∀(cs:List Int) (i:Nat),∀d∈zo9 i (cs.map D.int),∃(j:Nat) (c:Int),d=.tup [.int (j:Int),.int c]∧j<i+cs.length
 |[],i,d,h=>by cases h
 |c::cs,i,d,h=>by
  rcases zbj4.mp h with z | z
  ·exact⟨i,c,z,by simp only [zbm5];lia⟩
  ·obtain⟨j,c',e,l⟩:=zar8 cs (i+1) d z
   exact⟨j,c',e,by simp only [zbm5];lia⟩
def OkP (M:Int) (ps:List (Int×Int)):Prop := ∀q∈ps,0≤q.1∧q.1<q.2∧q.2<M
def OkN (M:Int) (ps:List (Int×Int)):Prop:=OkP M ps∧ps.Nodup
theorem put_of {M:Int} (h0:0<M) (h1:M≤1000) {ps:List (Int×Int)} (hl:ps.length<100000) (hp:OkN M ps) (n:Int):∃ps',putG ps [M,n]=some ps'∧ps'.length≤ps.length+1∧OkN M ps':=by
 have a:=fm (a:=n) h0
 have b:=fm (a:=n.fdiv M) h0
 unfold putG
 simp only
 rw [if_pos ⟨h0,ze9 (by lia) (by lia),hl⟩]
 by_cases z:n.fmod M=(n.fdiv M).fmod M
 ·rw [if_pos z]
  exact⟨ps,rfl,by lia,hp⟩
 ·rw [if_neg z]
  refine⟨_,rfl,?_,?_⟩
  ·unfold zau0;split
   ·lia
   ·simp
  ·refine⟨?_,?_⟩
   ·intro q hq
    have m:q∈ps∨q=zal8 M n:=by
     unfold zau0 at hq
     split at hq
     ·exact .inl hq
     ·exact (zbj2.mp hq).imp_right fun w=>by simpa using w
    rcases m with m | m
    ·exact hp.1 q m
    ·subst m
     unfold zal8
     simp only
     split<;>split<;>lia
   ·unfold zau0
    split
    ·exact hp.2
    ·rename_i c
     refine zbk9.mpr ⟨hp.2,by simp,fun x hx y hy e=>c (by rw [zbl4.mp hy]at e;rw [← e];exact hx)⟩
theorem zas6 {t:Th}{ga:DA}{i:Nat}{ps ps':List (Int×Int)}{M n:Int} (hi:t[i]?=some (.dp (.pdc ps))) (hg:ga t=some [.cl (.int M),.cl (.int n)]) (hp:putG ps [M,n]=some ps'):zac0 i putG ga t=some (.nx (t.set i (.dp (.pdc ps')))):=by
 unfold zac0
 rw [hi]
 show (ga t).bind _=_
 rw [hg]
 show (putG ps [M,n]).map _=_
 rw [hp]
 rfl
theorem zax3 {s0 s1 s2 s5:Sl}{k x:Nat}{cell:Int} (hk:k<1000) (hx:x<1000):∃m:Int,tieN [s0,s1,s2,.val (.int (k:Int)),.val (.int cell),s5,.val (.int (x:Int))]=some (.cl (.int m)):=by
 let t:Th:=[s0,s1,s2,.val (.int (k:Int)),.val (.int cell),s5,.val (.int (x:Int))]
 have e:=zi0 (zi0 (fa:=dC (.int 64)) (t:=t) (a:=64) rfl (zo3 (fa:=dC (.int 6)) (fb:=dVar 3) (t:=t) (a:=6) (b:=(k:Int)) rfl rfl (ze9 (by decide) (by decide)) (ze9 (by lia) (by lia)))) (rfl:dVar 6 t=some (.cl (.int (x:Int))))
 obtain⟨m,_,_,em⟩:=zq2 (r1:=.cl (.int cell)) (r2:=.cl (.int (64+6*(k:Int)+(x:Int)))) cell (k:=64+6*(k:Int)+(x:Int)) (by lia) (by lia) rfl rfl
 exact⟨m,(zj0 (rfl:dVar 4 t=some (.cl (.int cell))) e).trans em⟩
noncomputable def PA (N:Sl) (M:Int) (s3 s4:Sl) (c0:Nat) (c:Nat) (t:Th):Prop := ∃(ps:List (Int×Int)) (n:Int) (s6:Sl),t=[N,.val (.int M),.dp (.pdc ps),s3,s4,.val (.int n),s6]∧ps.length≤c0+c∧OkN M ps
noncomputable def PB (N:Sl) (M:Int) (s3 s4 s5:Sl) (c0:Nat) (c:Nat) (t:Th):Prop := ∃ps s6,t=[N,.val (.int M),.dp (.pdc ps),s3,s4,s5,s6]∧ps.length≤c0+c∧OkN M ps
theorem zam4 {n:Nat}{d:D} (h:d∈(zc5 n).map D.int):∃x:Nat,d=.int (x:Int)∧x<n:=by
 obtain⟨y,hy,rfl⟩:=zbm9.mp h
 unfold zc5 at hy
 obtain⟨x,hx,rfl⟩:=zbm9.mp hy
 exact⟨x,rfl,zbp4.mp hx⟩
theorem zi1 (n:Nat):((zc5 n).map D.int).length=n:=by simp [zc5]
theorem turn_A {N:Sl}{M:Int} (m0:0<M) (m1:M≤1000) {k x:Nat}{cell:Int} (hk:k<1000) (hx:x<1000) {c0 c:Nat} (hc:c0+c<90000) {t:Th} (h:PA N M (.val (.int (k:Int))) (.val (.int cell)) c0 c t):∃t1 t2,za5 6 (.int (x:Int)) t=some t1∧bdT1 t1=some (.nx t2)∧PA N M (.val (.int (k:Int))) (.val (.int cell)) c0 (c+1) t2:=by
 obtain⟨ps,n,s6,rfl,hl,hp⟩:=h
 refine⟨[N,.val (.int M),.dp (.pdc ps),.val (.int (k:Int)),.val (.int cell),.val (.int n),.val (.int (x:Int))],?_⟩
 have E1:∃n':Int,(dIfS (dBo (d2 qE (dVar 5) (dC (.int 0)))) (dAsg 5 tieN) zh0) [N,.val (.int M),.dp (.pdc ps),.val (.int (k:Int)),.val (.int cell),.val (.int n),.val (.int (x:Int))]=some (.nx [N,.val (.int M),.dp (.pdc ps),.val (.int (k:Int)),.val (.int cell),.val (.int n'),.val (.int (x:Int))]):=by
  have cnd:(dBo (d2 qE (dVar 5) (dC (.int 0)))) [N,.val (.int M),.dp (.pdc ps),.val (.int (k:Int)),.val (.int cell),.val (.int n),.val (.int (x:Int))]=some (decide (n≤0)):=rfl
  by_cases z:n≤0
  ·obtain⟨m,em⟩:=zax3 (s0:=N) (s1:=.val (.int M)) (s2:=.dp (.pdc ps)) (s5:=.val (.int n)) (cell:=cell) hk hx
   exact⟨m,(zt8 cnd (decide_eq_true z)).trans (ze4 (i:=5) em (by simp))⟩
  ·exact⟨n,grd cnd (decide_eq_false z)⟩
 obtain⟨n',E1⟩:=E1
 obtain⟨ps',eg,l',ok'⟩:=put_of m0 m1 (ps:=ps) (by lia) hp n'
 have E2:=zas6 (i:=2) (ga:=(za2 (dVar 1) (za2 (dVar 5) dNil))) (t:=[N,.val (.int M),.dp (.pdc ps),.val (.int (k:Int)),.val (.int cell),.val (.int n'),.val (.int (x:Int))]) (M:=M) (n:=n') rfl rfl eg
 have mm:0<M*M∧M*M≤1000000:=by
  have h1:M*M≤1000*M:=zbp9 m1 (by lia)
  exact⟨Int.mul_pos m0 m0,by lia⟩
 have E3:=ze4 (i:=5) (zk3 (fa:=dVar 5) (t:=[N,.val (.int M),.dp (.pdc ps'),.val (.int (k:Int)),.val (.int cell),.val (.int n'),.val (.int (x:Int))]) (a:=n') rfl (zo3 (fa:=dVar 1) (fb:=dVar 1) (a:=M) (b:=M) rfl rfl (ze9 (by lia) (by lia)) (ze9 (by lia) (by lia))) (by lia) (ze9 (by lia) (by lia))) (by simp)
 exact⟨_,rfl,(za9 E1).trans ((za9 E2).trans E3),ps',_,_,rfl,by lia,ok'⟩
theorem turn_B {N:Sl}{M:Int} (m0:0<M) (m1:M≤1000) {k x:Nat}{cell:Int}{s5:Sl} (hk:k<1000) (hx:x<1000) {c0 c:Nat} (hc:c0+c<90000) {t:Th} (h:PB N M (.val (.int (k:Int))) (.val (.int cell)) s5 c0 c t):∃t1 t2,za5 6 (.int (x:Int)) t=some t1∧bdT2 t1=some (.nx t2)∧PB N M (.val (.int (k:Int))) (.val (.int cell)) s5 c0 (c+1) t2:=by
 obtain⟨ps,s6,rfl,hl,hp⟩:=h
 obtain⟨m,em⟩:=zax3 (s0:=N) (s1:=.val (.int M)) (s2:=.dp (.pdc ps)) (s5:=s5) (cell:=cell) hk hx
 obtain⟨ps',eg,l',ok'⟩:=put_of m0 m1 (ps:=ps) (by lia) hp m
 have E2:=zas6 (i:=2) (ga:=(za2 (dVar 1) (za2 tieN dNil))) (t:=[N,.val (.int M),.dp (.pdc ps),.val (.int (k:Int)),.val (.int cell),s5,.val (.int (x:Int))]) (M:=M) (n:=m) rfl (cns rfl (cns em rfl)) eg
 exact⟨_,_,rfl,E2,ps',_,rfl,by lia,ok'⟩
noncomputable def PT (N:Sl) (M:Int) (c:Nat) (t:Th):Prop := ∃ps s3 s4 s5 s6,t=[N,.val (.int M),.dp (.pdc ps),s3,s4,s5,s6]∧ps.length≤61*c∧OkN M ps
theorem turn_T (ns:List Int) (hb:∀n∈ns,n.natAbs<bndS) {M:Int} (m0:0<M) (m1:M≤1000) {k:Nat}{cell:Int} (hk:k<1000) {c:Nat} (hc:c<100) {t:Th} (h:PT (.val (.lst (ns.map D.int))) M c t):∃t1 t2,(zf4 2 (zb2 (za5 3) (zb2 (za5 4) zg0))) (.tup [.int (k:Int),.int cell]) t=some t1∧bdT t1=some (.nx t2)∧PT (.val (.lst (ns.map D.int))) M (c+1) t2:=by
 obtain⟨ps,s3,s4,s5,s6,rfl,hl,hp⟩:=h
 let N:Sl:=.val (.lst (ns.map D.int))
 let t:Th:=[N,.val (.int M),.dp (.pdc ps),.val (.int (k:Int)),.val (.int cell),s5,s6]
 refine⟨t,?_⟩
 obtain⟨v0,_,e0⟩:=zq1 ns hb 0 [.val (.int M),.dp (.pdc ps),.val (.int (k:Int)),.val (.int cell),s5,s6]
 have cnd:=zs6 (zf2 e0 (fb:=dC (.int 2)) rfl (by decide)) (fb:=dC (.int 0)) rfl
 unfold bdT
 by_cases z:v0.fmod 2=0
 ·have E1:=ze4 (i:=5) (t:=t) (zk3 (fa:=dVar 4) (fb:=dC (.int 61)) (t:=t) (a:=cell) (b:=61) rfl rfl (by decide) (ze9 (by decide) (by decide))) (by simp [t])
  have q:=fm (a:=cell) (b:=61) (by decide)
  obtain⟨n,hn⟩:∃n:Nat,cell.fmod 61=(n:Int):=⟨(cell.fmod 61).toNat,by lia⟩
  let t1:Th:=[N,.val (.int M),.dp (.pdc ps),.val (.int (k:Int)),.val (.int cell),.val (.int (cell.fdiv 61)),s6]
  have em:=zf2 (fa:=dVar 4) (fb:=dC (.int 61)) (t:=t1) (a:=cell) (b:=61) rfl rfl (by decide)
  rw [hn]at em
  have E2:=zt2 (k0:=za5 6) (b:=bdT1) em rfl (by lia)
  obtain⟨t2,E3,ps2,n2,u6,rfl,l2,o2⟩:=zbd8 (k:=za5 6) (b:=bdT1) (P:=PA N M (.val (.int (k:Int))) (.val (.int cell)) (61*c)) (C:=61) ((zc5 n).map D.int) 0 (fun d hd c' t' hc' h'=>by
   obtain⟨x,rfl,hx⟩:=zam4 hd
   exact turn_A m0 m1 hk (by lia) (by lia) h') (by rw [zi1];lia) t1 ⟨ps,_,_,rfl,by lia,hp⟩
  rw [zi1]at l2
  exact⟨_,rfl,(zt8 cnd (decide_eq_true z)).trans ((za9 E1).trans (E2.trans E3)),ps2,_,_,_,_,rfl,by lia,o2⟩
 ·obtain⟨m,_,_,em⟩:=zq2 (r1:=.cl (.int cell)) (r2:=.cl (.int (k:Int))) cell (k:=(k:Int)) (by lia) (by lia) rfl rfl
  have e1:(dT1 (zc9 zd9) (za2 (dVar 4) (za2 (dVar 3) dNil))) t=some (.cl (.int m)):=(zj0 (rfl:dVar 4 t=some (.cl (.int cell))) (rfl:dVar 3 t=some (.cl (.int (k:Int))))).trans em
  have q:=fm (a:=m) (b:=6) (by decide)
  obtain⟨n,hn⟩:∃n:Nat,1+m.fmod 6=(n:Int):=⟨(1+m.fmod 6).toNat,by lia⟩
  have e2:=zi0 (fa:=dC (.int 1)) (t:=t) (a:=1) rfl (zf2 e1 (rfl:dC (.int 6) t=some (.cl (.int 6))) (by decide))
  rw [hn]at e2
  have E2:=zt2 (k0:=za5 6) (b:=bdT2) e2 rfl (by lia)
  obtain⟨t2,E3,ps2,u6,rfl,l2,o2⟩:=zbd8 (k:=za5 6) (b:=bdT2) (P:=PB N M (.val (.int (k:Int))) (.val (.int cell)) s5 (61*c)) (C:=61) ((zc5 n).map D.int) 0 (fun d hd c' t' hc' h'=>by
   obtain⟨x,rfl,hx⟩:=zam4 hd
   exact turn_B m0 m1 hk (by lia) (by lia) h') (by rw [zi1];lia) t ⟨ps,_,rfl,by lia,hp⟩
  rw [zi1]at l2
  exact⟨_,rfl,(ifs_f cnd (decide_eq_false z)).trans (E2.trans E3),ps2,_,_,_,_,rfl,by lia,o2⟩
def tD (u:Nat×Nat):D:=pD ((u.1:Int),(u.2:Int))
theorem to_tD {M:Nat}:∀ps:List (Int×Int),OkP (M:Int) ps→∃us:List (Nat×Nat),us.length=ps.length∧(∀u∈us,u.1<u.2∧u.2<M)∧ps.map pD=us.map tD
 |[],_=>⟨[],rfl,(fun u hu=>nomatch hu),rfl⟩
 |p::ps,h=>by
  obtain⟨us,l,o,e⟩:=to_tD ps fun q hq=>h q (zbi6 _ hq)
  obtain⟨h0,h1,h2⟩:=h p (zbi9 ..)
  obtain⟨a,b⟩:=p
  simp only at h0 h1 h2
  obtain⟨x,rfl⟩:=zbw2 h0
  obtain⟨y,rfl⟩:=zbw2 (show 0≤b by lia)
  refine⟨(x,y)::us,by simp [l],fun u hu=>?_,by rw [zbk5,zbk5,e];rfl⟩
  rcases zbj4.mp hu with rfl | z
  ·exact⟨by simpa using h1,by simpa using h2⟩
  ·exact o u z
theorem pairs_le {M:Nat}{ps:List (Int×Int)} (h:OkN (M:Int) ps) (hM:M≤9):ps.length≤36:=by
 have nd:(ps.map fun q=>q.1*9+q.2).Nodup:=by
  unfold List.Nodup
  rw [zbz2]
  refine List.Pairwise.imp_of_mem (fun {a b} ha hb n e=>n ?_) h.2
  have h1:=h.1 a ha
  have h2:=h.1 b hb
  exact Prod.ext (by lia) (by lia)
 have:=zw2 nd (C:=(zc5 81).filter fun c=>decide (c / 9<c % 9)) fun c hc=>by
  obtain⟨q,hq,rfl⟩:=zbm9.mp hc
  have h1:=h.1 q hq
  exact zbo2.mpr ⟨zk9 (by lia) (by lia),decide_eq_true (by lia)⟩
 rw [zbk3]at this
 exact zbn6 this (by decide +kernel)
theorem ties_is (ns:List Int) (hl:ns.length≤63) (hb:∀n∈ns,n.natAbs<bndS) {M:Nat} (m0:0<M) (m1:M≤9):∃us:List (Nat×Nat),us.length≤400∧(∀u∈us,u.1<u.2∧u.2<M)∧zi2 [.lst (ns.map D.int),.int (M:Int)]=some (.nw (us.map tD)):=by
 let N:Sl:=.val (.lst (ns.map D.int))
 have m0':(0:Int)<(M:Int):=by lia
 have m1':(M:Int)≤1000:=by lia
 obtain⟨cs,lc,ec⟩:∃cs:List Int,cs.length≤63∧(dSl (dC (.int 3)) (dC (.int 62)) (dVar 0)) [N,.val (.int (M:Int)),.dp (.pdc []),.no,.no,.no,.no]=some (.nw (cs.map D.int)):=by
  refine⟨(ns.drop (HT.sIx ns.length 0 (some 3))).take (HT.sIx ns.length ns.length (some 62) - HT.sIx ns.length 0 (some 3)),by rw [zbr9,zbw4];lia,?_⟩
  simp [N,dSl,dC,dVar,Ev.d,Ev.ok,zby6,List.map_drop]
 obtain⟨t2,E3,ps,s3,s4,s5,s6,rfl,l2,o2⟩:=zbd8 (k:=(zf4 2 (zb2 (za5 3) (zb2 (za5 4) zg0)))) (b:=bdT) (P:=PT N (M:Int)) (C:=100) (zo9 0 (cs.map D.int)) 0 (fun d hd c' t' hc' h'=>by
   obtain⟨j,c,rfl,hj⟩:=zar8 cs 0 d hd
   exact turn_T ns hb m0' m1' (by lia) hc' h') (by rw [zi8,zbk3];lia) [N,.val (.int (M:Int)),.dp (.pdc []),.no,.no,.no,.no] ⟨[],_,_,_,_,rfl,by simp,(fun q hq=>nomatch hq),zbo5⟩
 rw [zi8,zbk3]at l2
 have E2:(zbf3 (zf4 2 (zb2 (za5 3) (zb2 (za5 4) zg0))) (dSl (dC (.int 3)) (dC (.int 62)) (dVar 0)) bdT) [N,.val (.int (M:Int)),.dp (.pdc []),.no,.no,.no,.no]=some (.nx [N,.val (.int (M:Int)),.dp (.pdc ps),s3,s4,s5,s6]):=by
  unfold zbf3
  rw [ec]
  exact E3
 have es:(dT1 zx6 (za2 (dVar 2) dNil)) [N,.val (.int (M:Int)),.dp (.pdc ps),s3,s4,s5,s6]=some (.nw ((TS.sortP ps).map pD)):=by
  rw [zs9 (ra:=.tm (.pdc ps)) rfl]
  unfold zx6
  simp only [Ev.d]
  rw [if_pos ⟨by have:=pairs_le o2 m1;lia,zbm6.mpr fun q hq=>by have:=o2.1 q hq;exact decide_eq_true (by lia)⟩]
  rfl
 have E4:=slu_pD (fb:=dC (.int 400)) (n:=400) es rfl rfl
 obtain⟨us,ul,uo,ue⟩:=to_tD (M:=M) ((TS.sortP ps).take 400) fun q hq=>o2.1 q ((TS.sortP_perm ps).mem_iff.mp (zbt7 hq))
 refine⟨us,by rw [ul,zbr9];lia,uo,?_⟩
 rw [← ue]
 show (zp9 [N,.val (.int (M:Int)),.no,.no,.no,.no,.no]).bind zi7=_
 unfold zp9
 exact bnd ((za9 (t':=[N,.val (.int (M:Int)),.dp (.pdc []),.no,.no,.no,.no]) rfl).trans ((za9 E2).trans (zn8 E4)))
theorem web_is (ns:List Int) (hl:ns.length≤63) (hb:∀n∈ns,n.natAbs<bndS) {most:Nat} (m0:0<most) (m1:most≤9):∃(M:Nat) (us:List (Nat×Nat)),0<M∧M≤most∧us.length≤400∧(∀u∈us,u.1<u.2∧u.2<M)∧zm4 [.lst (ns.map D.int),.int (most:Int)]=some (.cl (.tup [.int (M:Int),.lst (us.map tD)])):=by
 let N:Sl:=.val (.lst (ns.map D.int))
 obtain⟨v0,_,e0⟩:=zq1 ns hb 0 [.val (.int (most:Int)),.no]
 have e1:=zi0 (fa:=dC (.int 1)) (t:=[N,.val (.int (most:Int)),.no]) (a:=1) rfl (zf2 (zk3 e0 (fb:=dC (.int 2)) rfl (by decide) (ze9 (by decide) (by decide))) (fb:=dVar 1) (b:=(most:Int)) rfl (by lia))
 have q:=fm (a:=v0.fdiv 2) (b:=(most:Int)) (by lia)
 obtain⟨M,hM⟩:∃M:Nat,1+(v0.fdiv 2).fmod (most:Int)=(M:Int):=⟨(1+(v0.fdiv 2).fmod (most:Int)).toNat,by lia⟩
 rw [hM]at e1
 obtain⟨us,ul,uo,ue⟩:=ties_is ns hl hb (M:=M) (by lia) (by lia)
 refine⟨M,us,by lia,by lia,ul,uo,?_⟩
 have E1:=ze4 (i:=2) e1 (by simp)
 let t:Th:=[N,.val (.int (most:Int)),.val (.int (M:Int))]
 have et:(dT1 (zc9 zi2) (za2 (dVar 0) (za2 (dVar 2) dNil))) t=some (.nw (us.map tD)):=by
  rw [zj0 (ra:=.cl (.lst (ns.map D.int))) (rb:=.cl (.int (M:Int))) rfl rfl]
  unfold zc9
  rw [show zi2 ([Ev.cl (.lst (ns.map D.int)),.cl (.int (M:Int))].map Ev.d)=_ from ue]
  rfl
 have E2:(dT1 kTup (za2 (dVar 2) (za2 (dT1 (zc9 zi2) (za2 (dVar 0) (za2 (dVar 2) dNil))) dNil))) t=some (.cl (.tup [.int (M:Int),.lst (us.map tD)])):=(zj0 (rfl:dVar 2 t=some (.cl (.int (M:Int)))) et).trans rfl
 show (zy7 [N,.val (.int (most:Int)),.no]).bind zi7=_
 exact bnd ((za9 E1).trans (zn8 E2))
noncomputable def PW (N:Sl) (M:Int) (c:Nat) (t:Th):Prop := ∃(xs:List Int) (n:Int) (s4 s5:Sl),t=[N,.val (.int M),.own (xs.map D.int),.val (.int n),s4,s5]∧xs.length=c∧∀x∈xs,0≤x∧x≤1000000000000
theorem getM {L:List Int}{k:Nat} (h:k<L.length):L.getD k 0∈L:=by
 rw [zbl1,zbj6 h]
 exact zbn9 h
theorem zay0 {xs:List Int}{x:Int} (h:∀x∈xs,0≤x∧x≤1000000000000) (hx:0≤x∧x≤1000000000000):∀y∈xs++[x],0≤y∧y≤1000000000000:=fun y hy=>by
 rcases zbj2.mp hy with w | w
 ·exact h y w
 ·rw [zbl4]at w;subst w;exact hx
theorem turn_W (ns:List Int) (hb:∀n∈ns,n.natAbs<bndS) {M:Int}{k:Nat} (hk:k<1000) {c:Nat} (hc:c<1000) {t:Th} (h:PW (.val (.lst (ns.map D.int))) M c t):∃t1 t2,za5 4 (.int (k:Int)) t=some t1∧bdW t1=some (.nx t2)∧PW (.val (.lst (ns.map D.int))) M (c+1) t2:=by
 obtain⟨xs,n,s4,s5,rfl,hl,hx⟩:=h
 let N:Sl:=.val (.lst (ns.map D.int))
 let t:Th:=[N,.val (.int M),.own (xs.map D.int),.val (.int n),.val (.int (k:Int)),s5]
 refine⟨t,?_⟩
 obtain⟨v0,_,e0⟩:=zq1 ns hb 0 [.val (.int M),.own (xs.map D.int),.val (.int n),.val (.int (k:Int)),s5]
 have cnd:=zl7 (zs6 (zf2 e0 (fb:=dC (.int 2)) rfl (by decide)) (fb:=dC (.int 0)) rfl) (gt_of (fa:=dVar 3) (fb:=dC (.int 0)) (t:=t) (a:=n) (b:=0) rfl rfl)
 have ep:∀t:Th,(d2 qA (d2 qP (dC (.int 10)) (dC (.int 12))) (dC (.int 1))) t=some (.cl (.int 1000000000001)):=fun t=>zi0 (pow12 t) (rfl:dC (.int 1) t=some (.cl (.int 1)))
 unfold bdW
 by_cases z:(decide (v0.fmod 2=0)&&decide (0<n))=true
 ·have q:=fm (a:=n) (b:=1000000000001) (by decide)
  have E1:=zu1 (i:=2) t (xs:=xs) (zf2 (fa:=dVar 3) (t:=t) (a:=n) rfl (ep t) (by decide)) rfl (by lia)
  have E2:=ze4 (i:=3) (t:=[N,.val (.int M),.own ((xs++[n.fmod 1000000000001]).map D.int),.val (.int n),.val (.int (k:Int)),s5]) (zk3 (fa:=dVar 3) (a:=n) rfl (ep _) (by decide) (ze9 (by decide) (by decide))) (by simp)
  exact⟨_,rfl,(zt8 cnd z).trans ((za9 E1).trans E2),_,_,_,_,rfl,by simp [hl],zay0 hx ⟨q.1,by lia⟩⟩
 ·obtain⟨v1,_,e1⟩:=zq1 ns hb 1 [.val (.int M),.own (xs.map D.int),.val (.int n),.val (.int (k:Int)),s5]
  obtain⟨m,g0,g1,em⟩:=zq2 (r1:=.cl (.int v1)) (r2:=.cl (.int (500+(k:Int)))) v1 (k:=500+(k:Int)) (by lia) (by lia) rfl rfl
  have e2:=(zj0 e1 (zi0 (fa:=dC (.int 500)) (fb:=dVar 4) (t:=t) (a:=500) (b:=(k:Int)) rfl rfl)).trans em
  have E1:=ze4 (i:=5) e2 (by simp)
  let t1:Th:=[N,.val (.int M),.own (xs.map D.int),.val (.int n),.val (.int (k:Int)),.val (.int m)]
  have d4:=zk3 (fa:=dVar 5) (fb:=dC (.int 4)) (t:=t1) (a:=m) (b:=4) rfl rfl (by decide) (ze9 (by decide) (by decide))
  have a1:=zf2 d4 (fb:=dC (.int 10)) (b:=10) rfl (by decide)
  have a2:=zf2 d4 (fb:=dC (.int 100)) (b:=100) rfl (by decide)
  have a3:=zf2 (zo3 (fa:=dVar 5) (fb:=dC (.int 29803)) (t:=t1) (a:=m) (b:=29803) rfl rfl (ze9 (by lia) (by lia)) (ze9 (by decide) (by decide))) (ep t1) (by decide)
  have el:=(tk1 (k:=kLst) (cns (rfl:dC (.int 0) t1=some (.cl (.int 0))) (cns (rfl:dC (.int 1) t1=some (.cl (.int 1))) (cns (rfl:dC (.int 2) t1=some (.cl (.int 2))) (cns a1 (cns a2 (cns a3 (rfl:dNil t1=some []))))))))
  have q:=fm (a:=m) (b:=6) (by decide)
  obtain⟨r,hr⟩:∃r:Nat,m.fmod 6=(r:Int):=⟨(m.fmod 6).toNat,by lia⟩
  have ei:=zf2 (fa:=dVar 5) (fb:=dC (.int 6)) (t:=t1) (a:=m) (b:=6) rfl rfl (by decide)
  rw [hr]at ei
  have ex:=zl0 [0,1,2,(m.fdiv 4).fmod 10,(m.fdiv 4).fmod 100,(m*29803).fmod 1000000000001] r (r1:=.nw ([0,1,2,(m.fdiv 4).fmod 10,(m.fdiv 4).fmod 100,(m*29803).fmod 1000000000001].map D.int)) el ei (by simp;lia) rfl rfl
  have E2:=zu1 (i:=2) t1 (xs:=xs) ex rfl (by lia)
  have w1:=fm (a:=m.fdiv 4) (b:=10) (by decide)
  have w2:=fm (a:=m.fdiv 4) (b:=100) (by decide)
  have w3:=fm (a:=m*29803) (b:=1000000000001) (by decide)
  have wm:∀y∈[0,1,2,(m.fdiv 4).fmod 10,(m.fdiv 4).fmod 100,(m*29803).fmod 1000000000001],0≤y∧y≤1000000000000:=by
   intro y hy
   simp only [zbj4,zbm7,or_false]at hy
   lia
  have wg:=wm _ (getM (L:=[0,1,2,(m.fdiv 4).fmod 10,(m.fdiv 4).fmod 100,(m*29803).fmod 1000000000001]) (k:=r) (by simp;lia))
  exact⟨_,rfl,(ifs_f cnd (by simpa using z)).trans ((za9 E1).trans E2),_,_,_,_,rfl,by simp [hl],zay0 hx wg⟩
theorem zas9 (ns:List Int) (hb:∀n∈ns,n.natAbs<bndS) {M:Nat} (m1:M≤1000):∃ws:List Int,ws.length=M∧(∀x∈ws,0≤x∧x≤1000000000000)∧zh4 [.lst (ns.map D.int),.int (M:Int)]=some (.nw (ws.map D.int)):=by
 let N:Sl:=.val (.lst (ns.map D.int))
 obtain⟨v1,_,e1⟩:=zq1 ns hb 1 [.val (.int (M:Int)),.own (([]:List Int).map D.int),.no,.no,.no]
 have E1:=ze4 (i:=3) e1 (by simp)
 obtain⟨t2,E3,xs,n,s4,s5,rfl,hl,hx⟩:=zbd8 (k:=za5 4) (b:=bdW) (P:=PW N (M:Int)) (C:=1000) ((zc5 M).map D.int) 0 (fun d hd c' t' hc' h'=>by
   obtain⟨x,rfl,hx⟩:=zam4 hd
   exact turn_W ns hb (by lia) hc' h') (by rw [zi1];lia) [N,.val (.int (M:Int)),.own (([]:List Int).map D.int),.val (.int v1),.no,.no] ⟨[],_,_,_,rfl,rfl,(fun q hq=>nomatch hq)⟩
 rw [zi1]at hl
 have E2:=zt2 (k0:=za5 4) (b:=bdW) (t:=[N,.val (.int (M:Int)),.own (([]:List Int).map D.int),.val (.int v1),.no,.no]) (f:=dVar 1) (r:=.cl (.int (M:Int))) (n:=M) rfl rfl (by lia)
 refine⟨xs,by lia,hx,?_⟩
 show (zj9 [N,.val (.int (M:Int)),.no,.no,.no,.no]).bind zi7=_
 unfold zj9
 exact bnd ((za9 (t':=[N,.val (.int (M:Int)),.own (([]:List Int).map D.int),.no,.no,.no]) rfl).trans ((za9 E1).trans ((za9 (E2.trans E3)).trans rfl)))
end KX
set_option maxHeartbeats 1000000
namespace KX
open PySem.Spec L2 DL
def tcU (u:Nat×Nat) (p:Nat):Bool:=decide (u.1=p)||decide (u.2=p)
def tO (p:Nat):List (Nat×Nat)→Nat→List Int
 |[],_=>[]
 |u::l,i=>if tcU u p then (i:Int)::tO p l (i+1) else tO p l (i+1)
theorem tO_len (p:Nat):∀(l:List (Nat×Nat)) (i:Nat),(tO p l i).length≤l.length
 |[],_=>zbk1 _
 |u::l,i=>by
  have:=tO_len p l (i+1)
  unfold tO
  split<;>simp<;>lia
def ftT:DT:=(dBo (d2 kIn (dVar 2) (dVar 1)))
theorem zaj3 {p:Nat}:∀(l:List (Nat×Nat)) (i:Nat) (s0 s1:Sl),zd5 ktT ftT (dVar 0) (zo9 i (l.map tD)) [s0,s1,.val (.int (p:Int))]=some ((tO p l i).map D.int)
 |[],i,s0,s1=>rfl
 |u::l,i,s0,s1=>by
  have e0:ktT (.tup [.int (i:Int),tD u]) [s0,s1,.val (.int (p:Int))]=some [.val (.int (i:Int)),.val (tD u),.val (.int (p:Int))]:=rfl
  have e1:ftT [.val (.int (i:Int)),.val (tD u),.val (.int (p:Int))]=some (tcU u p):=by
   have et:tcU u p=(decide ((u.1:Int)=(p:Int))||decide ((u.2:Int)=(p:Int))):=by
    unfold tcU
    rw [decide_eq_decide.mpr (by lia:u.1=p↔(u.1:Int)=(p:Int)),decide_eq_decide.mpr (by lia:u.2=p↔(u.2:Int)=(p:Int))]
   rw [et]
   unfold ftT dBo
   rw [zg3 (rfl:dVar 2 _=some (.cl (.int (p:Int)))) (rfl:dVar 1 _=some (.cl (tD u)))]
   simp only [kIn,Ev.d,tD,pD]
   generalize (p:Int)=q
   generalize (u.1:Int)=a
   generalize (u.2:Int)=b
   simp [scD,eqOk,eqD]
  have ih:=zaj3 (p:=p) l (i+1) (.val (.int (i:Int))) (.val (tD u))
  simp only [zbk5,zo9,zd5,e0,zbj1,e1]
  show _=some ((if tcU u p then (i:Int)::tO p l (i+1) else tO p l (i+1)).map D.int)
  cases c:tcU u p with
  |true=>rw [if_pos rfl,ih];rfl
  |false=>rw [if_neg (by decide),ih];rfl
theorem zaa8 {M:Int}{us:List (Nat×Nat)} (hl:us.length≤50000) (p:Nat):zf3 [.tup [.int M,.lst (us.map tD)],.int (p:Int)]=some (.nw ((tO p us 0).map D.int)):=by
 have e2:=zaj3 (p:=p) us 0 .no .no
 show (zy6 [.val (.tup [.int M,.lst (us.map tD)]),.val (.int (p:Int))]).bind zi7=_
 refine bnd (zn8 ?_)
 unfold zd8
 have e1:fsE (d2 kIx (dVar 0) (dC (.int 1))) [.val (.tup [.int M,.lst (us.map tD)]),.val (.int (p:Int))]=some (true,zo9 0 (us.map tD)):=rfl
 have ec:capD [.val (.tup [.int M,.lst (us.map tD)]),.val (.int (p:Int))] [1]=some (true,[.int (p:Int)]):=rfl
 rw [e1,ec]
 simp only [zbj1]
 rw [if_pos (by rw [zi8,zbk3];exact hl)]
 show (zd5 ktT ftT (dVar 0) (zo9 0 (us.map tD)) [.no,.no,.val (.int (p:Int))]).bind _=_
 rw [e2]
 rfl
theorem dn_asg {t:Th}{f:DE}{i:Nat}{d:D} (h:f t=some (.dn d)) (hi:i<t.length):dAsg i f t=some (.nx (t.set i (.dp d))):=by
 unfold dAsg
 rw [h]
 show (zr1 t i (.dn d)).map Out.nx=_
 unfold zr1
 rw [if_pos hi]
 rfl
theorem zu6 {fa fb:DE}{t:Th}{r1 r2:Ev} (L:List Int) (b:Int) (ha:fa t=some r1) (hb:fb t=some r2) (h0:0≤b) (h:b<(L.length:Int)) (h1:r1.d=.lst (L.map D.int)) (h2:r2.d=.int b):(d2 kIx fa fb) t=some (.cl (.int (L.getD b.toNat 0))) :=
 zl0 L b.toNat ha hb (by lia) h1 (by rw [h2,zbq2 h0])
theorem zao1:∀bs:List Bool,blsD (bs.map D.bl)=some bs
 |[]=>rfl
 |b::bs=>by
  show (blsD (bs.map D.bl)).map (b::·)=_
  rw [zao1 bs]
  rfl
theorem zo8:∀bs:List Bool,zg9 (bs.map D.bl)=true
 |[]=>rfl
 |b::bs=>by
  show (flat (D.bl b)&&zg9 (bs.map D.bl))=true
  rw [zo8 bs]
  rfl
theorem zao3 {f:DE}{t:Th}{bs:List Bool} (h:f t=some (.nw (bs.map D.bl))):(dT1 qU (za2 f dNil)) t=some (.cl (.bl (bs.all id))):=by
 rw [zs9 h]
 (try unfold qU);unfold kBls
 simp only [Ev.d,zao1,zbn5]
theorem anyB_of {f:DE}{t:Th}{bs:List Bool} (h:f t=some (.nw (bs.map D.bl))):(dT1 (kBls fun bs=>bs.any id) (za2 f dNil)) t=some (.cl (.bl (bs.any id))):=by
 rw [zs9 h]
 (try unfold qU);unfold kBls
 simp only [Ev.d,zao1,zbn5]
theorem zz2 {fe:DE}{p:Int→Bool}{ext:Th}:∀(xs:List Int) (s:Sl),(∀x∈xs,fe (.val (.int x)::ext)=some (.cl (.bl (p x))))→zd5 (za5 0) ze5 fe (xs.map D.int) (s::ext)=some ((xs.map p).map D.bl)
 |[],s,_=>rfl
 |x::xs,s,h=>by
  have ih:=zz2 xs (.val (.int x)) fun y hy=>h y (zbi6 _ hy)
  show (fe (.val (.int x)::ext)).bind (fun r=>(zd5 (za5 0) ze5 fe (xs.map D.int) (.val (.int x)::ext)).map fun xs=>r.d::xs)=_
  rw [h x (zbi9 ..),ih]
  rfl
theorem comp_T {fe:DE}{p:Nat×Nat→Bool}{ext:Th}:∀(us:List (Nat×Nat)) (s s':Sl),(∀u∈us,fe (.val (.int (u.1:Int))::.val (.int (u.2:Int))::ext)=some (.cl (.bl (p u))))→zd5 (zf4 2 (zb2 (za5 0) (zb2 (za5 1) zg0))) ze5 fe (us.map tD) (s::s'::ext)=some ((us.map p).map D.bl)
 |[],s,s',_=>rfl
 |u::us,s,s',h=>by
  have ih:=comp_T us (.val (.int (u.1:Int))) (.val (.int (u.2:Int))) fun y hy=>h y (zbi6 _ hy)
  show (fe (.val (.int (u.1:Int))::.val (.int (u.2:Int))::ext)).bind (fun r=>(zd5 (zf4 2 (zb2 (za5 0) (zb2 (za5 1) zg0))) ze5 fe (us.map tD) (.val (.int (u.1:Int))::.val (.int (u.2:Int))::ext)).map fun xs=>r.d::xs)=_
  rw [h u (zbi9 ..),ih]
  rfl
theorem zbf9 {cap:List Nat}{f:DE}{fe:DE}{t:Th}{r:Ev}{xs:List Int}{p:Int→Bool}{b:Bool}{c:List D} (hf:f t=some r) (hr:r.d=.lst (xs.map D.int)) (hn:xs.length≤50000) (hc:capD t cap=some (b,c)) (he:∀x∈xs,fe (.val (.int x)::c.map Sl.val)=some (.cl (.bl (p x)))) :
  (zd8 1 cap (fsL f) (za5 0) ze5 fe) t=some (.nw ((xs.map p).map D.bl)):=by
 unfold zd8
 have e1:fsL f t=some (r.ok,xs.map D.int):=by
  unfold fsL
  rw [hf]
  simp only [zbj1,hr]
 rw [e1,hc]
 simp only [zbj1]
 rw [if_pos (by simpa using hn)]
 show (zd5 (za5 0) ze5 fe (xs.map D.int) (Sl.no::c.map Sl.val)).bind _=_
 rw [zz2 _ _ he]
 simp only [zbj1,zo8,zbn2,if_true]
theorem zbf7 {cap:List Nat}{f:DE}{fe:DE}{t:Th}{n:Nat}{p:Int→Bool}{b:Bool}{c:List D} (hf:f t=some (.cl (.int (n:Int)))) (hn:n≤50000) (hc:capD t cap=some (b,c)) (he:∀x∈zc5 n,fe (.val (.int x)::c.map Sl.val)=some (.cl (.bl (p x)))) :
  (zd8 1 cap (fsR1 f) (za5 0) ze5 fe) t=some (.nw (((zc5 n).map p).map D.bl)):=by
 unfold zd8
 rw [zap7 hf hn,hc]
 simp only [zbj1]
 rw [if_pos (by rw [zi1];exact hn)]
 show (zd5 (za5 0) ze5 fe ((zc5 n).map D.int) (Sl.no::c.map Sl.val)).bind _=_
 rw [zz2 _ _ he]
 simp only [zbj1,zo8,zbn2,if_true]
def rsB (M:Int):Int→List Int→Bool
 |a,[]=>decide (a<M)
 |a,c::cs=>decide (a<c)&&rsB M c cs
theorem comp_Z {M:Int}:∀(cs:List Int) (a:Int) (s s':Sl),∃bs:List Bool,zd5 (zf4 2 (zb2 (za5 0) (zb2 (za5 1) zg0))) ze5 (d2 qL (dVar 0) (dVar 1)) (zipD ((a::cs).map D.int) ((cs++[M]).map D.int)) [s,s']=some (bs.map D.bl)∧bs.all id=rsB M a cs
 |[],a,s,s'=>⟨[decide (a<M)],rfl,by simp [rsB]⟩
 |c::cs,a,s,s'=>by
  obtain⟨bs,e,h⟩:=comp_Z (M:=M) cs c (.val (.int a)) (.val (.int c))
  refine⟨decide (a<c)::bs,?_,by rw [zbo7,h];rfl⟩
  show (zd5 _ ze5 _ (zipD ((c::cs).map D.int) ((cs++[M]).map D.int)) [.val (.int a),.val (.int c)]).map _=_
  rw [e]
  rfl
theorem zaw3 (a:Int) (cs:List Int) (M:Int):(zipD ((a::cs).map D.int) ((cs++[M]).map D.int)).length≤cs.length+1:=by
 rw [zv3]
 simp
theorem rise_is {M:Int}{cs:List Int} (hl:cs.length≤1000):zi9 [.lst (cs.map D.int),.int M]=some (.cl (.bl (rsB M (-1) cs))):=by
 let t:Th:=[.val (.lst (cs.map D.int)),.val (.int M)]
 have c1:(d2 qA (dT1 kLst (za2 (d1 kNeg (dC (.int 1))) dNil)) (dVar 0)) t=some (.nw (((-1)::cs).map D.int)):=by
  rw [zg3 (rfl:(dT1 kLst (za2 (d1 kNeg (dC (.int 1))) dNil)) t=some (.nw [.int (-1)])) (rfl:dVar 0 t=some (.cl (.lst (cs.map D.int))))]
  show kCat (.nw [.int (-1)]) (.cl (.lst (cs.map D.int)))=_
  unfold kCat
  simp only [Ev.d,Ev.ok,zbt2,zbu2]
  rw [if_pos (decide_eq_true (by simp;lia))]
  rfl
 have c2:(d2 qA (dVar 0) (dT1 kLst (za2 (dVar 1) dNil))) t=some (.nw ((cs++[M]).map D.int)):=by
  rw [zg3 (rfl:dVar 0 t=some (.cl (.lst (cs.map D.int)))) (rfl:(dT1 kLst (za2 (dVar 1) dNil)) t=some (.nw [.int M]))]
  show kCat (.cl (.lst (cs.map D.int))) (.nw [.int M])=_
  unfold kCat
  simp only [Ev.d,Ev.ok,zbt2,zbu2]
  rw [if_pos (decide_eq_true (by simp;lia)),zbu6]
  rfl
 obtain⟨bs,e,h⟩:=comp_Z (M:=M) cs (-1) .no .no
 have c3:(zd8 2 [] (fsZ (d2 qA (dT1 kLst (za2 (d1 kNeg (dC (.int 1))) dNil)) (dVar 0)) (d2 qA (dVar 0) (dT1 kLst (za2 (dVar 1) dNil)))) (zf4 2 (zb2 (za5 0) (zb2 (za5 1) zg0))) ze5 (d2 qL (dVar 0) (dVar 1))) t=some (.nw (bs.map D.bl)):=by
  unfold zd8 fsZ
  rw [c1,c2]
  simp only [zbj1,Ev.d]
  show (if (zipD (((-1)::cs).map D.int) ((cs++[M]).map D.int)).length≤50000 then (zd5 _ ze5 _ (zipD (((-1)::cs).map D.int) ((cs++[M]).map D.int)) [.no,.no]).bind _ else none)=_
  rw [if_pos (by have:=zaw3 (-1) cs M;lia),e]
  simp only [zbj1,zo8,zbn2,if_true]
 show (zo7 t).bind zi7=_
 rw [← h]
 exact bnd (zn8 (zao3 c3))
def cvB (us:List (Nat×Nat)) (cs:List Int):Bool:=us.all fun u=>decide ((u.1:Int)∈cs)||decide ((u.2:Int)∈cs)
theorem zaw1 {G:List D→Option Ev}{rs:List Ev}{b:Bool} (h:G (rs.map Ev.d)=some (.cl (.bl b))):zc9 G rs=some (.cl (.bl b)):=callc h rfl
theorem cover_is {M:Nat}{us:List (Nat×Nat)}{cs:List Int} (hl:cs.length≤1000) (ul:us.length≤400):zm7 [.tup [.int (M:Int),.lst (us.map tD)],.lst (cs.map D.int)]=some (.cl (.bl (rsB (M:Int) (-1) cs&&cvB us cs))):=by
 let WD:D:=.tup [.int (M:Int),.lst (us.map tD)]
 let C:Sl:=.val (.lst (cs.map D.int))
 let t1:Th:=[.val WD,C,.val (.int (M:Int)),.val (.lst (us.map tD))]
 have E1:zan5 (zf4 2 (zb2 (za5 2) (zb2 (za5 3) zg0))) (dVar 0) [.val WD,C,.no,.no]=some (.nx t1):=rfl
 have c:=(zj0 (rfl:dVar 1 t1=some (.cl (.lst (cs.map D.int)))) (rfl:dVar 2 t1=some (.cl (.int (M:Int))))).trans (zaw1 (G:=zi9) (rs:=[.cl (.lst (cs.map D.int)),.cl (.int (M:Int))]) (rise_is hl))
 show (dSeq _ (dSeq _ _) [.val WD,C,.no,.no]).bind zi7=_
 cases z:rsB (M:Int) (-1) cs with
 |false =>
  rw [z]at c
  exact bnd ((za9 E1).trans (seq_rt (zbd6 (zab2 (zw0 c)) rfl)))
 |true =>
  rw [z]at c
  have c3:(zd8 2 [1] (fsL (dVar 3)) (zf4 2 (zb2 (za5 0) (zb2 (za5 1) zg0))) ze5 (dOrV (d2 kIn (dVar 0) (dVar 2)) (d2 kIn (dVar 1) (dVar 2)))) t1=some (.nw ((us.map fun u=>decide ((u.1:Int)∈cs)||decide ((u.2:Int)∈cs)).map D.bl)):=by
   unfold zd8
   have e1:fsL (dVar 3) t1=some (true,us.map tD):=rfl
   have ec:capD t1 [1]=some (true,[.lst (cs.map D.int)]):=rfl
   rw [e1,ec]
   simp only [zbj1]
   rw [if_pos (by rw [zbk3];lia)]
   show (zd5 _ ze5 _ (us.map tD) [Sl.no,Sl.no,.val (.lst (cs.map D.int))]).bind _=_
   rw [comp_T (p:=fun u=>decide ((u.1:Int)∈cs)||decide ((u.2:Int)∈cs)) us _ _ fun u _=>?_]
   ·simp only [zbj1,zo8,zbn2,if_true]
   ·let t:Th:=[.val (.int (u.1:Int)),.val (.int (u.2:Int)),.val (.lst (cs.map D.int))]
    have i1:(d2 kIn (dVar 0) (dVar 2)) t=some (.cl (.bl (decide ((u.1:Int)∈cs)))):=(zg3 (rfl:dVar 0 t=some (.cl (.int (u.1:Int)))) (rfl:dVar 2 t=some (.cl (.lst (cs.map D.int))))).trans (zan1 _ cs rfl rfl)
    have i2:(d2 kIn (dVar 1) (dVar 2)) t=some (.cl (.bl (decide ((u.2:Int)∈cs)))):=(zg3 (rfl:dVar 1 t=some (.cl (.int (u.2:Int)))) (rfl:dVar 2 t=some (.cl (.lst (cs.map D.int))))).trans (zan1 _ cs rfl rfl)
    show dOrV _ _ t=_
    unfold dOrV
    rw [i1]
    simp only [zbj1,Ev.d]
    cases decide ((u.1:Int)∈cs)
    ·rw [if_neg (by decide),i2];rfl
    ·rfl
  have e:=bnd ((za9 E1).trans ((za9 (grd (g:=dRet (dC (.bl false))) (zab2 (zw0 c)) rfl)).trans (zn8 (zao3 c3))))
  refine e.trans ?_
  rw [List.all_map]
  rfl
def ld (p:Nat):List (Nat×Nat)→List Int→Int
 |[],_=>0
 |_::_,[]=>0
 |u::us,x::xs=>(if tcU u p then x else 0)+ld p us xs
theorem zba8 (p:Nat):∀(us:List (Nat×Nat)) (pre ps:List Int),ps.length=us.length→((tO p us pre.length).map fun a=>(pre++ps).getD a.toNat 0).sum=ld p us ps
 |[],_,_,_=>rfl
 |u::us,pre,[],h=>by simp at h
 |u::us,pre,x::ps,h=>by
  have ih:=zba8 p us (pre++[x]) ps (by simpa using h)
  rw [zbm4,zbq7,zbr4]at ih
  have e:(pre++x::ps).getD pre.length 0=x:=by simp [zbl1]
  show ((if tcU u p then (pre.length:Int)::tO p us (pre.length+1) else tO p us (pre.length+1)).map _).sum=(if tcU u p then x else 0)+ld p us ps
  cases tcU u p
  ·rw [if_neg (by decide),if_neg (by decide)]
   have ih:((tO p us (pre.length+1)).map fun a=>(pre++x::ps).getD a.toNat 0).sum=ld p us ps:=ih
   lia
  ·rw [if_pos rfl,if_pos rfl,zbk5,zbu3,zbl5,e]
   have ih:((tO p us (pre.length+1)).map fun a=>(pre++x::ps).getD a.toNat 0).sum=ld p us ps:=ih
   lia
theorem tO_lt (p:Nat):∀(us:List (Nat×Nat)) (i:Nat),∀a∈tO p us i,(i:Int)≤a∧a<(i:Int)+us.length
 |[],i,a,h=>by cases h
 |u::us,i,a,h=>by
  have ih:=tO_lt p us (i+1) a
  rw [zbm5]
  have h:a∈(if tcU u p then (i:Int)::tO p us (i+1) else tO p us (i+1)):=h
  split at h
  ·rcases zbj4.mp h with z | z
   ·lia
   ·have:=ih z;lia
  ·have:=ih h;lia
noncomputable def pyB (M:Nat) (us:List (Nat×Nat)) (ws ps:List Int):Bool:=decide (ps.length=us.length)&&(!(ps.any fun x=>decide (x<0))&&(zc5 M).all fun x=>decide (ld x.toNat us ps≤ws.getD x.toNat 0))
theorem zbc3 {t:Th}{f:DE}{r:Ev}{us:List (Nat×Nat)} (h:f t=some r) (hr:r.d=.lst (us.map tD)):(dT1 kLen (za2 f dNil)) t=some (.cl (.int (us.length:Int))):=by
 rw [zs9 h]
 unfold kLen
 simp only [hr,zbk3]
theorem pay_is {M:Nat}{us:List (Nat×Nat)}{ws ps:List Int} (hM:M≤1000) (hw:ws.length=M) (hl:ps.length≤1000) (ul:us.length≤400):zh5 [.tup [.int (M:Int),.lst (us.map tD)],.lst (ws.map D.int),.lst (ps.map D.int)]=some (.cl (.bl (pyB M us ws ps))):=by
 let WD:D:=.tup [.int (M:Int),.lst (us.map tD)]
 let W:Sl:=.val (.lst (ws.map D.int))
 let P:Sl:=.val (.lst (ps.map D.int))
 let t1:Th:=[.val WD,W,P,.val (.int (M:Int)),.val (.lst (us.map tD)),.no]
 have E1:zan5 (zf4 2 (zb2 (za5 3) (zb2 (za5 4) zg0))) (dVar 0) [.val WD,W,P,.no,.no,.no]=some (.nx t1):=rfl
 have c1:=neI_of (zar3 (f:=dVar 2) (t:=t1) (r:=.cl (.lst (ps.map D.int))) (xs:=ps) rfl rfl) (zbc3 (f:=dVar 4) (t:=t1) (r:=.cl (.lst (us.map tD))) (us:=us) rfl rfl)
 have c2:=zw0 (anyB_of (zbf9 (cap:=[]) (f:=dVar 2) (t:=t1) (fe:=d2 qL (dVar 0) (dC (.int 0))) (r:=.cl (.lst (ps.map D.int))) (xs:=ps) (p:=fun x=>decide (x<0)) (b:=true) (c:=[]) rfl rfl (by lia) rfl fun x _=>rfl))
 have c3:=zah5 c1 c2
 rw [List.any_map]at c3
 show (dSeq _ (dSeq _ _) [.val WD,W,P,.no,.no,.no]).bind zi7=_
 unfold pyB
 by_cases z1:ps.length=us.length
 ·by_cases z2:(ps.any fun x=>decide (x<0))=true
  ·rw [decide_eq_true z1,z2]
   have c3:_=some (_||(ps.any fun x=>decide (x<0))):=c3
   rw [z2,zbn2]at c3
   exact bnd ((za9 E1).trans (seq_rt (zbd6 c3 rfl)))
  ·have z2:(ps.any fun x=>decide (x<0))=false:=by simpa using z2
   have c3:_=some (_||(ps.any fun x=>decide (x<0))):=c3
   rw [z2,decide_eq_true (by lia:(ps.length:Int)=(us.length:Int))]at c3
   have E2:=grd (g:=dRet (dC (.bl false))) c3 rfl
   rw [decide_eq_true z1,z2]
   have c4:(zd8 1 [2,0] (fsR1 (dVar 3)) (za5 0) ze5 (dT1 kSum (za2 (zd8 1 [1] (fsL (dT1 (zc9 zf3) (za2 (dVar 2) (za2 (dVar 0) dNil)))) (za5 0) ze5 (d2 kIx (dVar 1) (dVar 0))) dNil))) t1=some (.nw (((zc5 M).map fun x=>ld x.toNat us ps).map D.int)) :=
    zbf6 (cap:=[2,0]) (n:=M) (b:=true) (c:=[.lst (ps.map D.int),WD]) rfl (by lia) rfl (fun x hx=>by
     have hx:=zn3 hx
     let t:Th:=[.val (.int x),P,.val WD]
     have k1:(dT1 (zc9 zf3) (za2 (dVar 2) (za2 (dVar 0) dNil))) t=some (.nw ((tO x.toNat us 0).map D.int)):=by
      rw [zj0 (rfl:dVar 2 t=some (.cl WD)) (rfl:dVar 0 t=some (.cl (.int x)))]
      refine calln (G:=zf3) (rs:=[.cl WD,.cl (.int x)]) ?_
      have:=zaa8 (M:=(M:Int)) (us:=us) (by lia) x.toNat
      rw [zbq2 hx.1]at this
      exact this
     have k2:=zaf9 (zaf0 (cap:=[1]) (t:=t) (fe:=d2 kIx (dVar 1) (dVar 0)) (xs:=tO x.toNat us 0) (g:=fun a=>ps.getD a.toNat 0) (b:=true) (c:=[.lst (ps.map D.int)]) k1 rfl (by have:=tO_len x.toNat us 0;lia) rfl (fun a ha=>by
      have:=tO_lt x.toNat us 0 a ha
      exact zu6 (r1:=.cl (.lst (ps.map D.int))) (r2:=.cl (.int a)) ps a rfl rfl (by lia) (by lia) rfl rfl)) rfl
     have pi:=zba8 x.toNat us [] ps z1
     have pi:((tO x.toNat us 0).map fun a=>ps.getD a.toNat 0).sum=ld x.toNat us ps:=pi
     rw [pi]at k2
     exact k2)
   have E3:=zs8 (i:=5) c4 (by simp [t1])
   let pd:=(zc5 M).map fun x=>ld x.toNat us ps
   let t2:Th:=[.val WD,W,P,.val (.int (M:Int)),.val (.lst (us.map tD)),.own (pd.map D.int)]
   have pl:pd.length=M:=by simp [pd,zg2]
   have c5:=zbf7 (cap:=[5,1]) (f:=dVar 3) (t:=t2) (n:=M) (fe:=d2 qE (d2 kIx (dVar 1) (dVar 0)) (d2 kIx (dVar 2) (dVar 0))) (p:=fun x=>decide (ld x.toNat us ps≤ws.getD x.toNat 0)) (b:=false) (c:=[.lst (pd.map D.int),.lst (ws.map D.int)]) rfl (by lia) rfl (fun x hx=>by
    have hx:=zn3 hx
    let t:Th:=[.val (.int x),.val (.lst (pd.map D.int)),.val (.lst (ws.map D.int))]
    have k1:=zu6 (fa:=dVar 1) (fb:=dVar 0) (t:=t) (r1:=.cl (.lst (pd.map D.int))) (r2:=.cl (.int x)) pd x rfl rfl (by lia) (by lia) rfl rfl
    have k2:=zu6 (fa:=dVar 2) (fb:=dVar 0) (t:=t) (r1:=.cl (.lst (ws.map D.int))) (r2:=.cl (.int x)) ws x rfl rfl (by lia) (by lia) rfl rfl
    have e:pd.getD x.toNat 0=ld x.toNat us ps:=by
     show ((zc5 M).map fun x=>ld x.toNat us ps).getD x.toNat 0=_
     rw [zbl1,zbn4]
     have:(zc5 M)[x.toNat]?=some x:=by
      unfold zc5
      rw [zbn4,zbx8 (by lia)]
      show some ((x.toNat:Int))=_
      rw [zbq2 hx.1]
     rw [this]
     rfl
    rw [e]at k1
    exact (zg3 k1 k2).trans rfl)
   have fin:=bnd ((za9 E1).trans ((za9 E2).trans ((za9 E3).trans (zn8 (zao3 c5)))))
   refine fin.trans ?_
   rw [List.all_map]
   rfl
 ·rw [decide_eq_false z1]
  rw [decide_eq_false (by lia : ¬ (ps.length:Int)=(us.length:Int))]at c3
  exact bnd ((za9 E1).trans (seq_rt (zbd6 c3 rfl)))
noncomputable def lcB (M:Nat) (us:List (Nat×Nat)) (ws cs ps:List Int):Bool:=(rsB (M:Int) (-1) cs&&cvB us cs)&&(pyB M us ws ps&&decide ((cs.map fun p=>ws.getD p.toNat 0).sum≤2*ps.sum))
theorem zay6 {M:Int}:∀(cs:List Int) (a:Int),rsB M a cs=true→a<M∧∀c∈cs,a<c∧c<M
 |[],a,h=>⟨by simpa [rsB] using h,fun c hc=>nomatch hc⟩
 |c::cs,a,h=>by
  simp only [rsB,zbj3,decide_eq_true_eq]at h
  obtain⟨h1,h2⟩:=zay6 cs c h.2
  refine⟨by lia,fun d hd=>?_⟩
  rcases zbj4.mp hd with z | z
  ·lia
  ·have:=h2 d z;lia
theorem sum_bd {B:Int} (hB:0≤B):∀ {ps:List Int},(∀x∈ps, -B≤x∧x≤B) → -(ps.length*B)≤ps.sum∧ps.sum≤ps.length*B
 |[],_=>by simp
 |x::ps,h=>by
  have ih:=sum_bd hB (ps:=ps) fun y hy=>h y (zbi6 _ hy)
  have hx:=h x (zbi9 ..)
  rw [zbu3,zbm5]
  have:((ps.length+1:Nat):Int)*B=ps.length*B+B:=by rw [Int.natCast_add,Int.add_mul];simp
  lia
def bdP (ps:List Int):Prop := ∀x∈ps, -100000000000000000000000000000000≤x∧x≤100000000000000000000000000000000
theorem two_sum {f:DE}{t:Th}{r:Ev}{ps:List Int} (hl:ps.length≤1000) (hb:bdP ps) (h:f t=some r) (hr:r.d=.lst (ps.map D.int)):(d2 qM (dC (.int 2)) (dT1 kSum (za2 f dNil))) t=some (.cl (.int (2*ps.sum))):=by
 have b:=sum_bd (by decide) hb
 have:(ps.length:Int)*100000000000000000000000000000000≤1000*100000000000000000000000000000000:=zbp9 (by lia) (by decide)
 exact zo3 (fa:=dC (.int 2)) (a:=2) rfl (zaf9 h hr) (ze9 (by decide) (by decide)) (ze9 (by lia) (by lia))
theorem zbc2 {M:Nat}{us:List (Nat×Nat)}{ws cs ps:List Int} (hM:M≤900) (hw:ws.length=M) (cl:cs.length≤1000) (hl:ps.length≤1000) (ul:us.length≤400) (hb:bdP ps):ze3 [.tup [.int (M:Int),.lst (us.map tD)],.lst (ws.map D.int),.lst (cs.map D.int),.lst (ps.map D.int)]=some (.cl (.bl (lcB M us ws cs ps))):=by
 let WD:D:=.tup [.int (M:Int),.lst (us.map tD)]
 let t:Th:=[.val WD,.val (.lst (ws.map D.int)),.val (.lst (cs.map D.int)),.val (.lst (ps.map D.int))]
 have c1:=(zj0 (rfl:dVar 0 t=some (.cl WD)) (rfl:dVar 2 t=some (.cl (.lst (cs.map D.int))))).trans (zaw1 (G:=zm7) (rs:=[.cl WD,.cl (.lst (cs.map D.int))]) (cover_is (M:=M) cl ul))
 have c2:=(t3_of (rfl:dVar 0 t=some (.cl WD)) (rfl:dVar 1 t=some (.cl (.lst (ws.map D.int)))) (rfl:dVar 3 t=some (.cl (.lst (ps.map D.int))))).trans (zaw1 (G:=zh5) (rs:=[.cl WD,.cl (.lst (ws.map D.int)),.cl (.lst (ps.map D.int))]) (pay_is (M:=M) (by lia) hw hl ul))
 have c3:=zah5 (zab2 (zw0 c1)) (zab2 (zw0 c2))
 show (dSeq _ _ t).bind zi7=_
 unfold lcB
 cases z1:(rsB (M:Int) (-1) cs&&cvB us cs) with
 |false =>
  rw [z1]at c3
  exact bnd (seq_rt (zbd6 c3 rfl))
 |true =>
  rw [z1]at c3
  cases z2:pyB M us ws ps with
  |false =>
   rw [z2]at c3
   exact bnd (seq_rt (zbd6 c3 rfl))
  |true =>
   rw [z2]at c3
   have rs:rsB (M:Int) (-1) cs=true:=by rw [zbj3]at z1;exact z1.1
   obtain⟨_,lt⟩:=zay6 cs (-1) rs
   have c4:=zaf9 (zaf0 (cap:=[1]) (f:=dVar 2) (t:=t) (fe:=d2 kIx (dVar 1) (dVar 0)) (r:=.cl (.lst (cs.map D.int))) (xs:=cs) (g:=fun p=>ws.getD p.toNat 0) (b:=true) (c:=[.lst (ws.map D.int)]) rfl rfl (by lia) rfl (fun x hx=>by
    have:=lt x hx
    exact zu6 (r1:=.cl (.lst (ws.map D.int))) (r2:=.cl (.int x)) ws x rfl rfl (by lia) (by lia) rfl rfl)) rfl
   have c5:=two_sum hl hb (f:=dVar 3) (t:=t) (r:=.cl (.lst (ps.map D.int))) rfl rfl
   exact bnd ((za9 (grd (g:=dRet (dC (.bl false))) c3 rfl)).trans (zn8 ((zg3 c4 c5).trans rfl)))
theorem zay2 {t:Th}{fk:DE}{i:Nat}{B:List Bool}{b:Nat}{v:Bool} (hk:fk t=some (.cl (.int (b:Int)))) (hi:t[i]?=some (.own (B.map D.bl))) (hb:b<B.length):zm2 i fk (dC (.bl v)) t=some (.nx (t.set i (.own ((B.set b v).map D.bl)))):=by
 unfold zm2
 rw [hk]
 show zx7 t i (.cl (.bl v)) (.cl (.int (b:Int)))=_
 unfold zx7
 rw [hi]
 show (ixN (B.map D.bl).length (b:Int)).map _=_
 rw [zx9 _ b (by simpa using hb),zbx5]
 rfl
theorem ixb_of {fa fb:DE}{t:Th}{r1 r2:Ev} (B:List Bool) (b:Nat) (ha:fa t=some r1) (hb:fb t=some r2) (h:b<B.length) (h1:r1.d=.lst (B.map D.bl)) (h2:r2.d=.int (b:Int)):(d2 kIx fa fb) t=some (.cl (.bl (B.getD b false))):=by
 rw [zg3 ha hb]
 unfold kIx
 rw [h1,h2]
 have e:atI (B.map D.bl) (b:Int)=some (.bl (B.getD b false)):=by
  unfold atI
  rw [zx9 _ b (by simpa using h)]
  simp [zbl1,h]
 simp only [e,zbn5,flat,zbn2,if_true]
theorem zay8 (x:Bool):∀m:Nat,(zbk7 m [D.bl x]).flatten=(zbk7 m x).map D.bl
 |0=>rfl
 |m+1=>by rw [zbn7,zbr3,zay8 x m,zbn7];rfl
theorem repb_of {fa fb:DE}{t:Th}{x:Bool}{m:Nat} (h1:fa t=some (.nw [.bl x])) (h2:fb t=some (.cl (.int (m:Int)))) (hm:m≤900):(d2 qM fa fb) t=some (.nw ((zbk7 m x).map D.bl)):=by
 rw [zg3 h1 h2]
 show (if ([D.bl x].length≤100&&decide (-1000000≤(m:Int)∧(m:Int)≤1000))=true then some (Ev.nw (zbk7 (m:Int).toNat [D.bl x]).flatten) else none)=_
 rw [if_pos (by simp;lia),zbl5,zay8]
theorem ge_of' {fa fb:DE}{t:Th}{a b:Int} (h1:fa t=some (.cl (.int a))) (h2:fb t=some (.cl (.int b))):dBo (d2 qH fa fb) t=some (decide (b≤a)):=by
 unfold dBo;rw [zg3 h1 h2];rfl
theorem ne_nilI {t:Th}{f:DE}{r:Ev}{ts:List Int} (h:f t=some r) (hr:r.d=.lst (ts.map D.int)):dBo (d2 kNe f (dT1 kLst dNil)) t=some (!ts.isEmpty):=by
 unfold dBo
 rw [zg3 (rb:=.nw []) h rfl]
 unfold kNe
 rw [hr]
 cases ts with
 |nil=>rfl
 |cons x r=>simp [eqOk,Ev.d,eqD,eqDs]
theorem turn_R {s0 s1 s6 s7:Sl}{L P:List Int}{u:Nat×Nat} (h1:u.1<L.length) (h2:u.2<L.length) (hP:P.length<100000):∃v6,bdR [s0,s1,.own (L.map D.int),.own (P.map D.int),.val (.int (u.1:Int)),.val (.int (u.2:Int)),s6,s7]=some (.nx [s0,s1,.own ((lfC L u).map D.int),.own ((P++[prC L u]).map D.int),.val (.int (u.1:Int)),.val (.int (u.2:Int)),v6,s7]):=by
 let p:=prC L u
 let a:Sl:=.val (.int (u.1:Int))
 let b:Sl:=.val (.int (u.2:Int))
 let t:Th:=[s0,s1,.own (L.map D.int),.own (P.map D.int),a,b,s6,s7]
 have i1:=zl0 (fa:=dVar 2) (fb:=dVar 4) (t:=t) (r1:=.tm (.lst (L.map D.int))) (r2:=.cl (.int (u.1:Int))) L u.1 rfl rfl h1 rfl rfl
 have E1:=ze4 (i:=6) i1 (by simp [t])
 let t1:Th:=[s0,s1,.own (L.map D.int),.own (P.map D.int),a,b,.val (.int (L.getD u.1 0)),s7]
 have i2:=zl0 (fa:=dVar 2) (fb:=dVar 5) (t:=t1) (r1:=.tm (.lst (L.map D.int))) (r2:=.cl (.int (u.2:Int))) L u.2 rfl rfl h2 rfl rfl
 have cnd:=zbb8 i2 (rfl:dVar 6 t1=some (.cl (.int (L.getD u.1 0))))
 let t2:Th:=[s0,s1,.own (L.map D.int),.own (P.map D.int),a,b,.val (.int p),s7]
 have E2:(dIfS (dBo (d2 qL (d2 kIx (dVar 2) (dVar 5)) (dVar 6))) (dAsg 6 (d2 kIx (dVar 2) (dVar 5))) zh0) t1=some (.nx t2):=by
  by_cases z:L.getD u.2 0<L.getD u.1 0
  ·have ep:p=L.getD u.2 0:=if_pos z
   have:=(zt8 (g1:=(dAsg 6 (d2 kIx (dVar 2) (dVar 5)))) (g2:=zh0) cnd (decide_eq_true z)).trans (ze4 (i:=6) i2 (by simp [t1]))
   rw [this]
   simp only [t2,ep]
   rfl
  ·have ep:p=L.getD u.1 0:=if_neg z
   have:=grd (g:=(dAsg 6 (d2 kIx (dVar 2) (dVar 5)))) cnd (decide_eq_false z)
   rw [this]
   simp only [t2,ep]
   rfl
 have E3:=zu1 (i:=3) t2 (f:=dVar 6) (xs:=P) (p:=p) rfl rfl hP
 let t3:Th:=[s0,s1,.own (L.map D.int),.own ((P++[p]).map D.int),a,b,.val (.int p),s7]
 have j1:=zl0 (fa:=dVar 2) (fb:=dVar 4) (t:=t3) (r1:=.tm (.lst (L.map D.int))) (r2:=.cl (.int (u.1:Int))) L u.1 rfl rfl h1 rfl rfl
 have E4:=zac6 (i:=2) (fk:=dVar 4) (t:=t3) (L:=L) (b:=u.1) (zag0 j1 (rfl:dVar 6 t3=some (.cl (.int p)))) rfl rfl h1
 let L1:=L.set u.1 (L.getD u.1 0 - p)
 let t4:Th:=[s0,s1,.own (L1.map D.int),.own ((P++[p]).map D.int),a,b,.val (.int p),s7]
 have h3:u.2<L1.length:=by simpa [L1] using h2
 have j2:=zl0 (fa:=dVar 2) (fb:=dVar 5) (t:=t4) (r1:=.tm (.lst (L1.map D.int))) (r2:=.cl (.int (u.2:Int))) L1 u.2 rfl rfl h3 rfl rfl
 have E5:=zac6 (i:=2) (fk:=dVar 5) (t:=t4) (L:=L1) (b:=u.2) (zag0 j2 (rfl:dVar 6 t4=some (.cl (.int p)))) rfl rfl h3
 exact⟨.val (.int p),(za9 E1).trans ((za9 E2).trans ((za9 E3).trans ((za9 E4).trans E5)))⟩
theorem loop_R {s0 s1 s7:Sl}{M:Nat}:∀(us:List (Nat×Nat)) (s:List Int×List Int) (s4 s5 s6:Sl),s.1.length=M→(∀u∈us,u.1<u.2∧u.2<M)→s.2.length+us.length<100000 →
  ∃v4 v5 v6,forD (zf4 2 (zb2 (za5 4) (zb2 (za5 5) zg0))) bdR (us.map tD) [s0,s1,.own (s.1.map D.int),.own (s.2.map D.int),s4,s5,s6,s7]=some (.nx [s0,s1,.own ((us.foldl stC s).1.map D.int),.own ((us.foldl stC s).2.map D.int),v4,v5,v6,s7])
 |[],s,s4,s5,s6,_,_,_=>⟨s4,s5,s6,rfl⟩
 |u::us,s,s4,s5,s6,hL,hu,hP=>by
  simp only [zbm5]at hP
  have hu0:=hu u (zbi9 ..)
  obtain⟨v6,e⟩:=turn_R (s0:=s0) (s1:=s1) (s6:=s6) (s7:=s7) (L:=s.1) (P:=s.2) (u:=u) (by lia) (by lia) (by lia)
  obtain⟨w4,w5,w6,ih⟩:=loop_R (s0:=s0) (s1:=s1) (s7:=s7) us (stC s u) (.val (.int (u.1:Int))) (.val (.int (u.2:Int))) v6 ((zx4 _ _).trans hL) (fun v hv=>hu v (zbi6 _ hv)) (by unfold stC;simp only [zbm4,zbq7];lia)
  refine⟨w4,w5,w6,?_⟩
  have e0:(zf4 2 (zb2 (za5 4) (zb2 (za5 5) zg0))) (tD u) [s0,s1,.own (s.1.map D.int),.own (s.2.map D.int),s4,s5,s6,s7]=some [s0,s1,.own (s.1.map D.int),.own (s.2.map D.int),.val (.int (u.1:Int)),.val (.int (u.2:Int)),s6,s7]:=rfl
  simp only [zbk5,forD,e0,zbj1,e]
  exact ih
def stB (B:List Bool) (u:Nat×Nat):List Bool:=(B.set u.1 true).set u.2 true
theorem zax8 (B:List Bool) (u:Nat×Nat):(stB B u).length=B.length:=by unfold stB;simp
theorem zaj2:∀(us:List (Nat×Nat)) (B:List Bool),(us.foldl stB B).length=B.length
 |[],B=>rfl
 |u::us,B=>(zaj2 us (stB B u)).trans (zax8 B u)
theorem loop_S {s0 s1 s2 s3 s6:Sl}{M:Nat}:∀(us:List (Nat×Nat)) (B:List Bool) (s4 s5:Sl),B.length=M→(∀u∈us,u.1<u.2∧u.2<M) →
  ∃v4 v5,forD (zf4 2 (zb2 (za5 4) (zb2 (za5 5) zg0))) bdS (us.map tD) [s0,s1,s2,s3,s4,s5,s6,.own (B.map D.bl)]=some (.nx [s0,s1,s2,s3,v4,v5,s6,.own ((us.foldl stB B).map D.bl)])
 |[],B,s4,s5,_,_=>⟨s4,s5,rfl⟩
 |u::us,B,s4,s5,hB,hu=>by
  have hu0:=hu u (zbi9 ..)
  let a:Sl:=.val (.int (u.1:Int))
  let b:Sl:=.val (.int (u.2:Int))
  have E1:=zay2 (i:=7) (fk:=dVar 4) (t:=[s0,s1,s2,s3,a,b,s6,.own (B.map D.bl)]) (B:=B) (b:=u.1) (v:=true) rfl rfl (by lia)
  have E2:=zay2 (i:=7) (fk:=dVar 5) (t:=[s0,s1,s2,s3,a,b,s6,.own ((B.set u.1 true).map D.bl)]) (B:=B.set u.1 true) (b:=u.2) (v:=true) rfl rfl (by rw [zbu4];lia)
  obtain⟨w4,w5,ih⟩:=loop_S (s0:=s0) (s1:=s1) (s2:=s2) (s3:=s3) (s6:=s6) us (stB B u) a b ((zax8 _ _).trans hB) (fun v hv=>hu v (zbi6 _ hv))
  refine⟨w4,w5,?_⟩
  have e0:(zf4 2 (zb2 (za5 4) (zb2 (za5 5) zg0))) (tD u) [s0,s1,s2,s3,s4,s5,s6,.own (B.map D.bl)]=some [s0,s1,s2,s3,a,b,s6,.own (B.map D.bl)]:=rfl
  have e:bdS [s0,s1,s2,s3,a,b,s6,.own (B.map D.bl)]=some (.nx [s0,s1,s2,s3,a,b,s6,.own ((stB B u).map D.bl)]):=(za9 E1).trans E2
  simp only [zbk5,forD,e0,zbj1,e]
  exact ih
theorem zae6 {M:Nat}:∀(us:List (Nat×Nat)) (s:List Int×List Int),s.1.length=M→(us.foldl stC s).1.length=M
 |[],s,h=>h
 |u::us,s,h=>zae6 us (stC s u) ((zx4 _ _).trans h)
theorem zan2:∀(us:List (Nat×Nat)) (s:List Int×List Int),(us.foldl stC s).2.length=s.2.length+us.length
 |[],s=>rfl
 |u::us,s=>by rw [zbs6,zan2 us,zbm5];unfold stC;simp;lia
def wB (L:List Int):Prop := ∀j,0≤L.getD j 0∧L.getD j 0≤1000000000000
theorem zax7 {M:Nat}:∀(us:List (Nat×Nat)) (s:List Int×List Int),s.1.length=M→(∀u∈us,u.1<u.2∧u.2<M)→wB s.1→(∀x∈s.2,0≤x∧x≤1000000000000)→∀x∈(us.foldl stC s).2,0≤x∧x≤1000000000000
 |[],s,_,_,_,h=>h
 |u::us,s,hl,hu,hw,h=>by
  obtain⟨u1,u2⟩:=hu u (zbi9 ..)
  have pc:=prC_le s.1 u
  have p0:=prC_nn (L:=s.1) (fun j=>(hw j).1) u
  refine zax7 us (stC s u) ((zx4 _ _).trans hl) (fun v hv=>hu v (zbi6 _ hv)) (fun j=>?_) (fun x hx=>?_)
  ·show 0≤(lfC s.1 u).getD j 0∧(lfC s.1 u).getD j 0≤1000000000000
   have:=lfC_nn (L:=s.1) (u:=u) (fun j=>(hw j).1) u1 (by lia) j
   rw [zam8 u1 (by lia)]at this ⊢
   have:=hw j
   split<;>simp_all<;>lia
  ·have hx:x∈s.2++[prC s.1 u]:=hx
   rcases zbj2.mp hx with z | z
   ·exact h x z
   ·rw [zbl4.mp z]
    have:=hw u.1
    lia
theorem rule_is {M:Nat}{us:List (Nat×Nat)}{ws:List Int} (hM:M≤900) (hw:ws.length=M) (hw2:∀x∈ws,0≤x∧x≤1000000000000) (hl:us.length≤400) (hu:∀u∈us,u.1<u.2∧u.2<M):∃c p:List Int,c.length≤M∧p.length=us.length∧(∀x∈c,0≤x∧x<(M:Int))∧(∀x∈p,0≤x∧x≤1000000000000)∧zm5 [.tup [.int (M:Int),.lst (us.map tD)],.lst (ws.map D.int)]=some (.tm (.tup [.lst (c.map D.int),.lst (p.map D.int)])):=by
 let W:Sl:=.val (.tup [.int (M:Int),.lst (us.map tD)])
 let S1:Sl:=.val (.lst (ws.map D.int))
 have E1:=zs8 (i:=2) (t:=[W,S1,.no,.no,.no,.no,.no,.no]) (zt7 (f:=dVar 1) (r:=.cl (.lst (ws.map D.int))) (xs:=ws) rfl rfl) (by simp)
 have E3:=zab9 (k:=(zf4 2 (zb2 (za5 4) (zb2 (za5 5) zg0)))) (b:=bdR) (f:=d2 kIx (dVar 0) (dC (.int 1))) (t:=[W,S1,.own (ws.map D.int),.own (([]:List Int).map D.int),.no,.no,.no,.no]) (r:=.cl (.lst (us.map tD))) (ds:=us.map tD) rfl rfl rfl
 obtain⟨v4,v5,v6,E4⟩:=loop_R (s0:=W) (s1:=S1) (s7:=.no) (M:=M) us (ws,[]) .no .no .no hw hu (by simp;lia)
 have fl:=zae6 us (ws,[]) hw
 let L:=(us.foldl stC (ws,[])).1
 let P:=(us.foldl stC (ws,[])).2
 have E5:=zs8 (i:=7) (t:=[W,S1,.own (L.map D.int),.own (P.map D.int),v4,v5,v6,.no]) (repb_of (fa:=dT1 kLst (za2 (dC (.bl false)) dNil)) (fb:=d2 kIx (dVar 0) (dC (.int 0))) (x:=false) (m:=M) rfl rfl hM) (by simp)
 have E6:=zab9 (k:=(zf4 2 (zb2 (za5 4) (zb2 (za5 5) zg0)))) (b:=bdS) (f:=d2 kIx (dVar 0) (dC (.int 1))) (t:=[W,S1,.own (L.map D.int),.own (P.map D.int),v4,v5,v6,.own ((zbk7 M false).map D.bl)]) (r:=.cl (.lst (us.map tD))) (ds:=us.map tD) rfl rfl rfl
 obtain⟨w4,w5,E7⟩:=loop_S (s0:=W) (s1:=S1) (s2:=.own (L.map D.int)) (s3:=.own (P.map D.int)) (s6:=v6) (M:=M) us (zbk7 M false) v4 v5 (by simp) hu
 let B:=us.foldl stB (zbk7 M false)
 have lB:B.length=M:=(zaj2 _ _).trans (by simp)
 let t7:Th:=[W,S1,.own (L.map D.int),.own (P.map D.int),w4,w5,v6,.own (B.map D.bl)]
 have ec:=zaj4 (cap:=[7,2]) (f:=d2 kIx (dVar 0) (dC (.int 0))) (ft:=ftR) (t:=t7) (n:=M) (p:=fun x=>B.getD x.toNat false&&decide (L.getD x.toNat 0=0)) (b:=false) (c:=[.lst (B.map D.bl),.lst (L.map D.int)]) rfl (by lia) rfl (fun x hx=>by
  obtain⟨k,rfl,hk⟩:∃k:Nat,x=(k:Int)∧k<M:=by
   unfold zc5 at hx
   obtain⟨k,hk,rfl⟩:=zbm9.mp hx
   exact⟨k,rfl,zbp4.mp hk⟩
  let tt:Th:=[.val (.int (k:Int)),.val (.lst (B.map D.bl)),.val (.lst (L.map D.int))]
  have i1:=zl0 (fa:=dVar 2) (fb:=dVar 0) (t:=tt) (r1:=.cl (.lst (L.map D.int))) (r2:=.cl (.int (k:Int))) L k rfl rfl (by have q:L.length=M:=fl;lia) rfl rfl
  have i2:=ixb_of (fa:=dVar 1) (fb:=dVar 0) (t:=tt) (r1:=.cl (.lst (B.map D.bl))) (r2:=.cl (.int (k:Int))) B k rfl rfl (by lia) rfl rfl
  show ftR tt=_
  rw [zbl5]
  exact zl7 (zw0 i2) (zs6 i1 (rfl:dC (.int 0) tt=some (.cl (.int 0)))))
 let c:=(zc5 M).filter fun x=>B.getD x.toNat false&&decide (L.getD x.toNat 0=0)
 refine⟨c,P,?_,(zan2 us (ws,[])).trans (by simp),fun x hx=>zn3 (zbo2.mp hx).1,zax7 us (ws,[]) hw hu (fun j=>?_) (fun x hx=>nomatch hx),?_⟩
 ·have:=zbt0 (fun x=>B.getD x.toNat false&&decide (L.getD x.toNat 0=0)) (zc5 M)
  rw [zg2]at this
  exact this
 ·show 0≤ws.getD j 0∧ws.getD j 0≤1000000000000
  rw [zbl1]
  by_cases h:j<ws.length
  ·rw [zbj6 h];exact hw2 _ (zbn9 h)
  ·rw [zbn1 (by lia)];exact⟨zbo0 _,by decide⟩
 ·show (dSeq _ (dSeq _ (dSeq (dFor _ _ bdR) (dSeq _ (dSeq (dFor _ _ bdS) (dRet (dT1 kTup (za2 (zd8 1 [7,2] (fsR1 (d2 kIx (dVar 0) (dC (.int 0)))) (za5 0) ftR (dVar 0)) (za2 (dVar 3) dNil)))))))) [W,S1,.no,.no,.no,.no,.no,.no]).bind zi7=_
  have er:(dT1 kTup (za2 (zd8 1 [7,2] (fsR1 (d2 kIx (dVar 0) (dC (.int 0)))) (za5 0) ftR (dVar 0)) (za2 (dVar 3) dNil))) t7=some (.tm (.tup [.lst (c.map D.int),.lst (P.map D.int)])):=(zj0 ec (rfl:dVar 3 t7=some (.tm (.lst (P.map D.int))))).trans rfl
  exact bnd ((za9 E1).trans ((za9 (t':=[W,S1,.own (ws.map D.int),.own (([]:List Int).map D.int),.no,.no,.no,.no]) rfl).trans ((za9 (E3.trans E4)).trans ((za9 E5).trans ((za9 (E6.trans E7)).trans (zn8 er))))))
theorem ins_of {t:Th}{fk fn:DE}{i k:Nat}{n:Int}{L:List Int} (h1:fk t=some (.cl (.int (k:Int)))) (h2:fn t=some (.cl (.int n))) (hi:t[i]?=some (.own (L.map D.int))) (hk:k≤L.length) (hl:L.length≤50000):dIns i (za2 fk (za2 fn dNil)) t=some (.nx (t.set i (.own ((insN L k n).map D.int)))):=by
 unfold dIns
 rw [show (za2 fk (za2 fn dNil)) t=some [.cl (.int (k:Int)),.cl (.int n)] by simp [za2,dNil,h1,h2]]
 show kIns t i [.cl (.int (k:Int)),.cl (.int n)]=_
 unfold kIns
 simp only [hi,Ev.d,zk2,zbj1]
 rw [if_pos ⟨by lia,by lia,hl⟩,zbl5]
theorem map_er (L:List Int):∀k:Nat,(L.map D.int).eraseIdx k=(L.eraseIdx k).map D.int:=by
 induction L with
 |nil=>intro k;simp
 |cons a L ih=>intro k;cases k with
  |zero=>rfl
  |succ k=>simp [ih k]
theorem popE_of {t:Th}{f:DE}{i:Nat}{K:List Int}{j:Nat} (hf:f t=some (.cl (.int (j:Int)))) (hi:t[i]?=some (.own (K.map D.int))) (hj:j<K.length) (hk:K.length≤1000):zbf1 i f t=some (.nx (t.set i (.own ((K.eraseIdx j).map D.int)))):=by
 unfold zbf1
 rw [hf,zbj1]
 unfold kPopE
 rw [hi]
 show (if decide (-1000000≤(j:Int)∧(j:Int)≤1000000)=true then (ixN (K.map D.int).length (j:Int)).bind fun q=>((K.map D.int)[q]?).map fun _=>Out.nx (t.set i (.own ((K.map D.int).eraseIdx q))) else none)=_
 rw [if_pos (decide_eq_true (by lia)),zx9 _ j (by rw [zbk3];exact hj),zbj1,get_map K j hj,zbn5,map_er]
theorem seqN {g1 g2:DS}{t t':Th} (h:g1 t=some (.nx t')):zv2 g1 g2 t=g2 t':=by
 unfold zv2
 rw [h]
noncomputable def bE (ds:List D) (k:Nat):DS:=zbf2 3 6 ds k (dRet (dT1 kTup (za2 (d2 kIx (dVar 3) (dC (.int 0))) (za2 (d2 kIx (dVar 3) (dC (.int 1))) dNil))))
def gB (ds:List D) (k:Nat):DS:=zv2 b7 (zv2 b8 (zv2 b3 (zv2 b4 (bE ds k))))
theorem zbh8:zm1=(dSeq (dAsg 3 (zav7 (zae1 (nOf (dT1 zq3 (za2 (d2 kIx (dVar 0) (dC (.int 0))) dNil))) (zae1 (nOf (dT1 zq3 (za2 (d2 kIx (dVar 0) (dC (.int 1))) dNil))) nNil))))
  (dSeq (dAsg 4 (d2 qR (dVar 2) (dC (.int 13))))
  (dSeq (dAsg 5 (dT1 zam9 (za2 (d2 qG (dVar 4) (dC (.int 6))) dNil)))
  (zan4 3 6 (dVar 5) gB)))):=rfl
def nB (m:Int) (xs:List Int):Prop := ∀x∈xs, -m≤x∧x≤m
theorem nB_ins {m v:Int}{xs:List Int} (h:nB m xs) (hv : -m≤v∧v≤m) (k:Nat):nB m (insN xs k v):=fun x hx=>by
 unfold insN at hx
 rcases zbj2.mp hx with z | z
 ·exact h x (zbt7 z)
 ·rcases zbj4.mp z with z | z
  ·rw [z];exact hv
  ·exact h x (zbt8 z)
theorem zbb5 {m v:Int}{xs:List Int} (h:nB m xs) (hv : -m≤v∧v≤m) (k:Nat):nB m (xs.set k v):=fun x hx=>by
 rcases List.mem_or_eq_of_mem_set hx with z | z
 ·exact h x z
 ·rw [z];exact hv
theorem nB_er {m:Int}{xs:List Int} (h:nB m xs) (k:Nat):nB m (xs.eraseIdx k):=fun x hx=>h x (List.mem_of_mem_eraseIdx hx)
theorem zai3 {m:Int} (m0:0≤m) {xs:List Int} (h:nB m xs) (k:Nat) : -m≤xs.getD k 0∧xs.getD k 0≤m:=by
 rw [zbl1]
 by_cases z:k<xs.length
 ·rw [zbj6 z];exact h _ (zbn9 z)
 ·rw [zbn1 (by lia)];show -m≤0∧0≤m;lia
theorem zq6 {m n:Int}{xs:List Int} (h:nB m xs) (l:m≤n):nB n xs:=fun x hx=>by have:=h x hx;lia
abbrev B1:Int:=10000000000000000000000000000000
def Good (f:List Int→Sl→Th) (n:Nat) (o:Option Out):Prop := ∃(xs:List Int) (s:Sl),o=some (.nx (f xs s))∧xs.length≤n+1∧nB (B1+1) xs
theorem ifG {f:List Int→Sl→Th}{n:Nat}{c:DT}{g1 g2:DS}{t:Th}{b:Bool} (hc:c t=some b) (h1:b=true→Good f n (g1 t)) (h2:b=false→Good f n (g2 t)):Good f n (dIfS c g1 g2 t):=by
 cases b with
 |true=>rw [zt8 hc rfl];exact h1 rfl
 |false=>rw [ifs_f hc rfl];exact h2 rfl
theorem neg1 {n:Nat} (h:0<n):ixN n (-1)=some (n - 1):=by
 unfold ixN
 rw [if_neg (by decide),if_pos (by lia)]
 congr 1
 lia
theorem setn_of {t:Th}{fv:DE}{L:List Int}{v:Int} (hv:fv t=some (.cl (.int v))) (hi:t[6]?=some (.own (L.map D.int))) (h:0<L.length):zm2 6 (d1 kNeg (dC (.int 1))) fv t=some (.nx (t.set 6 (.own ((L.set (L.length - 1) v).map D.int)))):=by
 unfold zm2
 rw [hv]
 show zx7 t 6 (.cl (.int v)) (.cl (.int (-1)))=_
 unfold zx7
 rw [hi]
 show (ixN (L.map D.int).length (-1)).map _=_
 rw [zbk3,neg1 h,zbx5]
 rfl
theorem ins_ok {t:Th}{f:List Int→Sl→Th}{s9:Sl}{fk fn:DE}{k:Nat}{v:Int}{xs:List Int} (h1:fk t=some (.cl (.int (k:Int)))) (h2:fn t=some (.cl (.int v))) (hi:t[6]?=some (.own (xs.map D.int))) (hk:k≤xs.length) (hl:xs.length≤1000) (hx:nB B1 xs) (hv : -B1≤v∧v≤B1) (hf:∀ys,t.set 6 (.own (ys.map D.int))=f ys s9):Good f xs.length (dIns 6 (za2 fk (za2 fn dNil)) t) :=
 ⟨insN xs k v,s9,(ins_of h1 h2 hi hk (by lia)).trans (by rw [hf]),by unfold insN;simp;lia,zq6 (nB_ins hx hv k) (by decide)⟩
theorem zay3 {t:Th}{f:List Int→Sl→Th}{s9:Sl}{fk fv:DE}{k:Nat}{v:Int}{xs:List Int} (h1:fk t=some (.cl (.int (k:Int)))) (h2:fv t=some (.cl (.int v))) (hi:t[6]?=some (.own (xs.map D.int))) (hk:k<xs.length) (hx:nB B1 xs) (hv : -(B1+1)≤v∧v≤B1+1) (hf:∀ys,t.set 6 (.own (ys.map D.int))=f ys s9):Good f xs.length (zm2 6 fk fv t) :=
 ⟨xs.set k v,s9,(zac6 h2 h1 hi hk).trans (by rw [hf]),by simp,zbb5 (zq6 hx (by decide)) hv k⟩
theorem turn_4 {s0 s1 s2 s3 s5 s9:Sl}{w v:Int}{a:Nat}{xs:List Int} (ha:a≤xs.length) (hl:xs.length≤1000) (hx:nB B1 xs) (hv : -B1≤v∧v≤B1):Good (fun ys s=>[s0,s1,s2,s3,.val (.int w),s5,.own (ys.map D.int),.val (.int (a:Int)),.val (.int v),s]) xs.length (b4 [s0,s1,s2,s3,.val (.int w),s5,.own (xs.map D.int),.val (.int (a:Int)),.val (.int v),s9]):=by
 let t:Th:=[s0,s1,s2,s3,.val (.int w),s5,.own (xs.map D.int),.val (.int (a:Int)),.val (.int v),s9]
 have hf:∀ys:List Int,t.set 6 (.own (ys.map D.int))=(fun (ys:List Int) (s:Sl)=>([s0,s1,s2,s3,.val (.int w),s5,.own (ys.map D.int),.val (.int (a:Int)),.val (.int v),s]:Th)) ys s9:=fun _=>rfl
 have ln:(dT1 kLen (za2 (dVar 6) dNil)) t=some (.cl (.int (xs.length:Int))):=zar3 (r:=.tm (.lst (xs.map D.int))) rfl rfl
 have lt:=zbb8 (rfl:dVar 7 t=some (.cl (.int (a:Int)))) ln
 have ix:a<xs.length→(d2 kIx (dVar 6) (dVar 7)) t=some (.cl (.int (xs.getD a 0))):=fun h=>zl0 (r1:=.tm (.lst (xs.map D.int))) (r2:=.cl (.int (a:Int))) xs a rfl rfl h rfl rfl
 have g:=zai3 (by decide) hx a
 have two:∀b:Bool,(b&&decide ((a:Int)<(xs.length:Int)))=true→a<xs.length:=fun b h=>by
  rw [zbj3,decide_eq_true_eq]at h
  lia
 show Good _ xs.length (b4 t)
 refine ifG (b:=_) rfl (fun _=>ins_ok rfl rfl rfl ha hl hx hv hf) fun _=>?_
 refine ifG (zl7 (rfl:_=some _) lt) (fun h=>ins_ok rfl (ix (two _ h)) rfl ha hl hx g hf) fun _=>?_
 refine ifG (zl7 (rfl:_=some _) lt) (fun h=>⟨xs.eraseIdx a,s9,(popE_of rfl rfl (two _ h) hl).trans (by rw [hf]),by have:=List.length_eraseIdx_le xs a;lia,zq6 (nB_er hx a) (by decide)⟩) fun _=>?_
 refine ifG (zl7 (rfl:_=some _) lt) (fun h=>zay3 rfl rfl rfl (two _ h) hx (by lia) hf) fun _=>?_
 refine ifG (zl7 (rfl:_=some _) lt) (fun h=>zay3 rfl (zi0 (ix (two _ h)) rfl) rfl (two _ h) hx (by lia) hf) fun _=>?_
 refine ifG (zl7 (rfl:_=some _) lt) (fun h=>zay3 rfl (zag0 (ix (two _ h)) rfl) rfl (two _ h) hx (by lia) hf) fun _=>?_
 refine ifG lt (fun h=>?_) fun _=>⟨xs,s9,rfl,by lia,zq6 hx (by decide)⟩
 have al:a<xs.length:=by rw [decide_eq_true_eq]at h;lia
 have E1:=ze4 (i:=9) (ix al) (by simp [t])
 let k9:Sl:=.val (.int (xs.getD a 0))
 let t1:Th:=[s0,s1,s2,s3,.val (.int w),s5,.own (xs.map D.int),.val (.int (a:Int)),.val (.int v),k9]
 have i2:(d2 kIx (dVar 6) (d1 kNeg (dC (.int 1)))) t1=some (.cl (.int (xs.getD (xs.length - 1) 0))):=by
  rw [zg3 (rfl:dVar 6 t1=some (.tm (.lst (xs.map D.int)))) (rfl:(d1 kNeg (dC (.int 1))) t1=some (.cl (.int (-1))))]
  show Option.map (fun d=>if ((Ev.tm (.lst (xs.map D.int))).ok||flat d)=true then Ev.cl d else Ev.tm d) (atI (xs.map D.int) (-1))=_
  have at':atI (xs.map D.int) (-1)=some (.int (xs.getD (xs.length - 1) 0)):=by
   unfold atI
   rw [zbk3,neg1 (by lia),zbj1]
   exact get_map xs (xs.length - 1) (by lia)
  rw [at',zbn5,if_pos (by have q:flat (D.int (xs.getD (xs.length - 1) 0))=true:=rfl;rw [q,zbn2])]
 have E2:=zac6 (t:=t1) (fk:=dVar 7) (i:=6) (L:=xs) (b:=a) i2 rfl rfl al
 let ys:=xs.set a (xs.getD (xs.length - 1) 0)
 let t2:Th:=[s0,s1,s2,s3,.val (.int w),s5,.own (ys.map D.int),.val (.int (a:Int)),.val (.int v),k9]
 have yl:ys.length=xs.length:=by simp [ys]
 have E3:=setn_of (t:=t2) (fv:=dVar 9) (L:=ys) (v:=xs.getD a 0) rfl rfl (by lia)
 exact⟨_,k9,(za9 E1).trans ((za9 E2).trans E3),by simp [yl],zq6 (zbb5 (zbb5 hx (zai3 (by decide) hx _) a) g _) (by decide)⟩
theorem pw30 (t:Th):(d2 qP (dC (.int 10)) (dC (.int 30))) t=some (.cl (.int 1000000000000000000000000000000)):=by
 show (if cPow 10 30 then some (Ev.cl (D.int ((10:Int) ^ (30:Int).toNat))) else none)=_
 rw [if_pos (by decide)]
 rfl
theorem turn_3 {s0 s1 s3 s4 s5 s6 s7 s9:Sl}{cell n:Int} (hn : -1≤n∧n≤1000000000001):∃v:Int, -B1≤v∧v≤B1∧b3 [s0,s1,.val (.int cell),s3,s4,s5,s6,s7,.val (.int n),s9]=some (.nx [s0,s1,.val (.int cell),s3,s4,s5,s6,s7,.val (.int v),s9]):=by
 let t:Th:=[s0,s1,.val (.int cell),s3,s4,s5,s6,s7,.val (.int n),s9]
 have c:=zs6 (zf2 (zk3 (fa:=dVar 2) (fb:=dC (.int 26)) (t:=t) (a:=cell) (b:=26) rfl rfl (by decide) (ze9 (by decide) (by decide))) (fb:=dC (.int 5)) (b:=5) rfl (by decide)) (fb:=dC (.int 4)) (b:=4) rfl
 by_cases z:(cell.fdiv 26).fmod 5=4
 ·have m:=zf2 (zk3 (fa:=dVar 2) (fb:=dC (.int 130)) (t:=t) (a:=cell) (b:=130) rfl rfl (by decide) (ze9 (by decide) (by decide))) (fb:=dC (.int 4)) (b:=4) rfl (by decide)
  have q:=fm (a:=cell.fdiv 130) (b:=4) (by decide)
  let L:List Int:=[-2,0 - n - 2,1000000000000+n,1000000000000000000000000000000]
  have e:(dT1 kLst (za2 (d1 kNeg (dC (.int 2))) (za2 (d2 qS (d2 qS (dC (.int 0)) (dVar 8)) (dC (.int 2))) (za2 (d2 qA (d2 qP (dC (.int 10)) (dC (.int 12))) (dVar 8)) (za2 (d2 qP (dC (.int 10)) (dC (.int 30))) dNil))))) t=some (.nw (L.map D.int)) :=
   (t4_of (rfl:(d1 kNeg (dC (.int 2))) t=some (.cl (.int (-2)))) (rfl:(d2 qS (d2 qS (dC (.int 0)) (dVar 8)) (dC (.int 2))) t=some (.cl (.int (0 - n - 2)))) (zi0 (pow12 t) (rfl:dVar 8 t=some (.cl (.int n)))) (pw30 t)).trans rfl
  have i:=zu6 L _ e m (by lia) (by show _<(4:Int);lia) rfl rfl
  have b:nB B1 L:=fun x hx=>by
   simp only [L,zbj4,zbm7,or_false]at hx
   show -10000000000000000000000000000000≤x∧x≤10000000000000000000000000000000
   rcases hx with rfl | rfl | rfl | rfl<;>lia
  have g:=zai3 (by decide) b ((cell.fdiv 130).fmod 4).toNat
  exact⟨_,g.1,g.2,(zt8 c (decide_eq_true z)).trans (ze4 (i:=8) i (by simp [t]))⟩
 ·exact⟨n,by show -10000000000000000000000000000000≤n;lia,by show n≤10000000000000000000000000000000;lia,grd c (decide_eq_false z)⟩
theorem inner_is {s0 s5:Sl}{w most cell:Int} (m0:0≤most) (m1:most≤1000000000000) {xs:List Int} (hl:xs.length≤1000) (hx:nB B1 xs) (ds:List D) (k:Nat):∃(ys:List Int) (a v:Int) (u9:Sl),ys.length≤xs.length+1∧nB (B1+1) ys∧gB ds k [s0,.val (.int most),.val (.int cell),.no,.val (.int w),s5,.own (xs.map D.int),.no,.no,.no]=bE ds k [s0,.val (.int most),.val (.int cell),.no,.val (.int w),s5,.own (ys.map D.int),.val (.int a),.val (.int v),u9]:=by
 let S1:Sl:=.val (.int most)
 let S2:Sl:=.val (.int cell)
 let S4:Sl:=.val (.int w)
 let S6:Sl:=.own (xs.map D.int)
 let t0:Th:=[s0,S1,S2,.no,S4,s5,S6,.no,.no,.no]
 have ln:∀s7,(dT1 kLen (za2 (dVar 6) dNil)) [s0,S1,S2,.no,S4,s5,S6,s7,.no,.no]=some (.cl (.int (xs.length:Int))):=fun s7=>zar3 (r:=.tm (.lst (xs.map D.int))) rfl rfl
 have l1:∀s7,(d2 qA (dT1 kLen (za2 (dVar 6) dNil)) (dC (.int 1))) [s0,S1,S2,.no,S4,s5,S6,s7,.no,.no]=some (.cl (.int ((xs.length:Int)+1))):=fun s7=>zi0 (ln s7) (fb:=dC (.int 1)) (b:=1) rfl
 have d13:∀s7,(d2 qV (dVar 2) (dC (.int 13))) [s0,S1,S2,.no,S4,s5,S6,s7,.no,.no]=some (.cl (.int (cell.fdiv 13))):=fun s7=>zk3 (a:=cell) (b:=13) rfl rfl (by decide) (ze9 (by decide) (by decide))
 have e7:=zf2 (d13 .no) (l1 .no) (by lia)
 have q7:=fm (a:=cell.fdiv 13) (b:=(xs.length:Int)+1) (by lia)
 obtain⟨a,ha⟩:∃a:Nat,(cell.fdiv 13).fmod ((xs.length:Int)+1)=(a:Int):=⟨_,(zbq2 q7.1).symm⟩
 rw [ha]at e7
 have E7:=ze4 (i:=7) (t:=t0) e7 (by simp [t0])
 let S7:Sl:=.val (.int (a:Int))
 let t1:Th:=[s0,S1,S2,.no,S4,s5,S6,S7,.no,.no]
 have m3:=zi0 (fa:=dVar 1) (fb:=dC (.int 3)) (t:=t1) (a:=most) (b:=3) rfl rfl
 have e8:=zag0 (zf2 (zk3 (d13 S7) (l1 S7) (by lia) (ze9 (by lia) (by lia))) m3 (by lia)) (fb:=dC (.int 1)) (b:=1) rfl
 have q8:=fm (a:=(cell.fdiv 13).fdiv ((xs.length:Int)+1)) (b:=most+3) (by lia)
 have E8:=ze4 (i:=8) (t:=t1) e8 (by simp [t1])
 obtain⟨v,v0,v1,E3⟩:=turn_3 (s0:=s0) (s1:=S1) (s3:=.no) (s4:=S4) (s5:=s5) (s6:=S6) (s7:=S7) (s9:=.no) (cell:=cell) (n:=((cell.fdiv 13).fdiv ((xs.length:Int)+1)).fmod (most+3) - 1) (by lia)
 obtain⟨ys,u9,E4,yl,yb⟩:=turn_4 (s0:=s0) (s1:=S1) (s2:=S2) (s3:=.no) (s5:=s5) (s9:=.no) (w:=w) (v:=v) (a:=a) (xs:=xs) (by lia) hl hx ⟨v0,v1⟩
 exact⟨ys,(a:Int),v,u9,yl,yb,(seqN E7).trans ((seqN E8).trans ((seqN E3).trans (seqN E4)))⟩
theorem nw_of {f:DE}{t:Th}{xs:List Int} (h:f t=some (.nw (xs.map D.int))):nOf f t=some (.lst (xs.map D.int),[]):=by
 unfold nOf
 rw [h]
 show ((if zg9 (xs.map D.int)=true then some (D.lst (xs.map D.int)) else none).map fun d=>(d,([]:List Nat)))=_
 rw [ze0]
 rfl
theorem bent_is {most cell:Int} (m0:0≤most) (m1:most≤1000000000000) {xs ys:List Int} (lx:xs.length≤999) (ly:ys.length≤999) (bx:nB B1 xs) (by':nB B1 ys):∃xs' ys':List Int,xs'.length≤1000∧ys'.length≤1000∧nB (B1+1) xs'∧nB (B1+1) ys'∧zg8 [.tup [.lst (xs.map D.int),.lst (ys.map D.int)],.int most,.int cell]=some (.tm (.tup [.lst (xs'.map D.int),.lst (ys'.map D.int)])):=by
 let S0:Sl:=.val (.tup [.lst (xs.map D.int),.lst (ys.map D.int)])
 let S1:Sl:=.val (.int most)
 let S2:Sl:=.val (.int cell)
 let t0:Th:=[S0,S1,S2,.no,.no,.no,.no,.no,.no,.no]
 have n1:=nw_of (zt7 (f:=d2 kIx (dVar 0) (dC (.int 0))) (t:=t0) (r:=.cl (.lst (xs.map D.int))) (xs:=xs) rfl rfl)
 have n2:=nw_of (zt7 (f:=d2 kIx (dVar 0) (dC (.int 1))) (t:=t0) (r:=.cl (.lst (ys.map D.int))) (xs:=ys) rfl rfl)
 have e1:(zav7 (zae1 (nOf (dT1 zq3 (za2 (d2 kIx (dVar 0) (dC (.int 0))) dNil))) (zae1 (nOf (dT1 zq3 (za2 (d2 kIx (dVar 0) (dC (.int 1))) dNil))) nNil))) t0=some (.dn (.lst [.lst (xs.map D.int),.lst (ys.map D.int)])):=by
  unfold zav7 zae1
  rw [n1,n2]
  rfl
 have E1:=dn_asg (i:=3) e1 (by simp [t0])
 let ds:List D:=[.lst (xs.map D.int),.lst (ys.map D.int)]
 let t1:Th:=[S0,S1,S2,.dp (.lst ds),.no,.no,.no,.no,.no,.no]
 have E2:=ze4 (i:=4) (t:=t1) (zf2 (fa:=dVar 2) (fb:=dC (.int 13)) (a:=cell) (b:=13) rfl rfl (by decide)) (by simp [t1])
 let w:=cell.fmod 13
 let t2:Th:=[S0,S1,S2,.dp (.lst ds),.val (.int w),.no,.no,.no,.no,.no]
 have E3:=ze4 (i:=5) (t:=t2) (zbd3 (gtv_of (fa:=dVar 4) (fb:=dC (.int 6)) (a:=w) (b:=6) rfl rfl)) (by simp [t2])
 let rt:DS:=(dRet (dT1 kTup (za2 (d2 kIx (dVar 3) (dC (.int 0))) (za2 (d2 kIx (dVar 3) (dC (.int 1))) dNil))))
 have fin:∀(k:Nat) (zs:List Int),ds[k]?=some (.lst (zs.map D.int))→k<2→zs.length≤999→nB B1 zs→∃(zs':List Int) (s7 s8 s9:Sl),zs'.length≤1000∧nB (B1+1) zs'∧zan4 3 6 (dVar 5) gB [S0,S1,S2,.dp (.lst ds),.val (.int w),.val (.int (k:Int)),.no,.no,.no,.no]=rt [S0,S1,S2,.dp (.lst (ds.set k (.lst (zs'.map D.int)))),.val (.int w),.val (.int (k:Int)),.no,s7,s8,s9]:=fun k zs hk k2 lz bz=>by
  obtain⟨zs',a,v,u9,zl,zb,e⟩:=inner_is (s0:=S0) (s5:=.val (.int (k:Int))) (w:=w) (cell:=cell) m0 m1 (xs:=zs) (by lia) bz ds k
  refine⟨zs',.val (.int a),.val (.int v),u9,by lia,zb,?_⟩
  have L:zan4 3 6 (dVar 5) gB [S0,S1,S2,.dp (.lst ds),.val (.int w),.val (.int (k:Int)),.no,.no,.no,.no]=gB ds k [S0,S1,S2,.no,.val (.int w),.val (.int (k:Int)),.own (zs.map D.int),.no,.no,.no]:=by
   unfold zan4
   show (ixN ds.length (k:Int)).bind _=_
   rw [zx9 _ k (by show k<2;exact k2)]
   simp only [zbj1]
   rw [hk]
   show (if (zs.map D.int).all scD&&_ then _ else none)=_
   rw [zal0,if_pos (by rfl)]
   rfl
  refine L.trans (e.trans ?_)
  unfold bE zbf2
  show (if (zs'.map D.int).all scD&&_ then rt _ else none)=_
  rw [zal0,if_pos (by rfl)]
  rfl
 by_cases z:6<w
 ·rw [decide_eq_true z]at E3
  obtain⟨zs',s7,s8,s9,zl,zb,e⟩:=fin 1 ys rfl (by decide) ly by'
  refine⟨xs,zs',by lia,zl,zq6 bx (by decide),zb,?_⟩
  show (zm1 t0).bind zi7=_
  rw [zbh8]
  exact bnd ((za9 E1).trans ((za9 E2).trans ((za9 E3).trans (e.trans rfl))))
 ·rw [decide_eq_false z]at E3
  obtain⟨zs',s7,s8,s9,zl,zb,e⟩:=fin 0 xs rfl (by decide) lx bx
  refine⟨zs',ys,zl,by lia,zb,zq6 by' (by decide),?_⟩
  show (zm1 t0).bind zi7=_
  rw [zbh8]
  exact bnd ((za9 E1).trans ((za9 E2).trans ((za9 E3).trans (e.trans rfl))))
theorem rng2n_of {k0:D→Th→Option Th}{b:DS}{t:Th}{f f':DE}{lo n:Int}{k:Nat} (h1:f t=some (.cl (.int lo))) (h2:f' t=some (.cl (.int n))) (hk:(n - lo).toNat=k) (hb:(bigI n&&bigI lo)=true):zbe9 k0 f f' b t=forD k0 b (rngD lo k) t:=by
 unfold zbe9
 rw [h1,h2]
 show (if bigI n&&bigI lo then forD k0 b (rngD lo (n - lo).toNat) t else none)=_
 rw [if_pos hb,hk]
theorem snB {m v:Int}{xs:List Int} (h:nB m xs) (hv : -m≤v∧v≤m):nB m (xs++[v]):=fun x hx=>by
 rcases zbj2.mp hx with z | z
 ·exact h x z
 ·rw [zbl4.mp z];exact hv
theorem free_is {M ties:Nat}{most cell:Int} (hM:M≤900) (ht:ties≤60) (m0:0≤most) (m1:most≤1000000000000):∃xs ys:List Int,xs.length≤999∧ys.length≤999∧nB B1 xs∧nB B1 ys∧zm6 [.int cell,.int (M:Int),.int (ties:Int),.int most]=some (.tm (.tup [.lst (xs.map D.int),.lst (ys.map D.int)])):=by
 let S1:Sl:=.val (.int (M:Int))
 let S2:Sl:=.val (.int (ties:Int))
 let S3:Sl:=.val (.int most)
 have E1:dAsg 4 (dT1 kLst dNil) [.val (.int cell),S1,S2,S3,.no,.no,.no,.no]=some (.nx [.val (.int cell),S1,S2,S3,.own (([]:List Int).map D.int),.no,.no,.no]):=rfl
 obtain⟨t2,e2,xs,c2,u5,xl,xb,rfl⟩:=zar6 (k:=za5 5) (b:=f1) (n:=M+2) (f:=fun j=>D.int (-1+(j:Int))) (P:=fun j t => ∃(xs:List Int) (c:Int) (u5:Sl),xs.length≤j∧nB B1 xs∧t=[.val (.int c),S1,S2,S3,.own (xs.map D.int),u5,.no,.no]) (fun j hj t ⟨xs,c,u5,xl,xb,et⟩=>by
  subst et
  let t1:Th:=[.val (.int c),S1,S2,S3,.own (xs.map D.int),.val (.int (-1+(j:Int))),.no,.no]
  have cd:=zs6 (zf2 (fa:=dVar 0) (fb:=dC (.int 2)) (t:=t1) (a:=c) (b:=2) rfl rfl (by decide)) (fb:=dC (.int 1)) (b:=1) rfl
  have dv:∀ys:List Int,dAsg 0 (d2 qV (dVar 0) (dC (.int 2))) [.val (.int c),S1,S2,S3,.own (ys.map D.int),.val (.int (-1+(j:Int))),.no,.no]=some (.nx [.val (.int (c.fdiv 2)),S1,S2,S3,.own (ys.map D.int),.val (.int (-1+(j:Int))),.no,.no]):=fun ys=>ze4 (i:=0) (zk3 (a:=c) (b:=2) rfl rfl (by decide) (ze9 (by decide) (by decide))) (by simp)
  by_cases z:c.fmod 2=1
  ·have A:=zu1 t1 (f:=dVar 5) (i:=4) (p := -1+(j:Int)) (xs:=xs) rfl rfl (by lia)
   refine⟨t1,_,rfl,(za9 ((zt8 cd (decide_eq_true z)).trans A)).trans (dv (xs++[-1+(j:Int)])),xs++[-1+(j:Int)],_,_,by simp;lia,snB xb (by show -10000000000000000000000000000000≤_∧_≤10000000000000000000000000000000;lia),rfl⟩
  ·exact⟨t1,_,rfl,(za9 (grd cd (decide_eq_false z))).trans (dv xs),xs,_,_,by lia,xb,rfl⟩) [.val (.int cell),S1,S2,S3,.own (([]:List Int).map D.int),.no,.no,.no] ⟨[],_,_,by simp,(fun x hx=>nomatch hx),rfl⟩
 have E2:=(rng2n_of (k0:=za5 5) (b:=f1) (t:=[.val (.int cell),S1,S2,S3,.own (([]:List Int).map D.int),.no,.no,.no]) (f:=d1 kNeg (dC (.int 1))) (lo := -1) (k:=M+2) rfl (zi0 (fa:=dVar 1) (fb:=dC (.int 1)) (a:=(M:Int)) (b:=1) rfl rfl) (by lia) (by rw [zbj3];unfold bigI;constructor <;>(simp;try lia))).trans e2
 let t2:Th:=[.val (.int c2),S1,S2,S3,.own (xs.map D.int),u5,.no,.no]
 have E3:dAsg 6 (dT1 kLst dNil) t2=some (.nx [.val (.int c2),S1,S2,S3,.own (xs.map D.int),u5,.own (([]:List Int).map D.int),.no]):=rfl
 let t3:Th:=[.val (.int c2),S1,S2,S3,.own (xs.map D.int),u5,.own (([]:List Int).map D.int),.no]
 have m4:=zf2 (zk3 (fa:=dVar 0) (fb:=dC (.int 4)) (t:=t3) (a:=c2) (b:=4) rfl rfl (by decide) (ze9 (by decide) (by decide))) (fb:=dC (.int 61)) (b:=61) rfl (by decide)
 have q4:=fm (a:=c2.fdiv 4) (b:=61) (by decide)
 obtain⟨n,hn,en⟩:∃n:Nat,n≤61∧(d2 kIx (dT1 kLst (za2 (dVar 2) (za2 (d2 qR (d2 qV (dVar 0) (dC (.int 4))) (dC (.int 61))) dNil))) (dT1 zam9 (za2 (d2 kEq (d2 qR (dVar 0) (dC (.int 4))) (dC (.int 3))) dNil))) t3=some (.cl (.int (n:Int))):=by
  let L:List Int:=[(ties:Int),(c2.fdiv 4).fmod 61]
  have e:(dT1 kLst (za2 (dVar 2) (za2 (d2 qR (d2 qV (dVar 0) (dC (.int 4))) (dC (.int 61))) dNil))) t3=some (.nw (L.map D.int)):=(zj0 (rfl:dVar 2 t3=some (.cl (.int (ties:Int)))) m4).trans rfl
  have eqv:(d2 kEq (d2 qR (dVar 0) (dC (.int 4))) (dC (.int 3))) t3=some (.cl (.bl (decide (c2.fmod 4=3)))):=by
   rw [zg3 (zf2 (fa:=dVar 0) (fb:=dC (.int 4)) (t:=t3) (a:=c2) (b:=4) rfl rfl (by decide)) (rfl:dC (.int 3) t3=some (.cl (.int 3)))]
   simp [kEq,eqOk,eqD,Ev.d]
  have ib:=zbd3 eqv
  by_cases z:c2.fmod 4=3
  ·rw [decide_eq_true z]at ib
   have i:=zu6 L 1 e ib (by decide) (by show (1:Int)<2;decide) rfl rfl
   refine⟨((c2.fdiv 4).fmod 61).toNat,by lia,?_⟩
   rw [zbq2 q4.1]
   exact i
  ·rw [decide_eq_false z]at ib
   have i:=zu6 L 0 e ib (by decide) (by show (0:Int)<2;decide) rfl rfl
   exact⟨ties,by lia,i⟩
 obtain⟨t4,e4,ys,c4,u7,yl,yb,rfl⟩:=zar6 (k:=za5 7) (b:=f2) (n:=n) (f:=fun j=>D.int (j:Int)) (P:=fun j t => ∃(ys:List Int) (c:Int) (u7:Sl),ys.length=j∧nB B1 ys∧t=[.val (.int c),S1,S2,S3,.own (xs.map D.int),u5,.own (ys.map D.int),u7]) (fun j hj t ⟨ys,c,u7,yl,yb,et⟩=>by
  subst et
  let S7:Sl:=.val (.int (j:Int))
  let t1:Th:=[.val (.int c),S1,S2,S3,.own (xs.map D.int),u5,.own (ys.map D.int),S7]
  have m3:∀zs:List Int,(d2 qA (dVar 3) (dC (.int 3))) [.val (.int c),S1,S2,S3,.own (xs.map D.int),u5,.own (zs.map D.int),S7]=some (.cl (.int (most+3))):=fun zs=>zi0 (a:=most) (b:=3) rfl rfl
  have v:=zag0 (zf2 (zk3 (fa:=dVar 0) (fb:=dC (.int 244)) (t:=t1) (a:=c) (b:=244) rfl rfl (by decide) (ze9 (by decide) (by decide))) (m3 ys) (by lia)) (fb:=dC (.int 1)) (b:=1) rfl
  have q:=fm (a:=c.fdiv 244) (b:=most+3) (by lia)
  have A:=zu1 t1 (i:=6) (xs:=ys) v rfl (by lia)
  have B:=ze4 (i:=0) (zk3 (fa:=dVar 0) (t:=[.val (.int c),S1,S2,S3,.own (xs.map D.int),u5,.own ((ys++[(c.fdiv 244).fmod (most+3) - 1]).map D.int),S7]) (a:=c) rfl (m3 (ys++[(c.fdiv 244).fmod (most+3) - 1])) (by lia) (ze9 (by lia) (by lia))) (by simp)
  exact⟨t1,_,rfl,(za9 A).trans B,ys++[(c.fdiv 244).fmod (most+3) - 1],_,_,by simp [yl],snB yb (by show -10000000000000000000000000000000≤_∧_≤10000000000000000000000000000000;lia),rfl⟩) t3 ⟨[],_,_,rfl,(fun x hx=>nomatch hx),rfl⟩
 have E4:=zt2 (k0:=za5 7) (b:=f2) (n:=n) en rfl (by lia)
 rw [show (zc5 n).map D.int=(zbm1 n).map fun (j:Nat)=>D.int (j:Int) by unfold zc5;simp,e4]at E4
 let t5:Th:=[.val (.int c4),S1,S2,S3,.own (xs.map D.int),u5,.own (ys.map D.int),u7]
 have er:(dT1 kTup (za2 (dVar 4) (za2 (dVar 6) dNil))) t5=some (.tm (.tup [.lst (xs.map D.int),.lst (ys.map D.int)])):=(zj0 (rfl:dVar 4 t5=some (.tm (.lst (xs.map D.int)))) (rfl:dVar 6 t5=some (.tm (.lst (ys.map D.int))))).trans rfl
 refine⟨xs,ys,by lia,by lia,xb,yb,?_⟩
 show (zq0 [.val (.int cell),S1,S2,S3,.no,.no,.no,.no]).bind zi7=_
 unfold zq0
 exact bnd ((za9 E1).trans ((za9 E2).trans ((za9 E3).trans ((za9 E4).trans (zn8 er)))))
theorem zam7 (P:List Int) (x:Int):x∈ddp P↔x∈P:=by
 have:∀(l acc:List Int),x∈l.foldl step_dedup acc↔x∈acc∨x∈l:=by
  intro l
  induction l with
  |nil=>intro acc;simp
  |cons y l ih =>
   intro acc
   simp only [zbs6,ih,zbj4]
   unfold step_dedup
   split
   ·rename_i c
    obtain⟨z,hz,e⟩:=zbs1.mp c
    have e:z=y:=by simpa using e
    subst e
    constructor
    ·rintro (h | h)
     ·exact .inl h
     ·exact .inr (.inr h)
    ·rintro (h | h | h)
     ·exact .inl h
     ·subst h;exact .inl hz
     ·exact .inr h
   ·simp only [zbj2,zbl4,or_assoc]
 have h:=this P []
 simpa [ddp] using h
theorem cat_of {fa fb:DE}{t:Th}{r1 r2:Ev}{xs ys:List Int} (h1:fa t=some r1) (h2:fb t=some r2) (e1:r1.d=.lst (xs.map D.int)) (e2:r2.d=.lst (ys.map D.int)) (hl:xs.length+ys.length≤100000):(d2 qA fa fb) t=some (.nw ((xs++ys).map D.int)):=by
 rw [zg3 h1 h2]
 (try unfold qA);(try unfold qM);unfold kOr
 have z:kI tt2 (fun i j=>D.int (i+j)) r1 r2=none:=by (try unfold qA);(try unfold qS);(try unfold qM);(try unfold qV);(try unfold qR);(try unfold qL);(try unfold qE);(try unfold qG);(try unfold qH);(try unfold qP);unfold kI;rw [e1,e2]
 rw [z]
 show kCat r1 r2=_
 unfold kCat
 rw [e1,e2]
 show (if (r1.ok||zg9 (xs.map D.int))&&(r2.ok||zg9 (ys.map D.int))&&decide ((xs.map D.int).length+(ys.map D.int).length≤100000) then some (Ev.nw (xs.map D.int++ys.map D.int)) else none)=_
 rw [ze0,ze0,zbn2,zbn2,decide_eq_true (by rw [zbk3,zbk3];exact hl),if_pos (by rfl),zbu6]
theorem zai4:∀(ns:List Int) (n:Int),zo4 n ns=n∨zo4 n ns∈ns
 |[],n=>.inl rfl
 |y::ns,n=>by
  have h:=zai4 ns (if n<y then y else n)
  show zo4 _ ns=n∨zo4 _ ns∈y::ns
  rcases h with h | h
  ·by_cases q:n<y
   ·rw [if_pos q]at h ⊢;right;rw [h];simp
   ·rw [if_neg q]at h ⊢;left;exact h
  ·right;exact zbi6 _ h
theorem top_bd {m:Int}{ws:List Int} (h0:0<ws.length) (h:∀x∈ws,0≤x∧x≤m):0≤zax1 ws∧zax1 ws≤m:=by
 cases ws with
 |nil=>simp at h0
 |cons w ws =>
  have:zax1 (w::ws)∈w::ws:=by
   show zo4 w ws∈w::ws
   rcases zai4 ws w with z | z
   ·rw [z];exact zbi9 ..
   ·exact zbi6 _ z
  exact h _ this
theorem sets_of {f:DE}{t:Th}{r:Ev}{xs:List Int} (h:f t=some r) (hr:r.d=.lst (xs.map D.int)) (hl:xs.length≤3000) (h64:(ddp xs).length<64):(dT1 zo5 (za2 f dNil)) t=some (.nw ((sortI' (ddp xs)).map D.int)):=by
 rw [zs9 h]
 unfold zo5
 simp only [hr,zk2,zbj1]
 rw [if_pos ⟨hl,h64⟩]
theorem zbf4 {fe:DE}{p:Nat×Nat→Int}{ext:Th}:∀(us:List (Nat×Nat)) (s s':Sl),(∀u∈us,fe (.val (.int (u.1:Int))::.val (.int (u.2:Int))::ext)=some (.cl (.int (p u))))→zd5 (zf4 2 (zb2 (za5 0) (zb2 (za5 1) zg0))) ze5 fe (us.map tD) (s::s'::ext)=some ((us.map p).map D.int)
 |[],s,s',_=>rfl
 |u::us,s,s',h=>by
  have ih:=zbf4 us (.val (.int (u.1:Int))) (.val (.int (u.2:Int))) fun y hy=>h y (zbi6 _ hy)
  show (fe (.val (.int (u.1:Int))::.val (.int (u.2:Int))::ext)).bind (fun r=>(zd5 (zf4 2 (zb2 (za5 0) (zb2 (za5 1) zg0))) ze5 fe (us.map tD) (.val (.int (u.1:Int))::.val (.int (u.2:Int))::ext)).map fun xs=>r.d::xs)=_
  rw [h u (zbi9 ..),ih]
  rfl
theorem zz3 {cap:List Nat}{f:DE}{fe:DE}{t:Th}{us:List (Nat×Nat)}{p:Nat×Nat→Int}{b:Bool}{c:List D} (hf:f t=some (.cl (.lst (us.map tD)))) (hn:us.length≤50000) (hc:capD t cap=some (b,c)) (he:∀u∈us,fe (.val (.int (u.1:Int))::.val (.int (u.2:Int))::c.map Sl.val)=some (.cl (.int (p u)))) :
  (zd8 2 cap (fsL f) (zf4 2 (zb2 (za5 0) (zb2 (za5 1) zg0))) ze5 fe) t=some (.nw ((us.map p).map D.int)):=by
 unfold zd8
 have e1:fsL f t=some (true,us.map tD):=by
  unfold fsL
  rw [hf]
  rfl
 rw [e1,hc]
 simp only [zbj1]
 rw [if_pos (by simpa using hn)]
 show (zd5 _ ze5 fe (us.map tD) (Sl.no::Sl.no::c.map Sl.val)).bind _=_
 rw [zbf4 _ _ _ he]
 simp only [zbj1,ze0,zbn2,if_true]
noncomputable def okPp (d:D):Prop := ∃xs ys:List Int,xs.length≤1000∧ys.length≤1000∧nB (B1+1) xs∧nB (B1+1) ys∧d=.tup [.lst (xs.map D.int),.lst (ys.map D.int)]
theorem callt {G:List D→Option Ev}{rs:List Ev}{d:D} (h:G (rs.map Ev.d)=some (.tm d)) (ok:rs.all Ev.ok=true):zc9 G rs=some (.cl d):=by
 unfold zc9
 rw [h,ok]
 rfl
theorem zba7 (ns:List Int) (hb:∀n∈ns,n.natAbs<bndS) {M:Nat}{us:List (Nat×Nat)}{ws:List Int} (M0:0<M) (hM:M≤60) (hw:ws.length=M) (hw2:∀x∈ws,0≤x∧x≤1000000000000) (ul:us.length≤400) (hu:∀u∈us,u.1<u.2∧u.2<M):∃L:List D,L.length≤100∧(∀d∈L,okPp d)∧zg7 [.lst (ns.map D.int),.tup [.int (M:Int),.lst (us.map tD)],.lst (ws.map D.int)]=some (.nw L):=by
 let N:Sl:=.val (.lst (ns.map D.int))
 let WD:D:=.tup [.int (M:Int),.lst (us.map tD)]
 let W:Sl:=.val WD
 let S2:Sl:=.val (.lst (ws.map D.int))
 let t0:Th:=[N,W,S2,.no,.no,.no,.no,.no,.no,.no,.no]
 obtain⟨cell,_,e1⟩:=zq1 ns hb 62 [W,S2,.no,.no,.no,.no,.no,.no,.no,.no]
 have E1:=ze4 (i:=3) (t:=t0) e1 (by simp [t0])
 let S3:Sl:=.val (.int cell)
 let t1:Th:=[N,W,S2,S3,.no,.no,.no,.no,.no,.no,.no]
 have E2:=ze4 (i:=4) (t:=t1) (extt_of (f:=dVar 2) (r:=.cl (.lst (ws.map D.int))) (L:=ws) rfl rfl (by lia)) (by simp [t1])
 obtain⟨m0,m1⟩:=top_bd (ws:=ws) (by lia) hw2
 generalize zax1 ws=most at E2 m0 m1
 let S4:Sl:=.val (.int most)
 let t2:Th:=[N,W,S2,S3,S4,.no,.no,.no,.no,.no,.no]
 obtain⟨c,p,cl,pl,cb,pb,er⟩:=rule_is (M:=M) (us:=us) (ws:=ws) (by lia) hw hw2 ul hu
 let PD:D:=.tup [.lst (c.map D.int),.lst (p.map D.int)]
 have E3:=ze4 (i:=5) (t:=t2) ((zj0 (rfl:dVar 1 t2=some (.cl WD)) (rfl:dVar 2 t2=some (.cl (.lst (ws.map D.int))))).trans (callt (G:=zm5) (rs:=[.cl WD,.cl (.lst (ws.map D.int))]) (d:=PD) er rfl)) (by simp [t2])
 let S5:Sl:=.val PD
 let t3:Th:=[N,W,S2,S3,S4,S5,.no,.no,.no,.no,.no]
 have u1:=zz3 (cap:=[]) (f:=d2 kIx (dVar 1) (dC (.int 1))) (fe:=dVar 0) (t:=t3) (us:=us) (p:=fun u=>(u.1:Int)) (b:=true) (c:=[]) rfl (by lia) rfl (fun u _=>rfl)
 have u2:=zz3 (cap:=[]) (f:=d2 kIx (dVar 1) (dC (.int 1))) (fe:=dVar 1) (t:=t3) (us:=us) (p:=fun u=>(u.2:Int)) (b:=true) (c:=[]) rfl (by lia) rfl (fun u _=>rfl)
 let es:List Int:=(us.map fun u=>(u.1:Int))++us.map fun u=>(u.2:Int)
 have esl:es.length≤800:=by show ((us.map fun u=>(u.1:Int))++us.map fun u=>(u.2:Int)).length≤800;simp;lia
 have esm:∀x∈ddp es,0≤x∧x<(M:Int):=fun x hx=>by
  have:=(zam7 es x).mp hx
  rcases zbj2.mp this with z | z
  ·obtain⟨u,h,rfl⟩:=zbm9.mp z
   have:=hu u h
   lia
  ·obtain⟨u,h,rfl⟩:=zbm9.mp z
   have:=hu u h
   lia
 have dl:(ddp es).length<64:=by
  have:=zw2 (TS.ddp_nodup es) (C:=zc5 M) (fun x hx=>zk9 (esm x hx).1 (esm x hx).2)
  rw [zg2]at this
  lia
 have E4:=zs8 (i:=6) (t:=t3) (sets_of (cat_of u1 u2 (xs:=us.map fun u=>(u.1:Int)) (ys:=us.map fun u=>(u.2:Int)) rfl rfl (by simp;lia)) (xs:=es) rfl (by lia) dl) (by simp [t3])
 let en:List Int:=sortI' (ddp es)
 have enm:∀x∈en,0≤x∧x<(M:Int):=fun x hx=>by
  have:=(zam7 es x).mp ((sortI'_perm _).mem_iff.mp hx)
  rcases zbj2.mp this with z | z
  ·obtain⟨u,h,rfl⟩:=zbm9.mp z
   have:=hu u h
   lia
  ·obtain⟨u,h,rfl⟩:=zbm9.mp z
   have:=hu u h
   lia
 have enl:en.length≤M:=by
  have:=zw2 ((sortI'_perm (ddp es)).nodup_iff.mpr (TS.ddp_nodup es)) (C:=zc5 M) (fun x hx=>zk9 (enm x hx).1 (enm x hx).2)
  rw [zg2]at this
  exact this
 let S6:Sl:=.own (en.map D.int)
 let t4:Th:=[N,W,S2,S3,S4,S5,S6,.no,.no,.no,.no]
 let hv:Nat×Nat→Int:=fun u=>(if ws.getD u.2 0<ws.getD u.1 0 then ws.getD u.2 0 else ws.getD u.1 0).fdiv 2
 have h5:=zz3 (cap:=[2]) (f:=d2 kIx (dVar 1) (dC (.int 1))) (fe:=(d2 qV (dT1 qN (za2 (d2 kIx (dVar 2) (dVar 0)) (za2 (d2 kIx (dVar 2) (dVar 1)) dNil))) (dC (.int 2)))) (t:=t4) (us:=us) (p:=hv) (b:=true) (c:=[.lst (ws.map D.int)]) rfl (by lia) rfl (fun u hu'=>by
  have:=hu u hu'
  let t:Th:=[.val (.int (u.1:Int)),.val (.int (u.2:Int)),.val (.lst (ws.map D.int))]
  have i1:=zl0 (fa:=dVar 2) (fb:=dVar 0) (t:=t) (r1:=.cl (.lst (ws.map D.int))) (r2:=.cl (.int (u.1:Int))) ws u.1 rfl rfl (by lia) rfl rfl
  have i2:=zl0 (fa:=dVar 2) (fb:=dVar 1) (t:=t) (r1:=.cl (.lst (ws.map D.int))) (r2:=.cl (.int (u.2:Int))) ws u.2 rfl rfl (by lia) rfl rfl
  have k:(dT1 qN (za2 (d2 kIx (dVar 2) (dVar 0)) (za2 (d2 kIx (dVar 2) (dVar 1)) dNil))) t=some (.cl (.int (if ws.getD u.2 0<ws.getD u.1 0 then ws.getD u.2 0 else ws.getD u.1 0))):=(zj0 i1 i2).trans rfl
  exact zk3 k (fb:=dC (.int 2)) (b:=2) rfl (by decide) (ze9 (by decide) (by decide)))
 have E5:=zs8 (i:=7) (t:=t4) h5 (by simp [t4])
 let ha:=us.map hv
 have wsn:nB 1000000000000 ws:=fun x hx=>by have:=hw2 x hx;lia
 have hab:nB B1 ha:=fun x hx=>by
  obtain⟨u,_,rfl⟩:=zbm9.mp hx
  have a1:=zai3 (by decide) wsn u.1
  have a2:=zai3 (by decide) wsn u.2
  show -10000000000000000000000000000000≤hv u∧hv u≤10000000000000000000000000000000
  have:∀z:Int, -1000000000000≤z∧z≤1000000000000 → -10000000000000000000000000000000≤z.fdiv 2∧z.fdiv 2≤10000000000000000000000000000000:=fun z hz=>by
   have:=zbq8 z (by decide:(0:Int)≤2)
   lia
  refine this _ ?_
  split<;>assumption
 let S7:Sl:=.own (ha.map D.int)
 let t5:Th:=[N,W,S2,S3,S4,S5,S6,S7,.no,.no,.no]
 obtain⟨ti,hti,eti⟩:∃ti:Nat,ti≤60∧(dT1 qN (za2 (dC (.int 60)) (za2 (dT1 kLen (za2 (d2 kIx (dVar 1) (dC (.int 1))) dNil)) dNil))) t5=some (.cl (.int (ti:Int))):=by
  have h1:=zbc3 (f:=d2 kIx (dVar 1) (dC (.int 1))) (t:=t5) (r:=.cl (.lst (us.map tD))) (us:=us) rfl rfl
  have h2:(dT1 qN (za2 (dC (.int 60)) (za2 (dT1 kLen (za2 (d2 kIx (dVar 1) (dC (.int 1))) dNil)) dNil))) t5=some (.cl (.int (if (us.length:Int)<60 then (us.length:Int) else 60))):=(zj0 (rfl:dC (.int 60) t5=some (.cl (.int 60))) h1).trans rfl
  by_cases z:(us.length:Int)<60
  ·rw [if_pos z]at h2
   exact⟨us.length,by lia,h2⟩
  ·rw [if_neg z]at h2
   exact⟨60,by lia,h2⟩
 obtain⟨fx,fy,fxl,fyl,fxb,fyb,ef⟩:=free_is (M:=M) (ties:=ti) (most:=most) (cell:=cell) (by lia) hti m0 m1
 let FD:D:=.tup [.lst (fx.map D.int),.lst (fy.map D.int)]
 have E6:=ze4 (i:=8) (t:=t5) ((t4_of (rfl:dVar 3 t5=some (.cl (.int cell))) (rfl:(d2 kIx (dVar 1) (dC (.int 0))) t5=some (.cl (.int (M:Int)))) eti (rfl:dVar 4 t5=some (.cl (.int most)))).trans (callt (G:=zm6) (rs:=[.cl (.int cell),.cl (.int (M:Int)),.cl (.int (ti:Int)),.cl (.int most)]) (d:=FD) ef rfl)) (by simp [t5])
 let S8:Sl:=.val FD
 let t6:Th:=[N,W,S2,S3,S4,S5,S6,S7,S8,.no,.no]
 have cB:nB B1 c:=fun x hx=>by have:=cb x hx;show -10000000000000000000000000000000≤x∧x≤10000000000000000000000000000000;lia
 have pB:nB B1 p:=fun x hx=>by have:=pb x hx;show -10000000000000000000000000000000≤x∧x≤10000000000000000000000000000000;lia
 have bent:∀(ce:Int),∃d,okPp d∧zc9 zg8 [.cl PD,.cl (.int most),.cl (.int ce)]=some (.cl d):=fun ce=>by
  obtain⟨x',y',h1,h2,h3,h4,e⟩:=bent_is (most:=most) (cell:=ce) m0 m1 (xs:=c) (ys:=p) (by lia) (by lia) cB pB
  exact⟨_,⟨x',y',h1,h2,h3,h4,rfl⟩,callt (G:=zg8) (rs:=[.cl PD,.cl (.int most),.cl (.int ce)]) e rfl⟩
 obtain⟨d0,od0,eb0⟩:=bent cell
 have e7:(dT1 kLst (za2 (dT1 (zc9 zg8) (za2 (dVar 5) (za2 (dVar 4) (za2 (dVar 3) dNil)))) dNil)) t6=some (.nw [d0]):=(zs9 ((t3_of (rfl:dVar 5 t6=some (.cl PD)) (rfl:dVar 4 t6=some (.cl (.int most))) (rfl:dVar 3 t6=some (.cl (.int cell)))).trans eb0)).trans rfl
 have E7:=zs8 (i:=9) (t:=t6) e7 (by simp [t6])
 obtain⟨t8,e8,Bs,v10,bl,ob,rfl⟩:=zar6 (k:=za5 10) (b:=bdJ) (n:=6) (f:=fun j=>D.int (j:Int)) (P:=fun j t => ∃(Bs:List D) (v10:Sl),Bs.length=1+j∧(∀d∈Bs,okPp d)∧t=[N,W,S2,S3,S4,S5,S6,S7,S8,.own Bs,v10]) (fun j hj t ⟨Bs,v10,bl,ob,et⟩=>by
  subst et
  let t1:Th:=[N,W,S2,S3,S4,S5,S6,S7,S8,.own Bs,.val (.int (j:Int))]
  obtain⟨mx,_,_,em⟩:=zq2 (r1:=.cl (.int cell)) (r2:=.cl (.int (900+(j:Int)))) cell (k:=900+(j:Int)) (by lia) (by lia) rfl rfl
  have e1:=(zj0 (rfl:dVar 3 t1=some (.cl (.int cell))) (zi0 (fa:=dC (.int 900)) (fb:=dVar 10) (t:=t1) (a:=900) (b:=(j:Int)) rfl rfl)).trans em
  obtain⟨d,od,eb⟩:=bent mx
  have A:=app_of t1 (i:=9) ((t3_of (rfl:dVar 5 t1=some (.cl PD)) (rfl:dVar 4 t1=some (.cl (.int most))) e1).trans eb) rfl (by lia)
  refine⟨t1,_,rfl,A,Bs++[d],_,by simp [bl];lia,fun e he=>?_,rfl⟩
  rcases zbj2.mp he with z | z
  ·exact ob e z
  ·rw [zbl4.mp z];exact od) [N,W,S2,S3,S4,S5,S6,S7,S8,.own [d0],.no] ⟨[d0],_,rfl,fun e he=>by rw [zbl4.mp he];exact od0,rfl⟩
 have E8:=zt2 (k0:=za5 10) (b:=bdJ) (t:=[N,W,S2,S3,S4,S5,S6,S7,S8,.own [d0],.no]) (n:=6) (f:=dC (.int 6)) (r:=.cl (.int ((6:Nat):Int))) rfl rfl (by decide)
 rw [show (zc5 6).map D.int=(zbm1 6).map fun (j:Nat)=>D.int (j:Int) by unfold zc5;simp,e8]at E8
 let t9:Th:=[N,W,S2,S3,S4,S5,.val (.lst (en.map D.int)),.val (.lst (ha.map D.int)),S8,.val (.lst Bs),v10]
 let L6:List D:=[PD,FD,.tup [.lst (en.map D.int),.lst (ha.map D.int)],.tup [.lst ((zc5 M).map D.int),.lst (p.map D.int)],.tup [.lst (c.map D.int),.lst (ha.map D.int)],.tup [.lst [],.lst []]]
 have lr:=lr_of (f:=d2 kIx (dVar 1) (dC (.int 0))) (t:=t9) (n:=M) rfl (by lia)
 have tu4:(dT1 kTup (za2 (zu9 (za2 (d2 kIx (dVar 1) (dC (.int 0))) dNil)) (za2 (d2 kIx (dVar 5) (dC (.int 1))) dNil))) t9=some (.cl (.tup [.lst ((zc5 M).map D.int),.lst (p.map D.int)])):=(zj0 lr (rfl:(d2 kIx (dVar 5) (dC (.int 1))) t9=some (.cl (.lst (p.map D.int))))).trans rfl
 have e9:(dT1 kLst (za2 (dVar 5) (za2 (dVar 8) (za2 (dT1 kTup (za2 (dVar 6) (za2 (dVar 7) dNil))) (za2 (dT1 kTup (za2 (zu9 (za2 (d2 kIx (dVar 1) (dC (.int 0))) dNil)) (za2 (d2 kIx (dVar 5) (dC (.int 1))) dNil))) (za2 (dT1 kTup (za2 (d2 kIx (dVar 5) (dC (.int 0))) (za2 (dVar 7) dNil))) (za2 (dT1 kTup (za2 (dT1 kLst dNil) (za2 (dT1 kLst dNil) dNil))) dNil))))))) t9=some (.nw L6) :=
  (tk1 (cns (rfl:dVar 5 t9=some (.cl PD)) (cns (rfl:dVar 8 t9=some (.cl FD)) (cns (rfl:(dT1 kTup (za2 (dVar 6) (za2 (dVar 7) dNil))) t9=some (.cl (.tup [.lst (en.map D.int),.lst (ha.map D.int)]))) (cns tu4 (cns (rfl:(dT1 kTup (za2 (d2 kIx (dVar 5) (dC (.int 0))) (za2 (dVar 7) dNil))) t9=some (.cl (.tup [.lst (c.map D.int),.lst (ha.map D.int)]))) (cns (rfl:(dT1 kTup (za2 (dT1 kLst dNil) (za2 (dT1 kLst dNil) dNil))) t9=some (.cl (.tup [.lst [],.lst []]))) rfl))))))).trans rfl
 have e10:(d2 qA (dT1 kLst (za2 (dVar 5) (za2 (dVar 8) (za2 (dT1 kTup (za2 (dVar 6) (za2 (dVar 7) dNil))) (za2 (dT1 kTup (za2 (zu9 (za2 (d2 kIx (dVar 1) (dC (.int 0))) dNil)) (za2 (d2 kIx (dVar 5) (dC (.int 1))) dNil))) (za2 (dT1 kTup (za2 (d2 kIx (dVar 5) (dC (.int 0))) (za2 (dVar 7) dNil))) (za2 (dT1 kTup (za2 (dT1 kLst dNil) (za2 (dT1 kLst dNil) dNil))) dNil))))))) (dVar 9)) t9=some (.nw (L6++Bs)):=by
  rw [zg3 e9 (rfl:dVar 9 t9=some (.cl (.lst Bs)))]
  show kCat (.nw L6) (.cl (.lst Bs))=_
  unfold kCat
  simp only [Ev.d,Ev.ok,zbt2,zbu2]
  rw [if_pos (decide_eq_true (by show 6+Bs.length≤100000;lia))]
 have cx:c.length≤1000:=by lia
 have enB:nB (B1+1) en:=fun x hx=>by have:=enm x hx;show -(10000000000000000000000000000000+1)≤x∧x≤10000000000000000000000000000000+1;lia
 have naB:nB (B1+1) (zc5 M):=fun x hx=>by have:=zn3 hx;show -(10000000000000000000000000000000+1)≤x∧x≤10000000000000000000000000000000+1;lia
 have hal:ha.length≤1000:=by show (us.map hv).length≤1000;simp;lia
 refine⟨L6++Bs,by rw [zbm4];show 6+Bs.length≤100;lia,fun d hd=>?_,?_⟩
 ·rcases zbj2.mp hd with z | z
  ·simp only [L6,zbj4,zbm7,or_false]at z
   rcases z with rfl | rfl | rfl | rfl | rfl | rfl
   ·exact⟨c,p,cx,by lia,zq6 cB (by decide),zq6 pB (by decide),rfl⟩
   ·exact⟨fx,fy,by lia,by lia,zq6 fxb (by decide),zq6 fyb (by decide),rfl⟩
   ·exact⟨en,ha,by lia,hal,enB,zq6 hab (by decide),rfl⟩
   ·exact⟨zc5 M,p,by rw [zg2];lia,by lia,naB,zq6 pB (by decide),rfl⟩
   ·exact⟨c,ha,cx,hal,zq6 cB (by decide),zq6 hab (by decide),rfl⟩
   ·exact⟨[],[],by simp,by simp,(fun x hx=>nomatch hx),(fun x hx=>nomatch hx),rfl⟩
  ·exact ob d z
 ·show (zl2 t0).bind zi7=_
  unfold zl2
  have E9:(dFrz 9 (dFrz 7 (dFrz 6 (dRet reJ)))) [N,W,S2,S3,S4,S5,S6,S7,S8,.own Bs,v10]=some (.rt (.nw (L6++Bs))):=zn8 (t:=t9) (f:=reJ) e10
  exact bnd ((za9 E1).trans ((za9 E2).trans ((za9 E3).trans ((za9 E4).trans ((za9 E5).trans ((za9 E6).trans ((za9 E7).trans ((za9 E8).trans E9))))))))
def zw1 (us:List (Nat×Nat)) (p:Int):Bool:=us.any fun u=>decide ((u.1:Int)=p)||decide ((u.2:Int)=p)
theorem tO_em (p:Nat):∀(us:List (Nat×Nat)) (i:Nat),(tO p us i).isEmpty=!(zw1 us (p:Int))
 |[],i=>rfl
 |u::us,i=>by
  have ih:=tO_em p us (i+1)
  have ht:zw1 (u::us) (p:Int)=(tcU u p||zw1 us (p:Int)):=by
   unfold zw1 tcU
   simp only [zbp0]
   congr 2<;>exact decide_eq_decide.mpr (by constructor<;>intro<;>lia)
  rw [ht]
  unfold tO
  cases c:tcU u p with
  |true=>simp
  |false=>simpa using ih
theorem turn_C {s0 s1 s2 s3 s8 s9:Sl}{L P:List Int}{u:Nat×Nat} (h1:u.1<L.length) (h2:u.2<L.length) (hP:P.length<100000):∃v8,bdC [s0,s1,s2,s3,.own (L.map D.int),.own (P.map D.int),.val (.int (u.1:Int)),.val (.int (u.2:Int)),s8,s9]=some (.nx [s0,s1,s2,s3,.own ((lfC L u).map D.int),.own ((P++[prC L u]).map D.int),.val (.int (u.1:Int)),.val (.int (u.2:Int)),v8,s9]):=by
 let p:=prC L u
 let a:Sl:=.val (.int (u.1:Int))
 let b:Sl:=.val (.int (u.2:Int))
 let t:Th:=[s0,s1,s2,s3,.own (L.map D.int),.own (P.map D.int),a,b,s8,s9]
 have i1:=zl0 (fa:=dVar 4) (fb:=dVar 6) (t:=t) (r1:=.tm (.lst (L.map D.int))) (r2:=.cl (.int (u.1:Int))) L u.1 rfl rfl h1 rfl rfl
 have i2:=zl0 (fa:=dVar 4) (fb:=dVar 7) (t:=t) (r1:=.tm (.lst (L.map D.int))) (r2:=.cl (.int (u.2:Int))) L u.2 rfl rfl h2 rfl rfl
 have E1:=ze4 (i:=8) (t:=t) (d:=.int p) ((zj0 (k:=k2I fun i j=>if j<i then j else i) i1 i2).trans rfl) (by simp [t])
 have E2:=zbi1 (f:=fun i j=>i - j) (i:=4) (fk:=dVar 6) (fv:=dVar 8) (t:=[s0,s1,s2,s3,.own (L.map D.int),.own (P.map D.int),a,b,.val (.int p),s9]) (L:=L) (b:=u.1) (v:=p) rfl rfl rfl h1
 have E3:=zbi1 (f:=fun i j=>i - j) (i:=4) (fk:=dVar 7) (fv:=dVar 8) (t:=[s0,s1,s2,s3,.own ((L.set u.1 (L.getD u.1 0 - p)).map D.int),.own (P.map D.int),a,b,.val (.int p),s9]) (L:=L.set u.1 (L.getD u.1 0 - p)) (b:=u.2) (v:=p) rfl rfl rfl (by simpa using h2)
 have E4:=zu1 (i:=5) [s0,s1,s2,s3,.own ((lfC L u).map D.int),.own (P.map D.int),a,b,.val (.int p),s9] (f:=dVar 8) (xs:=P) (p:=p) rfl rfl hP
 exact⟨.val (.int p),(za9 E1).trans ((za9 E2).trans ((za9 E3).trans E4))⟩
theorem loop_C {s0 s1 s2 s3 s9:Sl}{M:Nat}:∀(us:List (Nat×Nat)) (s:List Int×List Int) (s6 s7 s8:Sl),s.1.length=M→(∀u∈us,u.1<u.2∧u.2<M)→s.2.length+us.length<100000 →
  ∃v6 v7 v8,forD (zf4 2 (zb2 (za5 6) (zb2 (za5 7) zg0))) bdC (us.map tD) [s0,s1,s2,s3,.own (s.1.map D.int),.own (s.2.map D.int),s6,s7,s8,s9]=some (.nx [s0,s1,s2,s3,.own ((us.foldl stC s).1.map D.int),.own ((us.foldl stC s).2.map D.int),v6,v7,v8,s9])
 |[],s,s6,s7,s8,_,_,_=>⟨s6,s7,s8,rfl⟩
 |u::us,s,s6,s7,s8,hL,hu,hP=>by
  simp only [zbm5]at hP
  have hu0:=hu u (zbi9 ..)
  obtain⟨v8,e⟩:=turn_C (s0:=s0) (s1:=s1) (s2:=s2) (s3:=s3) (s8:=s8) (s9:=s9) (L:=s.1) (P:=s.2) (u:=u) (by lia) (by lia) (by lia)
  obtain⟨w6,w7,w8,ih⟩:=loop_C (s0:=s0) (s1:=s1) (s2:=s2) (s3:=s3) (s9:=s9) us (stC s u) (.val (.int (u.1:Int))) (.val (.int (u.2:Int))) v8 ((zx4 _ _).trans hL) (fun v hv=>hu v (zbi6 _ hv)) (by unfold stC;simp only [zbm4,zbq7];lia)
  refine⟨w6,w7,w8,?_⟩
  have e0:(zf4 2 (zb2 (za5 6) (zb2 (za5 7) zg0))) (tD u) [s0,s1,s2,s3,.own (s.1.map D.int),.own (s.2.map D.int),s6,s7,s8,s9]=some [s0,s1,s2,s3,.own (s.1.map D.int),.own (s.2.map D.int),.val (.int (u.1:Int)),.val (.int (u.2:Int)),s8,s9]:=rfl
  simp only [zbk5,forD,e0,zbj1,e]
  exact ih
noncomputable def cvN (M:Nat) (us:List (Nat×Nat)) (ws:List Int):List Int:=(zc5 M).filter fun x=>decide ((us.foldl stC (ws,[])).1.getD x.toNat 0=0)&&zw1 us x
noncomputable def cvD (M:Nat) (us:List (Nat×Nat)) (ws:List Int):D:=.tup [.lst ((cvN M us ws).map D.int),.lst ((us.foldl stC (ws,[])).2.map D.int)]
theorem price_is {M:Nat}{us:List (Nat×Nat)}{ws:List Int} (hM:M≤1000) (hw:ws.length=M) (hl:us.length≤400) (hu:∀u∈us,u.1<u.2∧u.2<M):ze8 [.tup [.int (M:Int),.lst (us.map tD)],.lst (ws.map D.int)]=some (.tm (cvD M us ws)):=by
 let W:Sl:=.val (.tup [.int (M:Int),.lst (us.map tD)])
 let S1:Sl:=.val (.lst (ws.map D.int))
 let S3:Sl:=.val (.lst (us.map tD))
 show (zg5 [W,S1,.no,.no,.no,.no,.no,.no,.no,.no]).bind zi7=_
 have E2:=zs8 (i:=4) (t:=[W,S1,.val (.int (M:Int)),S3,.no,.no,.no,.no,.no,.no]) (zt7 (f:=dVar 1) (r:=.cl (.lst (ws.map D.int))) (xs:=ws) rfl rfl) (by simp)
 have E4:=zab9 (k:=(zf4 2 (zb2 (za5 6) (zb2 (za5 7) zg0)))) (b:=bdC) (f:=dVar 3) (t:=[W,S1,.val (.int (M:Int)),S3,.own (ws.map D.int),.own (([]:List Int).map D.int),.no,.no,.no,.no]) (r:=.cl (.lst (us.map tD))) (ds:=us.map tD) rfl rfl rfl
 obtain⟨v6,v7,v8,E5⟩:=loop_C (s0:=W) (s1:=S1) (s2:=.val (.int (M:Int))) (s3:=S3) (s9:=.no) (M:=M) us (ws,[]) .no .no .no hw hu (by simp;lia)
 have fl:=zae6 us (ws,[]) hw
 let L:=(us.foldl stC (ws,[])).1
 let P:=(us.foldl stC (ws,[])).2
 let t5:Th:=[W,S1,.val (.int (M:Int)),S3,.own (L.map D.int),.own (P.map D.int),v6,v7,v8,.no]
 have ec:=zaj4 (cap:=[0,4]) (f:=dVar 2) (ft:=ftC) (t:=t5) (n:=M) (p:=fun x=>decide (L.getD x.toNat 0=0)&&zw1 us x) (b:=false) (c:=[.tup [.int (M:Int),.lst (us.map tD)],.lst (L.map D.int)]) rfl (by lia) rfl (fun x hx=>by
  obtain⟨k,rfl,hk⟩:∃k:Nat,x=(k:Int)∧k<M:=by
   unfold zc5 at hx
   obtain⟨k,hk,rfl⟩:=zbm9.mp hx
   exact⟨k,rfl,zbp4.mp hk⟩
  let tt:Th:=[.val (.int (k:Int)),W,.val (.lst (L.map D.int))]
  have eg:=zaa8 (M:=(M:Int)) (us:=us) (by lia) k
  let xs:=tO k us 0
  have em:xs.isEmpty=!(zw1 us (k:Int)):=tO_em k us 0
  have i1:=zl0 (fa:=dVar 2) (fb:=dVar 0) (t:=tt) (r1:=.cl (.lst (L.map D.int))) (r2:=.cl (.int (k:Int))) L k rfl rfl (by have q:L.length=M:=fl;lia) rfl rfl
  have ek:(dT1 (zc9 zf3) (za2 (dVar 1) (za2 (dVar 0) dNil))) tt=some (.nw (xs.map D.int)):=(zj0 (ra:=.cl (.tup [.int (M:Int),.lst (us.map tD)])) (rb:=.cl (.int (k:Int))) rfl rfl).trans (calln eg)
  have et:(dTr (dT1 (zc9 zf3) (za2 (dVar 1) (za2 (dVar 0) dNil)))) tt=some (zw1 us (k:Int)):=by
   unfold dTr
   rw [ek]
   show some (!(xs.map D.int).isEmpty)=_
   rw [show (xs.map D.int).isEmpty=xs.isEmpty by cases xs<;>rfl,em,Bool.not_not]
  show ftC tt=_
  rw [zbl5]
  exact zl7 (zs6 i1 (rfl:dC (.int 0) tt=some (.cl (.int 0)))) et)
 have E6:=zs8 (i:=9) ec (by simp [t5])
 unfold zg5
 have er:(dT1 kTup (za2 (dVar 9) (za2 (dVar 5) dNil))) [W,S1,.val (.int (M:Int)),S3,.own (L.map D.int),.own (P.map D.int),v6,v7,v8,.own ((cvN M us ws).map D.int)]=some (.tm (cvD M us ws)):=(zj0 (ra:=.tm (.lst ((cvN M us ws).map D.int))) (rb:=.tm (.lst (P.map D.int))) rfl rfl).trans rfl
 exact bnd ((za9 (t':=[W,S1,.val (.int (M:Int)),S3,.no,.no,.no,.no,.no,.no]) rfl).trans ((za9 E2).trans ((za9 (t':=[W,S1,.val (.int (M:Int)),S3,.own (ws.map D.int),.own (([]:List Int).map D.int),.no,.no,.no,.no]) rfl).trans ((za9 (E4.trans E5)).trans ((za9 E6).trans (zn8 er))))))
def sF (X:List Int) (f:Int→Int):Int:=(X.map f).sum
theorem sF_nn {X:List Int}{f:Int→Int} (h:∀p∈X,0≤f p):0≤sF X f:=by
 induction X with
 |nil=>exact zbo0 0
 |cons a X ih =>
  have h1:=ih fun p hp=>h p (zbi6 _ hp)
  have h2:=h a (zbi9 ..)
  have:sF (a::X) f=f a+sF X f:=by simp [sF]
  lia
theorem sF_ge {X:List Int}{f:Int→Int} (h:∀p∈X,0≤f p) {q:Int} (hq:q∈X):f q≤sF X f:=by
 induction X with
 |nil=>cases hq
 |cons a X ih =>
  have e:sF (a::X) f=f a+sF X f:=by simp [sF]
  have h2:=h a (zbi9 ..)
  have h3:=sF_nn (f:=f) fun p hp=>h p (zbi6 _ hp)
  rcases zbj4.mp hq with rfl | hq
  ·lia
  ·have:=ih (fun p hp=>h p (zbi6 _ hp)) hq
   lia
theorem zay5 (X:List Int) (f g:Int→Int):sF X (fun p=>f p+g p)=sF X f+sF X g:=by
 induction X with
 |nil=>rfl
 |cons a X ih =>
  have e:∀f:Int→Int,sF (a::X) f=f a+sF X f:=fun f=>by simp [sF]
  rw [e,e,e,ih];lia
theorem sF_le {X:List Int}{f g:Int→Int} (h:∀p∈X,f p≤g p):sF X f≤sF X g:=by
 induction X with
 |nil=>exact zbo0 0
 |cons a X ih =>
  have e:∀f:Int→Int,sF (a::X) f=f a+sF X f:=fun f=>by simp [sF]
  have:=ih fun p hp=>h p (zbi6 _ hp)
  have:=h a (zbi9 ..)
  rw [e,e];lia
theorem zay4 {X:List Int}{f:Int→Int} (h:∀p∈X,f p=0):sF X f=0:=by
 induction X with
 |nil=>rfl
 |cons a X ih =>
  have e:sF (a::X) f=f a+sF X f:=by simp [sF]
  rw [e,h a (zbi9 ..),ih fun p hp=>h p (zbi6 _ hp)];rfl
theorem weak:∀(us:List (Nat×Nat)) (ps:List Int) {X:List Int},ps.length=us.length→(∀x∈ps,0≤x)→(∀u∈us,(u.1:Int)∈X∨(u.2:Int)∈X)→ps.sum≤sF X fun p=>ld p.toNat us ps
 |[],ps,X,hl,_,_=>by
  rw [zbl8.mp hl]
  exact sF_nn fun p _=>by simp [ld]
 |u::us,[],X,hl,_,_=>by simp at hl
 |u::us,x::ps,X,hl,h0,hX=>by
  have ih:=weak us ps (X:=X) (by simpa using hl) (fun y hy=>h0 y (zbi6 _ hy)) fun v hv=>hX v (zbi6 _ hv)
  have e:(sF X fun p=>ld p.toNat (u::us) (x::ps))=(sF X fun p=>if tcU u p.toNat then x else 0)+sF X fun p=>ld p.toNat us ps:=(zay5 X _ _)
  have x0:=h0 x (zbi9 ..)
  have hnn:∀p∈X,0≤(fun p:Int=>if tcU u p.toNat then x else 0) p:=fun p _=>by
   show 0≤if tcU u p.toNat then x else 0
   split<;>lia
  have k:x≤sF X fun p=>if tcU u p.toNat then x else 0:=by
   rcases hX u (zbi9 ..) with z | z
   ·have:=sF_ge (f:=fun p=>if tcU u p.toNat then x else 0) hnn z
    simpa [tcU] using this
   ·have:=sF_ge (f:=fun p=>if tcU u p.toNat then x else 0) hnn z
    simpa [tcU] using this
  rw [e,zbu3];lia
theorem zba9 {x:Int} (x0:0≤x) (a:Nat):∀ {X:List Int},X.Nodup→(∀p∈X,0≤p)→(sF X fun p=>if decide (a=p.toNat) then x else 0)≤x
 |[],_,_=>x0
 |p::X,nd,h=>by
  have nd':=zbl0.mp nd
  have e:(sF (p::X) fun p=>if decide (a=p.toNat) then x else 0)=(if decide (a=p.toNat) then x else 0)+sF X fun p=>if decide (a=p.toNat) then x else 0:=by simp [sF]
  rw [e]
  by_cases c:a=p.toNat
  ·have z:(sF X fun p=>if decide (a=p.toNat) then x else 0)=0:=zay4 fun q hq=>by
    have q0:=h q (zbi6 _ hq)
    have p0:=h p (zbi9 ..)
    have : ¬ a=q.toNat:=fun w=>nd'.1 (by rw [show p=q by lia];exact hq)
    simp [this]
   rw [z];simp [c]
  ·have:=zba9 x0 a nd'.2 fun q hq=>h q (zbi6 _ hq)
   simp only [c,decide_false,zbl2,if_false]
   lia
theorem two_le {x:Int} (x0:0≤x) (u:Nat×Nat) {X:List Int} (nd:X.Nodup) (h:∀p∈X,0≤p):(sF X fun p=>if tcU u p.toNat then x else 0)≤2*x:=by
 have h1:=zba9 x0 u.1 nd h
 have h2:=zba9 x0 u.2 nd h
 have h3:=zay5 X (fun p=>if decide (u.1=p.toNat) then x else 0) (fun p=>if decide (u.2=p.toNat) then x else 0)
 have h4:(sF X fun p=>if tcU u p.toNat then x else 0)≤sF X fun p=>(if decide (u.1=p.toNat) then x else 0)+(if decide (u.2=p.toNat) then x else 0):=sF_le fun p _=>by
  unfold tcU
  cases decide (u.1=p.toNat)<;>cases decide (u.2=p.toNat)<;>simp<;>lia
 lia
theorem twice:∀(us:List (Nat×Nat)) (ps:List Int) {X:List Int},ps.length=us.length→(∀x∈ps,0≤x)→X.Nodup→(∀p∈X,0≤p)→(sF X fun p=>ld p.toNat us ps)≤2*ps.sum
 |[],ps,X,hl,_,_,_=>by
  rw [zbl8.mp hl]
  have z:(sF X fun p=>ld p.toNat [] [])=0:=zay4 fun p _=>rfl
  rw [z];decide
 |u::us,[],X,hl,_,_,_=>by simp at hl
 |u::us,x::ps,X,hl,h0,nd,hX=>by
  have ih:=twice us ps (X:=X) (by simpa using hl) (fun y hy=>h0 y (zbi6 _ hy)) nd hX
  have e:(sF X fun p=>ld p.toNat (u::us) (x::ps))=(sF X fun p=>if tcU u p.toNat then x else 0)+sF X fun p=>ld p.toNat us ps:=(zay5 X _ _)
  have:=two_le (h0 x (zbi9 ..)) u nd hX
  rw [e,zbu3];lia
def prs:List (Nat×Nat)→List Int→List Int
 |[],_=>[]
 |u::us,L=>prC L u::prs us (lfC L u)
def lff:List (Nat×Nat)→List Int→List Int
 |[],L=>L
 |u::us,L=>lff us (lfC L u)
theorem zbd9:∀(us:List (Nat×Nat)) (L P:List Int),us.foldl stC (L,P)=(lff us L,P++prs us L)
 |[],L,P=>by simp [prs,lff]
 |u::us,L,P=>by
  show us.foldl stC (lfC L u,P++[prC L u])=_
  rw [zbd9 us]
  simp [prs,lff]
theorem zal4:∀(us:List (Nat×Nat)) (L:List Int),(prs us L).length=us.length
 |[],_=>rfl
 |u::us,L=>by simp [prs,zal4 us]
theorem zap6 {M:Nat}:∀(us:List (Nat×Nat)) (L:List Int),L.length=M→nnL L→(∀u∈us,u.1<u.2∧u.2<M)→nnL (lff us L)∧(∀x∈prs us L,0≤x)∧(∀p:Nat,ld p us (prs us L)+(lff us L).getD p 0=L.getD p 0)∧(∀p,(lff us L).getD p 0≤L.getD p 0)∧∀u∈us,(lff us L).getD u.1 0=0∨(lff us L).getD u.2 0=0
 |[],L,_,hn,_=>⟨hn,(fun x hx=>nomatch hx),(fun p=>by simp [ld,lff]),fun p=>zbo0 _,fun u hu=>nomatch hu⟩
 |u::us,L,hl,hn,hu=>by
  have hu0:=hu u (zbi9 ..)
  have hn':=lfC_nn hn hu0.1 (by lia)
  obtain⟨i1,i2,i3,i4,i5⟩:=zap6 us (lfC L u) ((zx4 L u).trans hl) hn' fun v hv=>hu v (zbi6 _ hv)
  have g:=zam8 (L:=L) (u:=u) hu0.1 (by lia)
  have p0:=prC_nn hn u
  refine⟨i1,fun x hx=>?_,fun p=>?_,fun p=>?_,fun v hv=>?_⟩
  ·rcases zbj4.mp hx with rfl | hx
   ·exact p0
   ·exact i2 x hx
  ·have h3:=i3 p
   have gp:=g p
   show (if tcU u p then prC L u else 0)+ld p us (prs us (lfC L u))+(lff us (lfC L u)).getD p 0=_
   by_cases c:p=u.1∨p=u.2
   ·rw [if_pos c]at gp
    have:tcU u p=true:=by unfold tcU;rcases c with c | c<;>simp [c]
    rw [this,if_pos rfl];lia
   ·rw [if_neg c]at gp
    have:tcU u p=false:=by
     unfold tcU
     have c1 : ¬ u.1=p:=fun z=>c (.inl z.symm)
     have c2 : ¬ u.2=p:=fun z=>c (.inr z.symm)
     simp [c1,c2]
    rw [this,if_neg (by decide)];lia
  ·have h4:=i4 p
   have gp:=g p
   show (lff us (lfC L u)).getD p 0≤_
   split at gp<;>lia
  ·rcases zbj4.mp hv with rfl | hv
   ·have a1:=g v.1
    have a2:=g v.2
    rw [if_pos (.inl rfl)]at a1
    rw [if_pos (.inr rfl)]at a2
    have b1:=i4 v.1
    have b2:=i4 v.2
    have c1:=i1 v.1
    have c2:=i1 v.2
    show (lff us (lfC L v)).getD v.1 0=0∨(lff us (lfC L v)).getD v.2 0=0
    unfold prC at a1 a2
    split at a1
    ·right;rw [if_pos (by assumption)]at a2;lia
    ·left;lia
   ·exact i5 v hv
theorem zw3 {M:Int} (p:Int→Bool):∀(n i:Nat) (a:Int),a<(i:Int)→((i+n:Nat):Int)≤M→a<M→rsB M a (((List.range' i n).map fun (k:Nat)=>(k:Int)).filter p)=true
 |0,i,a,_,_,h=>by simp [rsB,h]
 |n+1,i,a,h1,h2,h3=>by
  rw [zca2,zbk5,zbt3]
  split
  ·simp only [rsB,zbj3,decide_eq_true_eq]
   exact⟨h1,zw3 p n (i+1) (i:Int) (by lia) (by lia) (by lia)⟩
  ·exact zw3 p n (i+1) a (by lia) (by lia) h3
theorem zad3 {M:Int}:∀(cs:List Int) (a:Int),rsB M a cs=true→cs.Nodup
 |[],_,_=>zbo5
 |c::cs,a,h=>by
  simp only [rsB,zbj3]at h
  exact zbl0.mpr ⟨fun z=>by have:=(zay6 cs c h.2).2 c z;lia,zad3 cs c h.2⟩
theorem told_let {M:Nat}{us:List (Nat×Nat)}{ws:List Int} (hM:M≤900) (M0:0<M) (hw:ws.length=M) (hw2:∀x∈ws,0≤x∧x≤1000000000000) (hu:∀u∈us,u.1<u.2∧u.2<M):lcB M us ws (cvN M us ws) (us.foldl stC (ws,[])).2=true:=by
 have wn:nnL ws:=fun j=>by
  by_cases c:j<ws.length
  ·have:=hw2 (ws.getD j 0) (by rw [zbl1,zbj6 c];simp)
   lia
  ·rw [zbl1,zbn1 (by lia)];exact zbo0 0
 obtain⟨i1,i2,i3,i4,i5⟩:=zap6 us ws hw wn hu
 unfold lcB cvN
 rw [zbd9,List.nil_append]
 let F:Int→Bool:=fun x=>decide ((lff us ws).getD x.toNat 0=0)&&zw1 us x
 have hr:rsB (M:Int) (-1) ((zc5 M).filter F)=true:=by
  unfold zc5
  rw [zbx6]
  exact zw3 F M 0 (-1) (by decide) (by lia) (by lia)
 have hc:cvB us ((zc5 M).filter F)=true:=by
  unfold cvB
  refine zbm6.mpr fun u hu'=>?_
  have h:=hu u hu'
  have tm:∀q:Int,(u.1:Int)=q∨(u.2:Int)=q→zw1 us q=true:=fun q z=>zbs1.mpr ⟨u,hu',by rcases z with z | z<;>simp [z]⟩
  rw [zbr1,decide_eq_true_eq,decide_eq_true_eq]
  rcases i5 u hu' with z | z
  ·exact .inl (zbo2.mpr ⟨zk9 (by lia) (by lia),by simp only [F,zbj3,decide_eq_true_eq];exact⟨by simpa using z,tm _ (.inl rfl)⟩⟩)
  ·exact .inr (zbo2.mpr ⟨zk9 (by lia) (by lia),by simp only [F,zbj3,decide_eq_true_eq];exact⟨by simpa using z,tm _ (.inr rfl)⟩⟩)
 have hp:pyB M us ws (prs us ws)=true:=by
  unfold pyB
  rw [zbj3,zbj3,decide_eq_true_eq]
  refine⟨zal4 us ws,?_,zbm6.mpr fun x hx=>?_⟩
  ·rw [zbz3]
   refine zbv7.mpr fun x hx=>?_
   have:=i2 x hx
   simp;lia
  ·have h3:=i3 x.toNat
   have h1:=i1 x.toNat
   exact decide_eq_true (by lia)
 have nd:((zc5 M).filter F).Nodup:=zad3 _ _ hr
 have hs:((((zc5 M).filter F)).map fun p=>ws.getD p.toNat 0).sum≤2*(prs us ws).sum:=by
  have h1:=twice us (prs us ws) (zal4 us ws) i2 nd fun p hp=>(by
   have:=(zay6 _ _ hr).2 p hp
   lia)
  have h2:(sF ((zc5 M).filter F) fun p=>ws.getD p.toNat 0)≤sF ((zc5 M).filter F) fun p=>ld p.toNat us (prs us ws):=sF_le fun p hp=>by
   have h3:=i3 p.toNat
   have hz:=(zbo2.mp hp).2
   simp only [F,zbj3,decide_eq_true_eq]at hz
   have:=hz.1
   lia
  exact zca0 h2 h1
 rw [zbj3,zbj3,zbj3]
 exact⟨⟨hr,hc⟩,hp,decide_eq_true hs⟩
theorem let_show {M:Nat}{us:List (Nat×Nat)}{ws cs ps:List Int} (h:lcB M us ws cs ps=true):cs.Nodup∧(∀c∈cs,0≤c∧c<(M:Int))∧(∀u∈us,(u.1:Int)∈cs∨(u.2:Int)∈cs)∧∀X:List Int,(∀p∈X,0≤p∧p<(M:Int))→(∀u∈us,(u.1:Int)∈X∨(u.2:Int)∈X)→(cs.map fun p=>ws.getD p.toNat 0).sum≤2*(X.map fun p=>ws.getD p.toNat 0).sum:=by
 unfold lcB at h
 rw [zbj3,zbj3,zbj3]at h
 obtain⟨⟨hr,hc⟩,hp,hs⟩:=h
 refine⟨zad3 _ _ hr,fun c hc=>by have:=(zay6 _ _ hr).2 c hc;lia,fun u hu=>?_,fun X hX hXu=>?_⟩
 ·have:=zbm6.mp hc u hu
  simpa using this
 ·unfold pyB at hp
  rw [zbj3,zbj3,decide_eq_true_eq]at hp
  obtain⟨h1,h2,h3⟩:=hp
  have h2':∀x∈ps,0≤x:=fun x hx=>by
   rw [zbz3]at h2
   have:=zbv7.mp h2 x hx
   simp at this;lia
  have w:=weak us ps (X:=X) h1 h2' hXu
  have w2:(sF X fun p=>ld p.toNat us ps)≤sF X fun p=>ws.getD p.toNat 0:=sF_le fun p hp=>by
   have:=zbm6.mp h3 p (zk9 (hX p hp).1 (hX p hp).2)
   simpa using this
  have hs:=of_decide_eq_true hs
  have w2':(sF X fun p=>ld p.toNat us ps)≤(X.map fun p=>ws.getD p.toNat 0).sum:=w2
  lia
theorem meets_is {M:Int}{us:List (Nat×Nat)}{cs:List Int} (h:∀u∈us,(u.1:Int)∈cs∨(u.2:Int)∈cs):zi3 [.tup [.int M,.lst (us.map tD)],.lst (cs.map D.int)]=some (.cl (.bl true)):=by
 let W:Sl:=.val (.tup [.int M,.lst (us.map tD)])
 let C:Sl:=.val (.lst (cs.map D.int))
 have E:=zab9 (k:=ktE) (b:=bdE) (f:=d2 kIx (dVar 0) (dC (.int 1))) (t:=[W,C,.no,.no]) (r:=.cl (.lst (us.map tD))) (ds:=us.map tD) rfl rfl rfl
 obtain⟨t',e,v2,v3,rfl⟩:=for_P (k:=ktE) (b:=bdE) (P:=fun t => ∃v2 v3,t=[W,C,v2,v3]) (us.map tD) (fun d hd t ⟨v2,v3,et⟩=>by
  subst et
  obtain⟨u,hu,rfl⟩:=zbm9.mp hd
  let t1:Th:=[W,C,.val (.int (u.1:Int)),.val (.int (u.2:Int))]
  have c1:=nin_of (fa:=dVar 2) (fb:=dVar 1) (t:=t1) (r1:=.cl (.int (u.1:Int))) (r2:=.cl (.lst (cs.map D.int))) (u.1:Int) cs rfl rfl rfl rfl
  have c2:=nin_of (fa:=dVar 3) (fb:=dVar 1) (t:=t1) (r1:=.cl (.int (u.2:Int))) (r2:=.cl (.lst (cs.map D.int))) (u.2:Int) cs rfl rfl rfl rfl
  exact⟨t1,t1,rfl,grd (zl7 c1 c2) (by rcases h u hu with z | z<;>simp [z]),_,_,rfl⟩) [W,C,.no,.no] ⟨_,_,rfl⟩
 show (dSeq (dFor ktE _ bdE) _ [W,C,.no,.no]).bind zi7=_
 exact bnd ((za9 (E.trans e)).trans rfl)
def bt (b x:Nat):Bool:=decide (Builtin.bitAnd ((b:Int) / 2 ^ x) 1=1)
theorem bt_two:∀b:Nat,b<512→∀x:Nat,x<9→decide (Builtin.bitAnd ((b:Int) / 2 ^ x) 1=0)=!bt b x:=by decide +kernel
theorem bt_all:∀m:Nat,m<10→∀x:Nat,x<m→bt (2 ^ m - 1) x=true:=by decide +kernel
noncomputable def anD (i j:Nat):DE:=(d2 (kI tt2 fun i j=>.int (Builtin.bitAnd i j)) (d2 (kI cShr fun i j=>.int (i / 2 ^ j.toNat)) (dVar i) (dVar j)) (dC (.int 1)))
theorem zbi2 {t:Th}{i j b x:Nat} (h1:dVar i t=some (.cl (.int (b:Int)))) (h2:dVar j t=some (.cl (.int (x:Int)))):anD i j t=some (.cl (.int (Builtin.bitAnd ((b:Int) / 2 ^ x) 1))):=by
 have e1:(d2 (kI cShr fun i j=>.int (i / 2 ^ j.toNat)) (dVar i) (dVar j)) t=some (.cl (.int ((b:Int) / 2 ^ x))):=by
  rw [zg3 h1 h2]
  have:(0:Int)≤(x:Int):=by lia
  simp [kI,Ev.d,cShr,this]
 exact (zg3 e1 (rfl:dC (.int 1) t=some (.cl (.int 1)))).trans rfl
noncomputable def bdI:DS:=(dIfS (dAnd (dBo (d2 kEq (anD 3 5) (dC (.int 0)))) (dBo (d2 kEq (anD 3 6) (dC (.int 0))))) (dSeq (dAsg 4 (dC (.bl false))) dBrk) zh0)
def gd (us:List (Nat×Nat)) (b:Nat):Bool:=us.all fun u=>bt b u.1||bt b u.2
theorem loop_I {W S1 s2 s7:Sl}{b:Nat} (hb:b<512):∀(us:List (Nat×Nat)) (s5 s6:Sl),(∀u∈us,u.1<9∧u.2<9)→∃v5 v6,forD ktI bdI (us.map tD) [W,S1,s2,.val (.int (b:Int)),.val (.bl true),s5,s6,s7]=some (.nx [W,S1,s2,.val (.int (b:Int)),.val (.bl (gd us b)),v5,v6,s7])
 |[],s5,s6,_=>⟨s5,s6,rfl⟩
 |u::us,s5,s6,h=>by
  have h0:=h u (zbi9 ..)
  let t1:Th:=[W,S1,s2,.val (.int (b:Int)),.val (.bl true),.val (.int (u.1:Int)),.val (.int (u.2:Int)),s7]
  have e0:ktI (tD u) [W,S1,s2,.val (.int (b:Int)),.val (.bl true),s5,s6,s7]=some t1:=rfl
  have c1:=zs6 (zbi2 (t:=t1) (i:=3) (j:=5) (b:=b) (x:=u.1) rfl rfl) (rfl:dC (.int 0) t1=some (.cl (.int 0)))
  have c2:=zs6 (zbi2 (t:=t1) (i:=3) (j:=6) (b:=b) (x:=u.2) rfl rfl) (rfl:dC (.int 0) t1=some (.cl (.int 0)))
  rw [bt_two b hb u.1 h0.1]at c1
  rw [bt_two b hb u.2 h0.2]at c2
  have c:=zl7 c1 c2
  have eg:gd (u::us) b=((bt b u.1||bt b u.2)&&gd us b):=rfl
  cases z:(bt b u.1||bt b u.2) with
  |true =>
   have z':(!bt b u.1&&!bt b u.2)=false:=by rw [← Bool.not_or,z];rfl
   have e1:bdI t1=some (.nx t1):=grd c z'
   obtain⟨v5,v6,ih⟩:=loop_I (W:=W) (S1:=S1) (s2:=s2) (s7:=s7) hb us (.val (.int (u.1:Int))) (.val (.int (u.2:Int))) fun v hv=>h v (zbi6 _ hv)
   refine⟨v5,v6,?_⟩
   simp only [zbk5,forD,e0,zbj1,e1]
   rw [eg,z,zbu2]
   exact ih
  |false =>
   have z':(!bt b u.1&&!bt b u.2)=true:=by rw [← Bool.not_or,z];rfl
   have e1:bdI t1=some (.bk [W,S1,s2,.val (.int (b:Int)),.val (.bl false),.val (.int (u.1:Int)),.val (.int (u.2:Int)),s7]):=(zt8 c z').trans rfl
   refine⟨.val (.int (u.1:Int)),.val (.int (u.2:Int)),?_⟩
   simp only [zbk5,forD,e0,zbj1,e1]
   rw [eg,z,Bool.false_and]
theorem zbf5 {ft:DT}{fe:DE}{p:Int→Bool}{g:Int→Int}{ext:Th}:∀(l:List Int) (s:Sl),(∀x∈l,ft (.val (.int x)::ext)=some (p x))→(∀x∈l,fe (.val (.int x)::ext)=some (.cl (.int (g x))))→zd5 (za5 0) ft fe (l.map D.int) (s::ext)=some (((l.filter p).map g).map D.int)
 |[],s,_,_=>rfl
 |x::l,s,h,h'=>by
  have e0:za5 0 (.int x) (s::ext)=some (.val (.int x)::ext):=rfl
  have ih:=zbf5 (ft:=ft) (fe:=fe) (p:=p) (g:=g) (ext:=ext) l (.val (.int x)) (fun y hy=>h y (zbi6 _ hy)) (fun y hy=>h' y (zbi6 _ hy))
  simp only [zbk5,zd5,e0,zbj1,h x (zbi9 ..),h' x (zbi9 ..),ih]
  rw [zbt3]
  cases p x<;>simp [Ev.d]
theorem zav9 {cap:List Nat}{f:DE}{ft:DT}{fe:DE}{t:Th}{n:Nat}{p:Int→Bool}{g:Int→Int}{b:Bool}{c:List D} (hf:f t=some (.cl (.int (n:Int)))) (hn:n≤50000) (hc:capD t cap=some (b,c)) (he:∀x∈zc5 n,ft (.val (.int x)::c.map Sl.val)=some (p x)) (hg:∀x∈zc5 n,fe (.val (.int x)::c.map Sl.val)=some (.cl (.int (g x)))) :
  zd8 1 cap (fsR1 f) (za5 0) ft fe t=some (.nw ((((zc5 n).filter p).map g).map D.int)):=by
 unfold zd8
 have e2:zd5 (za5 0) ft fe ((zc5 n).map D.int) (Sl.no::c.map Sl.val)=some ((((zc5 n).filter p).map g).map D.int):=zbf5 _ _ he hg
 rw [zap7 hf hn,hc]
 simp only [zbj1]
 rw [if_pos (by rw [zbk3,zg2];exact hn)]
 show (zd5 (za5 0) ft fe ((zc5 n).map D.int) (Sl.no::c.map Sl.val)).bind _=_
 rw [e2]
 simp only [zbj1,ze0,zbn2,if_true]
noncomputable def feS:DE:=(dT1 kSum (za2 (zd8 1 [3,1] (fsR1 (d2 kIx (dVar 0) (dC (.int 0)))) (za5 0) (dBo (d2 kEq (anD 1 0) (dC (.int 1)))) (d2 kIx (dVar 2) (dVar 0))) dNil))
noncomputable def bdS2:DS:=(dSeq (dAsg 7 feS) (dIfS (dOr (dBo (d2 kIs (dVar 2) (dC .non))) (dBo (d2 qL (dVar 7) (dVar 2)))) (dAsg 2 (dVar 7)) zh0))
def bdB:DS:=(dSeq (dAsg 4 (dC (.bl true))) (dSeq (dFor ktI (d2 kIx (dVar 0) (dC (.int 1))) bdI) (dIfS (dTr (dVar 4)) bdS2 zh0)))
theorem least_eq:zn5=(dSeq (dAsg 2 (dC .non)) (dSeq (zz1 (za5 3) (d2 (kI cPow fun i j=>.int (i*2 ^ j.toNat)) (dC (.int 1)) (d2 kIx (dVar 0) (dC (.int 0)))) bdB) (zbf0 2))):=rfl
def bX (M b:Nat):List Int:=(zc5 M).filter fun x=>bt b x.toNat
def wX (ws:List Int) (X:List Int):Int:=(X.map fun p=>ws.getD p.toNat 0).sum
def lsD (o:Option Int):D:=match o with | none=>.non | some v=>.int v
noncomputable def okL (M:Nat) (us:List (Nat×Nat)) (ws:List Int) (j:Nat) (o:Option Int):Prop:=(o=none∧∀b,b<j→gd us b=false)∨∃v b,o=some v∧gd us b=true∧v=wX ws (bX M b)
theorem turn_Bb {M:Nat}{us:List (Nat×Nat)}{ws:List Int} (hM:M≤9) (hw:ws.length=M) (hu:∀u∈us,u.1<u.2∧u.2<M) {b:Nat} (hb:b<512) {o:Option Int} (ho:okL M us ws b o) (s4 s5 s6 s7:Sl):∃o' v4 v5 v6 v7,okL M us ws (b+1) o'∧bdB [.val (.tup [.int (M:Int),.lst (us.map tD)]),.val (.lst (ws.map D.int)),.val (lsD o),.val (.int (b:Int)),s4,s5,s6,s7]=some (.nx [.val (.tup [.int (M:Int),.lst (us.map tD)]),.val (.lst (ws.map D.int)),.val (lsD o'),.val (.int (b:Int)),v4,v5,v6,v7]):=by
 let W:Sl:=.val (.tup [.int (M:Int),.lst (us.map tD)])
 let S1:Sl:=.val (.lst (ws.map D.int))
 let B:Sl:=.val (.int (b:Int))
 obtain⟨v5,v6,e⟩:=loop_I (W:=W) (S1:=S1) (s2:=.val (lsD o)) (s7:=s7) hb us s5 s6 fun u h=>by have:=hu u h;lia
 have E2:=(zab9 (k:=ktI) (b:=bdI) (f:=d2 kIx (dVar 0) (dC (.int 1))) (t:=[W,S1,.val (lsD o),B,.val (.bl true),s5,s6,s7]) (r:=.cl (.lst (us.map tD))) (ds:=us.map tD) rfl rfl rfl).trans e
 have st:∀r,(dIfS (dTr (dVar 4)) bdS2 zh0) [W,S1,.val (lsD o),B,.val (.bl (gd us b)),v5,v6,s7]=r→bdB [W,S1,.val (lsD o),B,s4,s5,s6,s7]=r:=fun r h=>by
  unfold bdB
  exact (za9 (t':=[W,S1,.val (lsD o),B,.val (.bl true),s5,s6,s7]) rfl).trans ((za9 E2).trans h)
 let t3:Th:=[W,S1,.val (lsD o),B,.val (.bl (gd us b)),v5,v6,s7]
 have c3:(dTr (dVar 4)) t3=some (gd us b):=zw0 (rfl:dVar 4 t3=some (.cl (.bl (gd us b))))
 cases z:gd us b with
 |false =>
  refine⟨o,.val (.bl (gd us b)),v5,v6,s7,?_,st _ (grd c3 z)⟩
  rcases ho with ⟨h1,h2⟩ |h
  ·refine .inl ⟨h1,fun c hc=>?_⟩
   by_cases q:c=b
   ·rw [q];exact z
   ·exact h2 c (by lia)
  ·exact .inr h
 |true =>
  have es:feS t3=some (.cl (.int (wX ws (bX M b)))):=by
   refine (zaf9 (xs:=(bX M b).map fun p=>ws.getD p.toNat 0) (zav9 (cap:=[3,1]) (f:=d2 kIx (dVar 0) (dC (.int 0))) (ft:=dBo (d2 kEq (anD 1 0) (dC (.int 1)))) (fe:=d2 kIx (dVar 2) (dVar 0)) (t:=t3) (n:=M) (p:=fun x=>bt b x.toNat) (g:=fun p=>ws.getD p.toNat 0) (b:=true) (c:=[.int (b:Int),.lst (ws.map D.int)]) rfl (by lia) rfl (fun x hx=>?_) (fun x hx=>?_)) rfl)
   ·have:=zn3 hx
    obtain⟨k,rfl⟩:∃k:Nat,x=(k:Int):=⟨x.toNat,by lia⟩
    let tt:Th:=[.val (.int (k:Int)),.val (.int (b:Int)),.val (.lst (ws.map D.int))]
    rw [zbl5]
    exact zs6 (zbi2 (t:=tt) (i:=1) (j:=0) (b:=b) (x:=k) rfl rfl) (rfl:dC (.int 1) tt=some (.cl (.int 1)))
   ·have:=zn3 hx
    obtain⟨k,rfl⟩:∃k:Nat,x=(k:Int):=⟨x.toNat,by lia⟩
    let tt:Th:=[.val (.int (k:Int)),.val (.int (b:Int)),.val (.lst (ws.map D.int))]
    rw [zbl5]
    exact zl0 (fa:=dVar 2) (fb:=dVar 0) (t:=tt) (r1:=.cl (.lst (ws.map D.int))) (r2:=.cl (.int (k:Int))) ws k rfl rfl (by lia) rfl rfl
  have E7:=ze4 (i:=7) es (by simp [t3])
  let v:=wX ws (bX M b)
  let t4:Th:=[W,S1,.val (lsD o),B,.val (.bl (gd us b)),v5,v6,.val (.int v)]
  have hv:∃o',okL M us ws (b+1) o'∧(dIfS (dOr (dBo (d2 kIs (dVar 2) (dC .non))) (dBo (d2 qL (dVar 7) (dVar 2)))) (dAsg 2 (dVar 7)) zh0) t4=some (.nx [W,S1,.val (lsD o'),B,.val (.bl (gd us b)),v5,v6,.val (.int v)]):=by
   cases o with
   |none =>
    exact⟨some v,.inr ⟨v,b,rfl,z,rfl⟩,(zt8 (b:=true) (or_of (a:=true) (b:=true) rfl (fun q=>by cases q)) rfl).trans rfl⟩
   |some w =>
    have c4:=zah5 (f:=dBo (d2 kIs (dVar 2) (dC .non))) (t:=t4) (a:=false) rfl (zbb8 (fa:=dVar 7) (fb:=dVar 2) (t:=t4) (a:=v) (b:=w) rfl rfl)
    by_cases q:v<w
    ·exact⟨some v,.inr ⟨v,b,rfl,z,rfl⟩,(zt8 c4 (by simp [q])).trans rfl⟩
    ·refine⟨some w,?_,grd c4 (by simp [q])⟩
     rcases ho with ⟨h1,_⟩ |h
     ·cases h1
     ·exact .inr h
  obtain⟨o',k1,k2⟩:=hv
  refine⟨o',.val (.bl (gd us b)),v5,v6,.val (.int v),k1,st _ ((zt8 c3 z).trans ?_)⟩
  unfold bdS2
  exact (za9 E7).trans k2
theorem least_is {M:Nat}{us:List (Nat×Nat)}{ws:List Int} (M0:0<M) (hM:M≤9) (hw:ws.length=M) (hu:∀u∈us,u.1<u.2∧u.2<M):∃X:List Int,(∀p∈X,0≤p∧p<(M:Int))∧X.length≤M∧(∀u∈us,(u.1:Int)∈X∨(u.2:Int)∈X)∧zi4 [.tup [.int (M:Int),.lst (us.map tD)],.lst (ws.map D.int)]=some (.cl (.int (wX ws X))):=by
 let W:Sl:=.val (.tup [.int (M:Int),.lst (us.map tD)])
 let S1:Sl:=.val (.lst (ws.map D.int))
 have p512:2 ^ M≤512:=zbp6 (n:=2) (by decide) hM
 let t1:Th:=[W,S1,.val .non,.no,.no,.no,.no,.no]
 have e1:(d2 (kI cPow fun i j=>.int (i*2 ^ j.toNat)) (dC (.int 1)) (d2 kIx (dVar 0) (dC (.int 0)))) t1=some (.cl (.int ((2 ^ M:Nat):Int))):=by
  rw [zg3 (rfl:dC (.int 1) t1=some (.cl (.int 1))) (rfl:(d2 kIx (dVar 0) (dC (.int 0))) t1=some (.cl (.int (M:Int))))]
  have:cPow 1 (M:Int)=true:=by unfold cPow;exact decide_eq_true ⟨by lia,by lia,by decide⟩
  show (if cPow 1 (M:Int) then some (Ev.cl (D.int (1*2 ^ (M:Int).toNat))) else none)=_
  rw [if_pos this,Int.one_mul,zbl5]
  simp
 obtain⟨t',e,o,v3,v4,v5,v6,v7,ho,rfl⟩:=zar6 (k:=za5 3) (b:=bdB) (n:=2 ^ M) (f:=fun j=>D.int (j:Int)) (P:=fun j t => ∃o v3 v4 v5 v6 v7,okL M us ws j o∧t=[W,S1,.val (lsD o),v3,v4,v5,v6,v7]) (fun j hj t ⟨o,v3,v4,v5,v6,v7,ho,et⟩=>by
  subst et
  obtain⟨o',w4,w5,w6,w7,h,e⟩:=turn_Bb hM hw hu (b:=j) (by lia) ho v4 v5 v6 v7
  exact⟨_,_,rfl,e,o',_,w4,w5,w6,w7,h,rfl⟩) t1 ⟨none,_,_,_,_,_,.inl ⟨rfl,fun b hb=>by lia⟩,rfl⟩
 have E2:=zt2 (k0:=za5 3) (b:=bdB) (t:=t1) (n:=2 ^ M) (r:=.cl (.int ((2 ^ M:Nat):Int))) e1 rfl (by lia)
 rw [show (zc5 (2 ^ M)).map D.int=(zbm1 (2 ^ M)).map fun (j:Nat)=>D.int (j:Int) by unfold zc5;simp,e]at E2
 have pos:0<2 ^ M:=Nat.pow_pos (by decide)
 rcases ho with ⟨_,h⟩ | ⟨v,b,rfl,hg,hv⟩
 ·have:=h (2 ^ M - 1) (by lia)
  have:gd us (2 ^ M - 1)=true:=zbm6.mpr fun u hu'=>by
   have:=hu u hu'
   rw [bt_all M (by lia) u.1 (by lia)];rfl
  simp_all
 ·refine⟨bX M b,fun p hp=>zn3 (zbo2.mp hp).1,?_,fun u hu'=>?_,?_⟩
  ·have:=zbt0 (fun x=>bt b x.toNat) (zc5 M)
   rw [zg2]at this
   exact this
  ·have h1:=hu u hu'
   have:=zbm6.mp hg u hu'
   rcases (zbr1 _ _).mp this with z | z
   ·exact .inl (zbo2.mpr ⟨zk9 (by lia) (by lia),by simpa using z⟩)
   ·exact .inr (zbo2.mpr ⟨zk9 (by lia) (by lia),by simpa using z⟩)
  ·show (zn5 [W,S1,.no,.no,.no,.no,.no,.no]).bind zi7=_
   rw [least_eq, ← hv]
   exact bnd ((za9 (t':=t1) rfl).trans ((za9 E2).trans rfl))
theorem ddp_nd:∀(xs:List Int),xs.Nodup→(ddp xs).length=xs.length:=fun xs h=>by
 have h1:=zw2 h (C:=ddp xs) fun x hx=>(zam7 xs x).mpr hx
 have h2:=ddp_le xs
 lia
theorem lset_of {f:DE}{t:Th}{r:Ev}{xs:List Int} (h:f t=some r) (hr:r.d=.lst (xs.map D.int)) (hl:xs.length≤3000):(dT1 zx8 (za2 f dNil)) t=some (.cl (.int ((ddp xs).length:Int))):=by
 rw [zs9 h]
 unfold zx8
 simp only [hr,zk2,zbj1,if_pos hl]
theorem zbf8 {cap:List Nat}{f:DE}{ft:DT}{t:Th}{r:Ev}{xs:List Int}{p:Int→Bool}{b:Bool}{c:List D} (hf:f t=some r) (hr:r.d=.lst (xs.map D.int)) (hn:xs.length≤50000) (hc:capD t cap=some (b,c)) (he:∀x∈xs,ft (.val (.int x)::c.map Sl.val)=some (p x)) :
  ∃r',(zd8 1 cap (fsL f) (za5 0) ft (dVar 0)) t=some r'∧r'.d=.lst ((xs.filter p).map D.int):=by
 unfold zd8
 have e2:zd5 (za5 0) ft (dVar 0) (xs.map D.int) (Sl.no::c.map Sl.val)=some ((xs.filter p).map D.int):=zp0 _ _ he
 have e1:fsL f t=some (r.ok,xs.map D.int):=by
  unfold fsL
  rw [hf]
  simp only [zbj1,hr]
 rw [e1,hc]
 simp only [zbj1]
 rw [if_pos (by rw [zbk3];exact hn)]
 show ∃r',(zd5 (za5 0) ft (dVar 0) (xs.map D.int) (Sl.no::c.map Sl.val)).bind _=some r'∧_
 rw [e2]
 simp only [zbj1,ze0,zbn2,if_true]
 exact⟨_,rfl,rfl⟩
theorem wX_bd {M:Nat}{ws X:List Int} (hw2:∀x∈ws,0≤x∧x≤1000000000000) (hl:X.length≤M) (hM:M≤9):0≤wX ws X∧wX ws X≤9000000000000:=by
 have h:∀x∈X.map fun p=>ws.getD p.toNat 0,0≤x∧x≤1000000000000:=fun x hx=>by
  obtain⟨p,_,rfl⟩:=zbm9.mp hx
  show 0≤ws.getD p.toNat 0∧ws.getD p.toNat 0≤1000000000000
  rw [zbl1]
  by_cases c:p.toNat<ws.length
  ·rw [zbj6 c];exact hw2 _ (zbn9 c)
  ·rw [zbn1 (by lia)];exact⟨zbo0 _,by decide⟩
 have key:∀L:List Int,(∀x∈L,0≤x∧x≤1000000000000)→0≤L.sum∧L.sum≤(L.length:Int)*1000000000000:=fun L=>by
  induction L with
  |nil=>intro _;simp
  |cons a L ih =>
   intro h
   have h1:=h a (zbi9 ..)
   have h2:=ih fun x hx=>h x (zbi6 _ hx)
   rw [zbu3,zbm5]
   lia
 have:=key _ h
 rw [zbk3]at this
 unfold wX
 lia
theorem turn_L (N s4:Sl) {M:Nat}{us:List (Nat×Nat)}{ws cs ps X:List Int} (hM:M≤9) (hw:ws.length=M) (hw2:∀x∈ws,0≤x∧x≤1000000000000) (cl:cs.length≤1000) (hl:ps.length≤1000) (ul:us.length≤400) (hb:bdP ps) (hX:∀p∈X,0≤p∧p<(M:Int)) (lX:X.length≤M) (hXu:∀u∈us,(u.1:Int)∈X∨(u.2:Int)∈X) :
  bdL [N,.val (.tup [.int (M:Int),.lst (us.map tD)]),.val (.lst (ws.map D.int)),.val (.int (wX ws X)),s4,.val (.lst (cs.map D.int)),.val (.lst (ps.map D.int))]=some (.nx [N,.val (.tup [.int (M:Int),.lst (us.map tD)]),.val (.lst (ws.map D.int)),.val (.int (wX ws X)),s4,.val (.lst (cs.map D.int)),.val (.lst (ps.map D.int))]):=by
 let WD:D:=.tup [.int (M:Int),.lst (us.map tD)]
 let t:Th:=[N,.val WD,.val (.lst (ws.map D.int)),.val (.int (wX ws X)),s4,.val (.lst (cs.map D.int)),.val (.lst (ps.map D.int))]
 have l5:=zt7 (f:=dVar 5) (t:=t) (r:=.cl (.lst (cs.map D.int))) (xs:=cs) rfl rfl
 have l6:=zt7 (f:=dVar 6) (t:=t) (r:=.cl (.lst (ps.map D.int))) (xs:=ps) rfl rfl
 have c0:(dT1 (zc9 ze3) (za2 (dVar 1) (za2 (dVar 2) (za2 (dT1 zq3 (za2 (dVar 5) dNil)) (za2 (dT1 zq3 (za2 (dVar 6) dNil)) dNil))))) t=some (.cl (.bl (lcB M us ws cs ps))) :=
  (t4_of (rfl:dVar 1 t=some (.cl WD)) (rfl:dVar 2 t=some (.cl (.lst (ws.map D.int)))) l5 l6).trans (zaw1 (G:=ze3) (rs:=[.cl WD,.cl (.lst (ws.map D.int)),.nw (cs.map D.int),.nw (ps.map D.int)]) (zbc2 (by lia) hw cl hl ul hb))
 cases z:lcB M us ws cs ps with
 |false=>exact grd (zw0 c0) z
 |true =>
  obtain⟨nd,hr,hm,hle⟩:=let_show z
  refine (zt8 (zw0 c0) z).trans ?_
  have m1:(dT1 (zc9 zi3) (za2 (dVar 1) (za2 (dVar 5) dNil))) t=some (.cl (.bl true)):=(zj0 (rfl:dVar 1 t=some (.cl WD)) (rfl:dVar 5 t=some (.cl (.lst (cs.map D.int))))).trans (zaw1 (G:=zi3) (rs:=[.cl WD,.cl (.lst (cs.map D.int))]) (meets_is hm))
  have E1:bdL1 t=some (.nx t):=grd (zah5 (zab2 (zw0 m1)) (zbb8 (lset_of (f:=dVar 5) (t:=t) (r:=.cl (.lst (cs.map D.int))) (xs:=cs) rfl rfl (by lia)) (zar3 (f:=dVar 5) (t:=t) (r:=.cl (.lst (cs.map D.int))) (xs:=cs) rfl rfl))) (by rw [ddp_nd cs nd];simp)
  obtain⟨r2,e2,dd2⟩:=zbf8 (cap:=[1]) (f:=dVar 5) (ft:=(dOr (dBo (d2 qL (dVar 0) (dC (.int 0)))) (dBo (d2 qH (dVar 0) (d2 kIx (dVar 1) (dC (.int 0))))))) (t:=t) (r:=.cl (.lst (cs.map D.int))) (xs:=cs) (p:=fun x=>decide (x<0)||decide ((M:Int)≤x)) (b:=true) (c:=[WD]) rfl rfl (by lia) rfl (fun x _=>by
   let tt:Th:=[.val (.int x),.val WD]
   exact zah5 (zbb8 (rfl:dVar 0 tt=some (.cl (.int x))) (rfl:dC (.int 0) tt=some (.cl (.int 0)))) (ge_of' (rfl:dVar 0 tt=some (.cl (.int x))) (rfl:(d2 kIx (dVar 1) (dC (.int 0))) tt=some (.cl (.int (M:Int))))))
  have f2:(cs.filter fun x=>decide (x<0)||decide ((M:Int)≤x))=[]:=List.filter_eq_nil_iff.mpr fun x hx=>by
   have:=hr x hx
   simp;lia
  have E2:bdL2 t=some (.nx t):=grd (ne_nilI (ts:=cs.filter fun x=>decide (x<0)||decide ((M:Int)≤x)) e2 dd2) (by rw [f2];rfl)
  obtain⟨w0,w1⟩:=wX_bd hw2 lX hM
  have s3:=zaf9 (xs:=cs.map fun p=>ws.getD p.toNat 0) (zaf0 (cap:=[2]) (f:=dVar 5) (fe:=d2 kIx (dVar 1) (dVar 0)) (t:=t) (r:=.cl (.lst (cs.map D.int))) (xs:=cs) (g:=fun p=>ws.getD p.toNat 0) (b:=true) (c:=[.lst (ws.map D.int)]) rfl rfl (by lia) rfl (fun x hx=>by
   have:=hr x hx
   let tt:Th:=[.val (.int x),.val (.lst (ws.map D.int))]
   exact zu6 (fa:=dVar 1) (fb:=dVar 0) (t:=tt) (r1:=.cl (.lst (ws.map D.int))) (r2:=.cl (.int x)) ws x rfl rfl this.1 (by lia) rfl rfl)) rfl
  have m3:=zo3 (fa:=dC (.int 2)) (fb:=dVar 3) (t:=t) (a:=2) (b:=wX ws X) rfl rfl (by decide) (ze9 (by lia) (by lia))
  have E3:bdL3 t=some (.nx t):=grd (gt_of s3 m3) (decide_eq_false (by
   have:=hle X hX hXu
   show ¬ (2*(X.map fun p=>ws.getD p.toNat 0).sum<_)
   lia))
  exact (za9 E1).trans ((za9 E2).trans E3)
theorem law_true (ns:List Int) (hl:ns.length≤63) (hb:∀n∈ns,n.natAbs<bndS):G_law [.lst (ns.map D.int)]=some (.cl (.bl true)):=by
 let N:Sl:=.val (.lst (ns.map D.int))
 obtain⟨M,us,M0,M9,ul,hu,ew⟩:=web_is ns hl hb (most:=9) (by decide) (by decide)
 let WD:D:=.tup [.int (M:Int),.lst (us.map tD)]
 let W:Sl:=.val WD
 let t0:Th:=[N,.no,.no,.no,.no,.no,.no]
 have e1:(dT1 (zc9 zm4) (za2 (dVar 0) (za2 (dC (.int 9)) dNil))) t0=some (.cl WD):=by
  rw [zj0 (rfl:dVar 0 t0=some (.cl (.lst (ns.map D.int)))) (rfl:dC (.int 9) t0=some (.cl (.int 9)))]
  unfold zc9
  rw [show zm4 ([Ev.cl (.lst (ns.map D.int)),.cl (.int 9)].map Ev.d)=_ from ew]
  rfl
 have E1:=ze4 (i:=1) e1 (by simp [t0])
 let t1:Th:=[N,W,.no,.no,.no,.no,.no]
 obtain⟨ws,wl,wb,eW⟩:=zas9 ns hb (M:=M) (by lia)
 have E2:=zs8 (i:=2) (t:=t1) ((zj0 (rfl:dVar 0 t1=some (.cl (.lst (ns.map D.int)))) (rfl:(d2 kIx (dVar 1) (dC (.int 0))) t1=some (.cl (.int (M:Int))))).trans (calln (G:=zh4) (rs:=[.cl (.lst (ns.map D.int)),.cl (.int (M:Int))]) eW)) (by simp [t1])
 let S2:Sl:=.val (.lst (ws.map D.int))
 let t2:Th:=[N,W,S2,.no,.no,.no,.no]
 obtain⟨X,hX,lX,hXu,eL⟩:=least_is (M:=M) (us:=us) (ws:=ws) M0 M9 wl hu
 have E3:dFrz 2 (dAsg 3 (dT1 (zc9 zi4) (za2 (dVar 1) (za2 (dVar 2) dNil)))) [N,W,.own (ws.map D.int),.no,.no,.no,.no]=some (.nx [N,W,S2,.val (.int (wX ws X)),.no,.no,.no]) :=
  ze4 (i:=3) (t:=t2) ((zj0 (rfl:dVar 1 t2=some (.cl WD)) (rfl:dVar 2 t2=some (.cl (.lst (ws.map D.int))))).trans (callc (G:=zi4) (rs:=[.cl WD,.cl (.lst (ws.map D.int))]) eL rfl)) (by simp [t2])
 let S3:Sl:=.val (.int (wX ws X))
 let t3:Th:=[N,W,S2,S3,.no,.no,.no]
 have eC:=price_is (M:=M) (us:=us) (ws:=ws) (by lia) wl ul hu
 let CD:D:=cvD M us ws
 have E4:=ze4 (i:=4) (t:=t3) ((zj0 (rfl:dVar 1 t3=some (.cl WD)) (rfl:dVar 2 t3=some (.cl (.lst (ws.map D.int))))).trans (callt (G:=ze8) (rs:=[.cl WD,.cl (.lst (ws.map D.int))]) (d:=CD) eC rfl)) (by simp [t3])
 let S4:Sl:=.val CD
 let t4:Th:=[N,W,S2,S3,S4,.no,.no]
 let cs:=cvN M us ws
 let ps:=(us.foldl stC (ws,[])).2
 have csl:cs.length≤1000:=by
  have:=zbt0 (fun x=>decide ((us.foldl stC (ws,[])).1.getD x.toNat 0=0)&&zw1 us x) (zc5 M)
  rw [zg2]at this
  show (cvN M us ws).length≤1000
  unfold cvN
  lia
 have psl:ps.length≤1000:=by
  have:ps.length=0+us.length:=zan2 us (ws,[])
  lia
 have psb:bdP ps:=fun x hx=>by
  have:=zax7 us (ws,[]) wl hu (fun j=>by
   show 0≤ws.getD j 0∧ws.getD j 0≤1000000000000
   rw [zbl1]
   by_cases h:j<ws.length
   ·rw [zbj6 h];exact wb _ (zbn9 h)
   ·rw [zbn1 (by lia)];exact⟨zbo0 _,by decide⟩) (fun x hx=>nomatch hx) x hx
  lia
 have c5:(dT1 (zc9 ze3) (za2 (dVar 1) (za2 (dVar 2) (za2 (d2 kIx (dVar 4) (dC (.int 0))) (za2 (d2 kIx (dVar 4) (dC (.int 1))) dNil))))) t4=some (.cl (.bl (lcB M us ws cs ps))) :=
  (t4_of (rfl:dVar 1 t4=some (.cl WD)) (rfl:dVar 2 t4=some (.cl (.lst (ws.map D.int)))) (rfl:(d2 kIx (dVar 4) (dC (.int 0))) t4=some (.cl (.lst (cs.map D.int)))) (rfl:(d2 kIx (dVar 4) (dC (.int 1))) t4=some (.cl (.lst (ps.map D.int))))).trans (zaw1 (G:=ze3) (rs:=[.cl WD,.cl (.lst (ws.map D.int)),.cl (.lst (cs.map D.int)),.cl (.lst (ps.map D.int))]) (zbc2 (by lia) wl csl psl ul psb))
 have E5:cT t4=some (.nx t4):=grd (zab2 (zw0 c5)) (by rw [show lcB M us ws cs ps=true from told_let (by lia) M0 wl wb hu];rfl)
 obtain⟨L,lL,oL,eP⟩:=zba7 ns hb (M:=M) (us:=us) (ws:=ws) M0 (by lia) wl wb ul hu
 have e6:feP t4=some (.nw (CD::L)):=by
  have p1:(dT1 (zc9 zg7) (za2 (dVar 0) (za2 (dVar 1) (za2 (dVar 2) dNil)))) t4=some (.nw L):=by
   rw [t3_of (rfl:dVar 0 t4=some (.cl (.lst (ns.map D.int)))) (rfl:dVar 1 t4=some (.cl WD)) (rfl:dVar 2 t4=some (.cl (.lst (ws.map D.int))))]
   unfold zc9
   rw [show zg7 ([Ev.cl (.lst (ns.map D.int)),.cl WD,.cl (.lst (ws.map D.int))].map Ev.d)=_ from eP]
   rfl
  have p2:(dT1 kLst (za2 (dVar 4) dNil)) t4=some (.nw [CD]):=(zs9 (rfl:dVar 4 t4=some (.cl CD))).trans rfl
  unfold feP
  rw [zg3 p2 p1]
  show kCat (.nw [CD]) (.nw L)=_
  unfold kCat
  simp only [Ev.d,Ev.ok,zbt2,zbu2]
  rw [if_pos (decide_eq_true (by show 1+L.length≤100000;lia))]
  rfl
 obtain⟨t',e7,v5,v6,rfl⟩:=for_P (k:=zf4 2 (zb2 (za5 5) (zb2 (za5 6) zg0))) (b:=bdL) (P:=fun t => ∃v5 v6,t=[N,W,S2,S3,S4,v5,v6]) (CD::L) (fun d hd t ⟨v5,v6,et⟩=>by
  subst et
  rcases zbj4.mp hd with rfl | hd
  ·exact⟨_,_,rfl,turn_L N S4 (cs:=cs) (ps:=ps) M9 wl wb csl psl ul psb hX lX hXu,_,_,rfl⟩
  ·obtain⟨c,p,h1,h2,h3,h4,rfl⟩:=oL d hd
   exact⟨_,_,rfl,turn_L N S4 (cs:=c) (ps:=p) M9 wl wb h1 h2 ul (fun x hx=>by
    have h4 : -(10000000000000000000000000000000+1)≤x∧x≤10000000000000000000000000000000+1:=h4 x hx
    lia) hX lX hXu,_,_,rfl⟩) t4 ⟨.no,.no,rfl⟩
 have E7:=(zab9 (k:=zf4 2 (zb2 (za5 5) (zb2 (za5 6) zg0))) (b:=bdL) (t:=t4) e6 rfl rfl).trans e7
 show (g_law t0).bind zi7=_
 unfold g_law
 exact bnd ((za9 E1).trans ((za9 E2).trans ((za9 E3).trans ((za9 E4).trans ((za9 E5).trans ((za9 E7).trans rfl))))))
end KX
set_option maxHeartbeats 4000000
namespace KX
open PySem.Spec L2 DL
def spLaw (K:zbi5):Sp:=spD K G_law
theorem all_mk {P:Program}{w:World}{K:zbi5}{h:Heap}{mg:Str→Option Value}{fa:Addr} (X:K.In h) (G:h.Ns mainGlobals mg) (hfa:mg "law"=some (.ref fa)) {f0:Addr}{f1:Addr}{f2:Addr}{f3:Addr}{f4:Addr}{f5:Addr}{f6:Addr}{f7:Addr}{f8:Addr}{f9:Addr}{f10:Addr}{f11:Addr}{f12:Addr}{f13:Addr}{f14:Addr}{f15:Addr}{f16:Addr}{f17:Addr}{f18:Addr}
  (h0:Hv K "ties_of" zr2 f0)
  (h1:Hv K "rise_below" zk5 f1)
  (h2:Hv K "cover_by_price" zg4 f2)
  (h3:Hv K "is_cover" zp6 f3)
  (h4:Hv K "are_payable" zj7 f4)
  (h5:Hv K "lets_cover" zk6 f5)
  (h6:Hv K "_law_cell_at" zj6 f6)
  (h7:Hv K "_law_mixed" zm9 f7)
  (h8:Hv K "_law_put" zr4 f8)
  (h9:Hv K "_law_ties" zp2 f9)
  (h10:Hv K "_law_web" zr3 f10)
  (h11:Hv K "_law_weights" zj5 f11)
  (h12:Hv K "_law_rule" zp3 f12)
  (h13:Hv K "_law_bent" zp5 f13)
  (h14:Hv K "_law_free" zp4 f14)
  (h15:Hv K "_law_papers" zk7 f15)
  (h16:Hv K "_law_meets" zn0 f16)
  (h17:Hv K "_law_least" zn1 f17)
  (h18:Hv K "law" s_law f18)
  (z_all:zbo1 K mainGlobals "all"=some none) (z_any:zbo1 K mainGlobals "any"=some none) (z_enumerate:zbo1 K mainGlobals "enumerate"=some none) (z_int:zbo1 K mainGlobals "int"=some none) (z_len:zbo1 K mainGlobals "len"=some none) (z_list:zbo1 K mainGlobals "list"=some none) (z_max:zbo1 K mainGlobals "max"=some none) (z_min:zbo1 K mainGlobals "min"=some none) (z_range:zbo1 K mainGlobals "range"=some none) (z_set:zbo1 K mainGlobals "set"=some none) (z_sorted:zbo1 K mainGlobals "sorted"=some none) (z_sum:zbo1 K mainGlobals "sum"=some none) (z_zip:zbo1 K mainGlobals "zip"=some none)   :
  TbOk K []∧∃fd:FuncData,(∀(s:zbj7) (v:Value),BindsTo s fd ⟨[v],[]⟩ [("_law_script",v)])∧∀base:BHeap,base.tabs=tbOf K []→K.In base→base.Ns mainGlobals mg→(∀x∈([]:List Str),∀c P,zcf0 K x=some (c,P)→zcd0 base c P)→FnOk P w K mg base CX0 4 fa fd ["_law_script"] (spLaw K):=by
 have e:=hfa.symm.trans (h18.mg X G)
 cases e
 have bu:Blt mg:=⟨zbl9 X G z_all,zbl9 X G z_any,zbl9 X G z_enumerate,zbl9 X G z_int,zbl9 X G z_len,zbl9 X G z_list,zbl9 X G z_max,zbl9 X G z_min,zbl9 X G z_range,zbl9 X G z_set,zbl9 X G z_sorted,zbl9 X G z_sum,zbl9 X G z_zip⟩
 obtain⟨_,u0⟩:=h0.fn
 have d0:Df K mg "ties_of" zr2 ["web", "point"] f0 _:=⟨u0,h0.mg X G,zo0 u0 fun _ _ _ _ _ _ _ _=>rfl⟩
 obtain⟨_,u1⟩:=h1.fn
 have d1:Df K mg "rise_below" zk5 ["numbers", "many"] f1 _:=⟨u1,h1.mg X G,zo0 u1 fun _ _ _ _ _ _ _ _=>rfl⟩
 obtain⟨_,u2⟩:=h2.fn
 have d2:Df K mg "cover_by_price" zg4 ["web", "weights"] f2 _:=⟨u2,h2.mg X G,zo0 u2 fun _ _ _ _ _ _ _ _=>rfl⟩
 obtain⟨_,u3⟩:=h3.fn
 have d3:Df K mg "is_cover" zp6 ["web", "points"] f3 _:=⟨u3,h3.mg X G,zo0 u3 fun _ _ _ _ _ _ _ _=>rfl⟩
 obtain⟨_,u4⟩:=h4.fn
 have d4:Df K mg "are_payable" zj7 ["web", "weights", "prices"] f4 _:=⟨u4,h4.mg X G,zas8 u4 fun _ _ _ _ _ _ _ _ _=>rfl⟩
 obtain⟨_,u5⟩:=h5.fn
 have d5:Df K mg "lets_cover" zk6 ["web", "weights", "cover", "prices"] f5 _:=⟨u5,h5.mg X G,binds4 u5 fun _ _ _ _ _ _ _ _ _ _=>rfl⟩
 obtain⟨_,u6⟩:=h6.fn
 have d6:Df K mg "_law_cell_at" zj6 ["_law_script", "_law_k"] f6 _:=⟨u6,h6.mg X G,zo0 u6 fun _ _ _ _ _ _ _ _=>rfl⟩
 obtain⟨_,u7⟩:=h7.fn
 have d7:Df K mg "_law_mixed" zm9 ["_law_cell", "_law_k"] f7 _:=⟨u7,h7.mg X G,zo0 u7 fun _ _ _ _ _ _ _ _=>rfl⟩
 obtain⟨_,u8⟩:=h8.fn
 have d8:Df K mg "_law_put" zr4 ["_law_found", "_law_many", "_law_number"] f8 _:=⟨u8,h8.mg X G,zas8 u8 fun _ _ _ _ _ _ _ _ _=>rfl⟩
 obtain⟨_,u9⟩:=h9.fn
 have d9:Df K mg "_law_ties" zp2 ["_law_script", "_law_many"] f9 _:=⟨u9,h9.mg X G,zo0 u9 fun _ _ _ _ _ _ _ _=>rfl⟩
 obtain⟨_,u10⟩:=h10.fn
 have d10:Df K mg "_law_web" zr3 ["_law_script", "_law_most"] f10 _:=⟨u10,h10.mg X G,zo0 u10 fun _ _ _ _ _ _ _ _=>rfl⟩
 obtain⟨_,u11⟩:=h11.fn
 have d11:Df K mg "_law_weights" zj5 ["_law_script", "_law_many"] f11 _:=⟨u11,h11.mg X G,zo0 u11 fun _ _ _ _ _ _ _ _=>rfl⟩
 obtain⟨_,u12⟩:=h12.fn
 have d12:Df K mg "_law_rule" zp3 ["_law_web_here", "_law_weights_here"] f12 _:=⟨u12,h12.mg X G,zo0 u12 fun _ _ _ _ _ _ _ _=>rfl⟩
 obtain⟨_,u13⟩:=h13.fn
 have d13:Df K mg "_law_bent" zp5 ["_law_paper", "_law_most", "_law_cell"] f13 _:=⟨u13,h13.mg X G,zas8 u13 fun _ _ _ _ _ _ _ _ _=>rfl⟩
 obtain⟨_,u14⟩:=h14.fn
 have d14:Df K mg "_law_free" zp4 ["_law_cell", "_law_many", "_law_ties_here", "_law_most"] f14 _:=⟨u14,h14.mg X G,binds4 u14 fun _ _ _ _ _ _ _ _ _ _=>rfl⟩
 obtain⟨_,u15⟩:=h15.fn
 have d15:Df K mg "_law_papers" zk7 ["_law_script", "_law_web_here", "_law_weights_here"] f15 _:=⟨u15,h15.mg X G,zas8 u15 fun _ _ _ _ _ _ _ _ _=>rfl⟩
 obtain⟨_,u16⟩:=h16.fn
 have d16:Df K mg "_law_meets" zn0 ["_law_web_here", "_law_chosen"] f16 _:=⟨u16,h16.mg X G,zo0 u16 fun _ _ _ _ _ _ _ _=>rfl⟩
 obtain⟨_,u17⟩:=h17.fn
 have d17:Df K mg "_law_least" zn1 ["_law_web_here", "_law_weights_here"] f17 _:=⟨u17,h17.mg X G,zo0 u17 fun _ _ _ _ _ _ _ _=>rfl⟩
 obtain⟨_,u18⟩:=h18.fn
 have d18:Df K mg "law" s_law ["_law_script"] fa _:=⟨u18,h18.mg X G,binds1 u18 fun _ _ _ _ _ _ _=>rfl⟩
 refine⟨tbOk_nil,_,Hv.bt u18 fun _ _ _ _ _ _ _=>rfl,fun base ht _ _ hCd=>?_⟩
 have F_ties_of:=zau5 (P:=P) (w:=w) (base:=base) d0.fn bu
 have F_rise_below:=zad8 (P:=P) (w:=w) (base:=base) d1.fn bu
 have F_cover_by_price:=zt5 (P:=P) (w:=w) (base:=base) d2.fn bu (d0.cal F_ties_of)
 have F_is_cover:=zam3 (P:=P) (w:=w) (base:=base) d3.fn bu (d1.cal F_rise_below)
 have F_are_payable:=zaa3 (P:=P) (w:=w) (base:=base) d4.fn bu (d0.cal F_ties_of)
 have F_lets_cover:=zad9 (P:=P) (w:=w) (base:=base) d5.fn bu (d3.cal F_is_cover) (d4.cal F_are_payable)
 have F_law_cell_at:=zaa2 (P:=P) (w:=w) (base:=base) d6.fn bu
 have F_law_mixed:=zah8 (P:=P) (w:=w) (base:=base) d7.fn bu
 have F_law_put:=zau7 (P:=P) (w:=w) (base:=base) d8.fn bu
 have F_law_ties:=zal9 (P:=P) (w:=w) (base:=base) d9.fn bu (d6.cal F_law_cell_at) (d7.cal F_law_mixed) (d8.calP F_law_put)
 have F_law_web:=zau6 (P:=P) (w:=w) (base:=base) d10.fn bu (d6.cal F_law_cell_at) (d9.cal F_law_ties)
 have F_law_weights:=zaa1 (P:=P) (w:=w) (base:=base) d11.fn bu (d6.cal F_law_cell_at) (d7.cal F_law_mixed)
 have F_law_rule:=zam0 (P:=P) (w:=w) (base:=base) d12.fn bu
 have F_law_bent:=zam2 (P:=P) (w:=w) (base:=base) d13.fn bu
 have F_law_free:=zam1 (P:=P) (w:=w) (base:=base) d14.fn bu
 have F_law_papers:=zae0 (P:=P) (w:=w) (base:=base) d15.fn bu (d6.cal F_law_cell_at) (d12.cal F_law_rule) (d14.cal F_law_free) (d13.cal F_law_bent) (d7.cal F_law_mixed)
 have F_law_meets:=zah9 (P:=P) (w:=w) (base:=base) d16.fn bu
 have F_law_least:=zai0 (P:=P) (w:=w) (base:=base) d17.fn bu
 have F_law:=ok_law (P:=P) (w:=w) (base:=base) d18.fn bu (d10.cal F_law_web) (d11.cal F_law_weights) (d17.cal F_law_least) (d2.cal F_cover_by_price) (d5.cal F_lets_cover) (d15.cal F_law_papers) (d16.cal F_law_meets)
 exact F_law
theorem walk {l:zca5}{q:Program}{loose:List Str}{XP:(Str→Option Value)→Heap→Prop}{YP:World→Heap→Prop}{d:DefRec}{K:Params→zbi5} (hn:l.most=some 63) (hdf:d.params.defaults=[])
  (hY:∀(w:World) (h:Heap),YP w h→(K w.params).In h) (hrec:∀x∈([]:List Str),∃dr,(recsOf q).find? (fun e=>e.name == x)=some dr)
  (Fx:∀(w:World) (mg:Str→Option Value) (fa:Addr) (h:Heap),(K w.params).In h→h.Ns mainGlobals mg→mg d.name=some (.ref fa) →
   TbOk (K w.params) []∧∃fd:FuncData,(∀(s:zbj7) (u:Value),BindsTo s fd ⟨[u],[]⟩ [("_law_script",u)])∧∀base:BHeap,base.tabs=tbOf (K w.params) []→(K w.params).In base→base.Ns mainGlobals mg→(∀x∈([]:List Str),∀c P,zcf0 (K w.params) x=some (c,P)→zcd0 base c P)→FnOk l.prog w (K w.params) mg base CX0 4 fa fd ["_law_script"] (spLaw (K w.params))) :
  zce2 q loose XP YP l.row.toRowW d [] (fun f vs=>PySem.call f vs) :=
 L2.walk_ofT (n:=63) (k:=4) (x := "_law_script") (names:=[]) (CX:=fun _=>CX0) (sp:=fun w=>spLaw (K w.params)) hn (by decide) hdf ⟨rfl,by decide,by decide⟩ hY hrec Fx
  (fun _ H a ns hl hb hS=>⟨[],[.lst (ns.map .int)],.cl (.bl true),fun p hp=>(by cases hp),.cons (.lst (by rw [hide_nil];exact hS) (Reps.ints ns)) .nil,law_true ns hl hb,fun v H' _ q=>by cases q;rfl⟩) fun _ _ _ _ _ z=>z
end KX
open PySem PySem.W PyProof.Rows
set_option maxRecDepth 100000 in
set_option maxHeartbeats 0 in
theorem PySem.Challenge.cw_nearenough_k08_whole_no_cover_half_holds : PySem.Challenge.rw_nearenough_k08_whole_no_cover_half.Holds := by
 w_on;o_law;k_head;(case hw=>w_witness2)
 k_fill
 refine KX.walk (l:=PySem.Challenge.rw_nearenough_k08_whole_no_cover_half) rfl rfl (fun w h Y=>by first | exact PySem.W.kIn_of Y | exact PySem.W.km_in_of Y) (by intro x hx;simp at hx) ?F
 case F =>
  intro w mg fa h KI G hmg
  refine' KX.all_mk KI G hmg ?h0 ?h1 ?h2 ?h3 ?h4 ?h5 ?h6 ?h7 ?h8 ?h9 ?h10 ?h11 ?h12 ?h13 ?h14 ?h15 ?h16 ?h17 ?h18 ?z_all ?z_any ?z_enumerate ?z_int ?z_len ?z_list ?z_max ?z_min ?z_range ?z_set ?z_sorted ?z_sum ?z_zip
  all_goals try (refine' DL.Hv.mk ?a ?l ?c ?k;(case a=>k_is);(case l=>k_is);(case c=>k_is);(case k=>k_is))
  all_goals k_is

