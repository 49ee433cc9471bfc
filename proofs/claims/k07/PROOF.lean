import PyProof.Rows.All
import Wide.All
import OpenK.AllK
import Wide.FinOn
import PyProof.EqAt
import PyProof.EqKinds
import PyProof.NeKinds
import PyProof.TupleCall
import PyProof.EnumFor
import PyProof.EnumMake
import PyProof.CompFree
import PyProof.Rows.SumAny
import PyProof.Rows.Range3
import PyProof.CompUse
import KE.LcSums
import PyProof.ListRange
import PyProof.Rows.MinMaxN
import KE.KIntText
import PyProof.StrCalls2
import PyProof.StrBlockH
import PyProof.Rows.ZipForRows
import PyProof.Rows.SortRev
import KE.KRevSl
import KE.KMinKey
import PyProof.Rows.SetFrom
import PyProof.Rows.SeqMore2
import Lean
import PyProof.WalkInts
import KE.KLam
import KE.KNest
import PyProof.Rows.SortRuns
import KE.KSortKey
import PyProof.Conv_int_bool
import KE.KListMore
import PyProof.DictWalks
import KE.KSortTup
import KE.KDictList
import KE.KRevIter
import PyProof.SetKind
import PyProof.SetScanFacts
import PySem.Challenge.RW_nearenough_k07_papers_of_covers
noncomputable section
open PySem.F renaming plain_list_iadd→zbs9,plainAttrs_list→zbu9,plain_proto_collect→zbx0,slot_list_insert→zby8,plain_set_new→zca8,slot_set_iter→zca9
open Int renaming toNat_natCast→zbn9,le_refl→zbr5,mul_le_mul_of_nonneg_right→zbs7,toNat_of_nonneg→zbt3,le_trans→zbv2,fdiv_eq_ediv_of_nonneg→zbx8,eq_ofNat_of_zero_le→zbz8
open Array renaming getElem?_toList→zbm1,getElem?_eq_getElem→zbm7,toList_append→zbn3,perm_iff_toList_perm→zbp1,toList_extract→zbr3,length_toList→zbt0,getD_eq_getD_getElem?→zbt5,getElem?_eq_none→zbv7,size_map→zby9,toList_push→zbz5,toList_map→zca5
open PyProof.Rows renaming wpS_bind→zbl7,wpS_pure→zbm3
open Nat renaming le_refl→zbl3,lt_of_lt_of_le→zbm4,ne_of_lt→zbn1,add_sub_cancel_left→zbq3,le_trans→zbq4,zero_le→zbq5,lt_irrefl→zbr0,lt_succ_of_lt→zbr4,ne_of_gt→zbu0,pow_le_pow_right→zbu1,lt_succ_self→zbu6,le_of_lt→zbv1,le_succ→zbw3,le_add_right→zbw7,add_assoc→zbx3,lt_trans→zby6,zero_add→zby7
open Bool renaming and_eq_true→zbk7,false_ne_true→zbl9,false_eq_true→zbm5,or_true→zbp3,eq_iff_iff→zbq6,true_and→zbu4,not_eq_true'→zbv8,and_true→zbx2,or_eq_true→zbx5,false_and→zby2,true_or→zby5,false_or→zca1,or_false→zca6,not_true→zcc7
open Option renaming bind_some→zbk3,map_some→zbp8,getD_some→zbw5,isSome_some→zcc4,getD_none→zcd8
open PySem.Heap renaming get?_push_of_some→zbk0,lt_size→zbl0,get?_push_size→zbl2,get?_update_other→zbn5,get?_update_self→zbo4,size_push→zbs4
open PySem renaming wpAny_bind→zbj8,wpAny_pure→zbk6,Shared→zbk8,starEach→zbm0,backTo→zbt6
open PySem.W renaming Frag→zbj6,mg_none_of→zbn4,nsIn→zbp9,keepIn→zbq7,fnOf→zbr2,kia_one→zbr7,findIn→zbu5,codeIn→zby4,methodObj→zbz2,cellsFrom_some→zbz9,instObj→zcb0,lookIn→zcb6,hasDictIn→zcc9,specialIn→zcd0,kitx_dict→zcd2,plainGet→zcd7,kat_cons→zce3,OpenLaw→zce9,kat_yes→zcf4,kat_go→zcg9,kat_no→zch0,CodeHd→zch4,WalkO→zci5,tabIn→zcj3
open List renaming mem_append_right→zbj5,mem_append_left→zbj7,mem_cons_of_mem→zbj9,mem_append→zbk1,mem_cons_self→zbk2,getElem?_eq_getElem→zbk4,mem_cons→zbk5,append_assoc→zbk9,getD_eq_getElem?_getD→zbl1,replicate→zbl4,take_append_drop→zbl5,size_toArray→zbl6,map_cons→zbl8,mem_singleton→zbm2,length_map→zbm6,nodup_append→zbm8,nodup_cons→zbm9,getElem?_eq_some_iff→zbn0,pairwise_cons→zbn2,mem_of_getElem?→zbn6,mem_of_mem_drop→zbn7,getElem_mem→zbn8,lookup_cons→zbo0,take_of_length_le→zbo1,getElem?_append_right→zbo2,range→zbo3,length_append→zbo5,length_cons→zbo6,all_cons→zbo7,pairwise_append→zbo8,mem_of_mem_take→zbo9,not_mem_nil→zbp0,length_eq_zero_iff→zbp2,replicate_succ→zbp4,getElem?_append_left→zbp5,getElem?_map→zbp6,perm_append_comm→zbp7,all_eq_true→zbq0,mem_map→zbq1,flatten_cons→zbq2,drop_of_length_le→zbq8,mem_range→zbq9,append_nil→zbr1,getElem?_set_self→zbr6,getElem?_eq_none→zbr8,length_take→zbr9,pairwise_iff_getElem→zbs0,any_cons→zbs1,getElem?_set_ne→zbs2,nodup_nil→zbs3,map_map→zbs5,length_range→zbs6,getElem?_cons_succ→zbs8,drop_append_of_le_length→zbt1,take_append_of_le_length→zbt2,zip_cons_cons→zbt4,foldl_cons→zbt7,find?_cons→zbt8,reverse_perm→zbt9,mem_iff_getElem→zbu2,drop_eq_getElem_cons→zbu3,length_pos_iff→zbu7,getElem?_replicate→zbu8,pairwise_singleton→zbv0,getElem?_drop→zbv3,take_succ_eq_append_getElem→zbv4,length_set→zbv5,nil_append→zbv6,length_replicate→zbv9,length_singleton→zbw0,drop_drop→zbw1,drop_take→zbw2,ext_getElem→zbw4,any_eq_true→zbw6,extract→zbw8,range_eq_range'→zbw9,filterMap_cons→zbx1,length_nil→zbx4,map_append→zbx6,length_eraseIdx_of_lt→zbx7,mem_filterMap→zbx9,sublist_append_right→zby0,range'→zby1,getElem?_take_of_lt→zby3,filterMap_cons_some→zbz0,length_erase_of_mem→zbz1,getElem_drop→zbz3,ext_getElem?→zbz4,pairwise_of_forall→zbz6,getElem?_cons_zero→zbz7,length_drop→zca0,sublist_cons_self→zca2,length_pos_of_mem→zca3,drop_append→zca4,isEmpty_nil→zca7,mem_filter→zcb1,of_mem_zip→zcb2,map_nil→zcb3,reverse_reverse→zcb4,mem_erase_of_ne→zcb5,getElem?_range→zcb7,map_congr_left→zcb8,reverse_append→zcb9,flatten_append→zcc0,toList_toArray→zcc1,getElem_of_mem→zcc2,map_take→zcc6,any_eq_false→zcc8,take_sublist→zcd1,getElem_take→zcd3,pairwise_map→zcd4,getElem?_set→zcd5,zip_nil_left→zcd6,filter_cons→zcd9,drop_length→zce0,map_fst_zip→zce1,map_snd_zip→zce2,isEmpty_iff→zce4,map_set→zce5,range'_succ→zce6,take_length→zce7,foldl→zci2
open PySem PyProof.Rows
set_option Elab.async false
set_option linter.all false
set_option maxRecDepth 100000
namespace L2
open PySem.Spec
noncomputable abbrev Key:=Sum Int Str
noncomputable def zaw5:Key→Value→Bool
 |.inl k,v=>Value.isInt k v
 |.inr x,v=>Value.isStrOf x v
noncomputable def keyH (w:World):Key→Int
 |.inl k=>hashInt k
 |.inr x=>hashStr w x
theorem ze7:∀ {k:Key}{v:Value},zaw5 k v=true→(∃i t,k=Sum.inl i∧v=Value.int i t)∨(∃x t,k=Sum.inr x∧v=Value.str x t)
 |.inl i,v,h=>by
  obtain⟨t,e⟩:=Value.isInt_shape (k:=i) (v:=v) h
  exact .inl ⟨i,t,rfl,e⟩
 |.inr x,v,h=>by
  obtain⟨t,e⟩:=Value.isStrOf_shape (x:=x) (v:=v) h
  exact .inr ⟨x,t,rfl,e⟩
theorem zbd7 (i:Int) (t:Tok):zaw5 (.inl i) (.int i t)=true:=by simp [zaw5,Value.isInt]
theorem zbd6 (x:Str) (t:Tok):zaw5 (.inr x) (.str x t)=true:=by simp [zaw5,Value.isStrOf]
theorem key_ll (a b:Int):decide ((Sum.inl a:Key)=Sum.inl b)=(a == b):=by
 by_cases e:a=b
 ·subst e;simp
 ·have h : ¬ (Sum.inl a:Key)=Sum.inl b:=fun q=>e (Sum.inl.inj q)
  rw [decide_eq_false h]
  exact (beq_eq_false_iff_ne.mpr e).symm
theorem key_rr (a b:Str):decide ((Sum.inr a:Key)=Sum.inr b)=decide (a=b):=by
 by_cases e:a=b
 ·subst e;simp
 ·have h : ¬ (Sum.inr a:Key)=Sum.inr b:=fun q=>e (Sum.inr.inj q)
  rw [decide_eq_false h,decide_eq_false e]
theorem key_lr (a:Int) (b:Str):decide ((Sum.inl a:Key)=Sum.inr b)=false:=decide_eq_false (fun q=>nomatch q)
theorem key_rl (a:Str) (b:Int):decide ((Sum.inr a:Key)=Sum.inl b)=false:=decide_eq_false (fun q=>nomatch q)
noncomputable def zg4 (prog:Program) (w:World):PySem.KeyKind prog w Key where
 is:=zaw5
 hash:=keyH w
 inj:=fun v a b ha hb=>by
  rcases ze7 ha with ⟨i,t,rfl,rfl⟩ | ⟨x,t,rfl,rfl⟩
  ·rcases ze7 hb with ⟨j,u,rfl,e⟩ | ⟨y,u,rfl,e⟩
   ·injection e with e1 _;rw [e1]
   ·exact nomatch e
  ·rcases ze7 hb with ⟨j,u,rfl,e⟩ | ⟨y,u,rfl,e⟩
   ·exact nomatch e
   ·injection e with e1 _;rw [e1]
 byValue:=fun k v h=>by
  rcases ze7 h with ⟨i,t,rfl,rfl⟩ | ⟨x,t,rfl,rfl⟩<;>rfl
 pyHash:=fun hv h=>by
  rcases ze7 hv with ⟨i,t,rfl,rfl⟩ | ⟨x,t,rfl,rfl⟩
  ·exact wpAny_pyHash_int h
  ·exact wpAny_pyHash_str h
 eqBool:=fun hu hv h=>by
  rcases ze7 hu with ⟨i,t,rfl,rfl⟩ | ⟨x,t,rfl,rfl⟩
  ·rcases ze7 hv with ⟨j,u,rfl,rfl⟩ | ⟨y,u,rfl,rfl⟩
   ·rw [key_ll]at h;exact wpAny_eqBool_int h
   ·rw [key_lr]at h;exact SeqAt.EqAt.int_str i t y u _ _ _ _ h
  ·rcases ze7 hv with ⟨j,u,rfl,rfl⟩ | ⟨y,u,rfl,rfl⟩
   ·rw [key_rl]at h;exact SeqAt.EqAt.str_int x t j u _ _ _ _ h
   ·rw [key_rr]at h;exact wpAny_eqBool_str h
 «strs»:=fun k x t v h=>by
  rcases ze7 h with ⟨i,u,rfl,e⟩ | ⟨y,u,rfl,e⟩
  ·exact nomatch e
  ·injection e with e1 _
   subst e1
   cases v<;>rfl
theorem zan6 (prog:Program) (w:World) (i:Int) (t:Tok):(zg4 prog w).is (.inl i) (.int i t)=true:=zbd7 i t
theorem zan5 (prog:Program) (w:World) (x:Str) (t:Tok):(zg4 prog w).is (.inr x) (.str x t)=true:=zbd6 x t
inductive V where
 |non | bl (b:Bool) |int (i:Int) |str (x:Str) |byt (b:Array UInt8) |flt (b:UInt64) |ref (a:Addr) |ty (n:String)
 deriving DecidableEq
noncomputable def RelV:V→Value→Prop
 |.non,u=>u=Value.none
 |.bl b,u=>u=Value.bool b
 |.int i,u => ∃t,u=Value.int i t
 |.str x,u => ∃t,u=Value.str x t
 |.byt b,u => ∃t,u=Value.bytes b t
 |.flt b,u => ∃t,u=Value.float b t
 |.ref a,u=>u=Value.ref a
 |.ty n,u=>u=Value.type n
noncomputable abbrev Vals:List V→List Value→Prop:=Paired RelV
theorem Vals.length {xs:List V}{us:List Value} (r:Vals xs us):xs.length=us.length:=Paired.length r
theorem Vals.get:∀ {xs:List V}{us:List Value}{i:Nat}{x:V},Vals xs us→xs[i]?=some x→∃u,us[i]?=some u∧RelV x u
 |_,_,_,_,.nil,e=>by simp at e
 |_,_,0,_,.cons r _,e=>by simp at e;subst e;exact⟨_,rfl,r⟩
 |_,_,i+1,x,.cons _ t,e=>by
  obtain⟨u,h1,h2⟩:=Vals.get (i:=i) (x:=x) t (by simpa using e)
  exact⟨u,by simpa using h1,h2⟩
theorem Vals.set {x:V}{u:Value} (r:RelV x u):∀ {xs:List V}{us:List Value} (i:Nat),Vals xs us→Vals (xs.set i x) (us.set i u)
 |_,_,_,.nil=>.nil
 |_,_,0,.cons _ t=>.cons r t
 |_,_,i+1,.cons q t=>.cons q (Vals.set r i t)
theorem Vals.append:∀ {xs ys:List V}{us ws:List Value},Vals xs us→Vals ys ws→Vals (xs++ys) (us++ws)
 |_,_,_,_,.nil,s=>s
 |_,_,_,_,.cons r t,s=>.cons r (Vals.append t s)
theorem Vals.take:∀ {xs:List V}{us:List Value} (n:Nat),Vals xs us→Vals (xs.take n) (us.take n)
 |_,_,0,_=>.nil
 |_,_,_+1,.nil=>.nil
 |_,_,n+1,.cons r t=>.cons r (Vals.take n t)
theorem Vals.drop:∀ {xs:List V}{us:List Value} (n:Nat),Vals xs us→Vals (xs.drop n) (us.drop n)
 |_,_,0,r=>r
 |_,_,_+1,.nil=>.nil
 |_,_,n+1,.cons _ t=>Vals.drop n t
noncomputable def RelO:Option V→Option Value→Prop
 |some v,some u=>RelV v u
 |none,none=>True
 |_,_=>False
noncomputable def KV {κ:Type}:List (κ×V)→List (κ×Value)→Prop:=Paired fun (p:κ×V) (q:κ×Value)=>p.1=q.1∧RelV p.2 q.2
noncomputable def kV:Key→V
 |.inl i=>.int i
 |.inr x=>.str x
inductive HO where
 /-- a list -/
 |lst (xs:List V)
 /-- a tuple (never changes) -/
 |tup (xs:List V)
 /-- a dict whose keys are ints and texts;one whose keys are tuples of ints and texts (the empty one is both) -/
 |dK (kvs:List (Key×V)) |dT (kvs:List (List Key×V))
 /-- a set of ints: its members,its size -/
 |set (S:Int→Bool) (n:Nat)
 /-- an instance of the class at C,its dict at dx,its attributes -/
 |ins (C dx:Addr) (fs:List (Str×V))
 /-- the dict of the instance at x -/
 |own (x:Addr)
 /-- the dict of an exception -/
 |xd (fs:List (Str×V))
 /-- a bound method,f of x -/
 |met (f x:Addr)
 /-- a range object lo,lo+1,.. below hi -/
 |rng (lo hi:Int)
 /-- a thing that is known to the object (the script;a dict while a loop walks it): read,never written while it is so -/
 |frz (o:Obj) (u:HO)
 /-- a code object's table -/
 |tbl (q:Str)
 /-- any other thing,by what is true of its one object (a def of one's own: SetO a S n:=HO.ext fun h=>..) -/
 |ext (φ:Heap→Prop)
noncomputable abbrev Hp:=Addr→Option HO
noncomputable def upd (H:Hp) (a:Addr) (o:HO):Hp:=fun b=>if b=a then some o else H b
theorem zc3 {H:Hp}{a:Addr}{o:HO}:upd H a o a=some o:=by unfold upd;rw [if_pos rfl]
theorem zc9 {H:Hp}{a b:Addr}{o:HO} (h:b≠a):upd H a o b=H b:=by unfold upd;rw [if_neg h]
theorem ne_of {H:Hp}{a b:Addr}{o u:HO} (h:H a=some o) (h':H b=some u) (d:o≠u):a≠b:=by
 intro e;subst e;rw [h]at h';exact d (Option.some.inj h')
theorem zj4 {H:Hp}{a b:Addr}{o:HO} (h:H a=some o) (h':H b=none):a≠b:=by
 intro e;subst e;rw [h]at h';cases h'
section
variable (P:Program) (w:World)
noncomputable def ObjOk (H:Hp) (h:Heap) (a:Addr):HO→Prop
 |.lst xs=>xs.length≤sizeLine∧∃(its:List Value) (n:Nat),Vals xs its∧h.get? a=some { cls:=.type "list",data:=.seq its.toArray n }
 |.tup xs=>xs.length≤sizeLine∧∃its:List Value,Vals xs its∧IsTup h a its.toArray
 |.dK kvs=>kvs.length≤sizeLine∧(a == sysModules)=false∧∃vs,KV kvs vs∧h.DictOf (zg4 P w) a vs
 |.dT kvs=>kvs.length≤sizeLine∧(a == sysModules)=false∧∃xs:List (List Key×Addr×Value),
   Paired (fun (p:List Key×V) (q:List Key×Addr×Value)=>p.1=q.1∧H q.2.1=some (.tup (p.1.map kV))∧RelV p.2 q.2.2) kvs xs ∧
   ∃o es ep,h.get? a=some o∧o.ExactDict∧o.data=.dict es ep∧es.toList=xs.map (entryOfKey (tupleKind (zg4 P w)))∧(xs.map (·.1)).Nodup
 |.set S n=>h.SetOf (intKind P w) a S n
 |.ins C dx fs=>H dx=some (.own a)∧fs.length≤1000∧dx≠a∧h.get? a=some (zcb0 C dx) ∧
   ∃mA,h.Ns1 dx mA∧(∀f,RelO (fs.lookup f) (mA f))∧PySem.Within mA (fs.map (·.1))
 |.own _ => ∃o,h.get? a=some o
 |.xd fs => ∃mA,h.Ns1 a mA∧∀f,RelO (fs.lookup f) (mA f)
 |.rng lo hi => ∃t u v,h.get? a=some { cls:=.type "range",data:=.fields #[.int lo t,.int hi u,.int 1 v] }
 |.frz o u=>h.get? a=some o∧ObjOk H h a u
 |.tbl q => ∃ps:Array Value,h.get? a=some { cls:=.none,data:=.fields ps }∧TriplesOk ps.toList∧∀pos cv,codeAmong pos ps.toList=some cv→∃(c:Addr) (oc:Obj) (vs:Array Value) (tk:Tok),cv=.ref c∧H c=some (.frz oc (.own 0))∧oc.data=.fields vs∧vs[1]?=some (.str q tk)
 |.met f x=>h.get? a=some (zbz2 (.ref f) (.ref x))
 |.ext φ=>φ h∧(∃o,h.get? a=some o)∧∀h1 h2:Heap,φ h1→(∀o,h1.get? a=some o→h2.get? a=some o)→φ h2
noncomputable def HOk (H:Hp) (h:Heap):Prop := ∀a o,H a=some o→ObjOk P w H h a o
end
section
variable {P:Program}{w:World}{H H':Hp}{h h':Heap}{a:Addr}{o:HO}
theorem ObjOk.lt (x:ObjOk P w H h a o):a<h.objs.size:=by
 cases o with
 |lst xs=>obtain⟨_,_,_,_,e⟩:=x;exact zbl0 e
 |tup xs=>obtain⟨_,_,_,p⟩:=x;exact p.lt
 |dK kvs=>obtain⟨_,_,_,_,o,_,_,e,_⟩:=x;exact zbl0 e
 |dT kvs=>obtain⟨_,_,_,_,o,_,_,e,_⟩:=x;exact zbl0 e
 |set S n=>obtain⟨o,_,_,_,e,_⟩:=x;exact zbl0 e
 |ins C dx fs=>obtain⟨_,_,_,e,_⟩:=x;exact zbl0 e
 |own y=>obtain⟨_,e⟩:=x;exact zbl0 e
 |xd fs=>obtain⟨_,⟨_,_,_,e,_⟩,_⟩:=x;exact zbl0 e
 |rng lo hi=>obtain⟨_,_,_,e⟩:=x;exact zbl0 e
 |frz ob u=>obtain⟨e,_⟩:=x;exact zbl0 e
 |tbl q=>obtain⟨_,e,_⟩:=x;exact zbl0 e
 |met f y=>exact zbl0 (show h.get? a=some _ from x)
 |ext φ=>obtain⟨_,⟨_,e⟩,_⟩:=x;exact zbl0 e
theorem Paired.mapP {α β:Type}{F G:α→β→Prop}:∀ {l₁:List α}{l₂:List β},Paired F l₁ l₂→(∀a b,F a b→G a b)→Paired G l₁ l₂
 |_,_,.nil,_=>.nil
 |_,_,.cons r t,f=>.cons (f _ _ r) (Paired.mapP t f)
theorem ObjOk.stay (x:ObjOk P w H h a o) (k:∀b u,(b=a∨H b=some (.own a))→h.get? b=some u→h'.get? b=some u)
  (ho:∀b,H b=some (.own a)→H' b=some (.own a)) (ht:∀b xs,H b=some (.tup xs)→H' b=some (.tup xs)) (hz:∀b o u,H b=some (.frz o u)→H' b=some (.frz o u)):ObjOk P w H' h' a o:=by
 induction o with
 |lst xs=>obtain⟨z,its,n,r,e⟩:=x;exact⟨z,its,n,r,k _ _ (.inl rfl) e⟩
 |tup xs=>obtain⟨z,its,r,ob,e,c⟩:=x;exact⟨z,its,r,ob,k _ _ (.inl rfl) e,c⟩
 |dK kvs=>obtain⟨z,y,vs,r,ob,es,ep,e,c⟩:=x;exact⟨z,y,vs,r,ob,es,ep,k _ _ (.inl rfl) e,c⟩
 |dT kvs =>
  obtain⟨z,y,xs,r,ob,es,ep,e,c⟩:=x
  exact⟨z,y,xs,Paired.mapP r fun p q z=>⟨z.1,ht _ _ z.2.1,z.2.2⟩,ob,es,ep,k _ _ (.inl rfl) e,c⟩
 |set S n=>obtain⟨ob,es,ep,t,e,c⟩:=x;exact⟨ob,es,ep,t,k _ _ (.inl rfl) e,c⟩
 |ins C dx fs =>
  obtain⟨d,z,ne,e,mA,⟨od,es,ep,e2,c⟩,r⟩:=x
  exact⟨ho _ d,z,ne,k _ _ (.inl rfl) e,mA,⟨od,es,ep,k _ _ (.inr d) e2,c⟩,r⟩
 |own y=>obtain⟨ob,e⟩:=x;exact⟨ob,k _ _ (.inl rfl) e⟩
 |xd fs=>obtain⟨mA,⟨od,es,ep,e,c⟩,r⟩:=x;exact⟨mA,⟨od,es,ep,k _ _ (.inl rfl) e,c⟩,r⟩
 |rng lo hi=>obtain⟨t,u,v,e⟩:=x;exact⟨t,u,v,k _ _ (.inl rfl) e⟩
 |frz ob u ih=>obtain⟨e,q⟩:=x;exact⟨k _ _ (.inl rfl) e,ih q⟩
 |tbl q=>obtain⟨ps,e,t,r⟩:=x;exact⟨ps,k _ _ (.inl rfl) e,t,fun pos cv z=>let ⟨c,oc,vs,tk,a1,a2,a3⟩:=r pos cv z;⟨c,oc,vs,tk,a1,hz _ _ _ a2,a3⟩⟩
 |met f y =>
  have e:h.get? a=some (zbz2 (.ref f) (.ref y)):=x
  show h'.get? a=some (zbz2 (.ref f) (.ref y))
  exact k a _ (.inl rfl) e
 |ext φ=>obtain⟨p,⟨o,e⟩,st⟩:=x;exact⟨st _ _ p fun o q=>k _ _ (.inl rfl) q,⟨o,k _ _ (.inl rfl) e⟩,st⟩
theorem HOk.lt (x:HOk P w H h) (e:H a=some o):a<h.objs.size:=(x a o e).lt
theorem HOk.fresh (x:HOk P w H h) (e:h.objs.size≤a):H a=none:=by
 cases q:H a with
 |none=>rfl
 |some u=>exact absurd (zbm4 (x.lt q) e) (zbr0 _)
theorem HOk.kept (x:HOk P w H h) (k:∀b u,h.get? b=some u→h'.get? b=some u):HOk P w H h':=fun a o e =>
 (x a o e).stay (fun b u _ q=>k b u q) (fun _ q=>q) (fun _ _ q=>q) fun _ _ _ q=>q
theorem HOk.laid (x:HOk P w H h) (k:∀b u,h.get? b=some u→h'.get? b=some u) (hp:h.objs.size≤a) (new:ObjOk P w (upd H a o) h' a o):HOk P w (upd H a o) h':=fun b u e=>by
 have hn:=x.fresh hp
 by_cases hb:b=a
 ·subst hb;rw [zc3]at e;cases e;exact new
 ·rw [zc9 hb]at e
  exact (x b u e).stay (fun c v _ q=>k c v q) (fun c q=>by rw [zc9 (zj4 q hn)];exact q) (fun c xs q=>by rw [zc9 (zj4 q hn)];exact q) fun c o u q=>by rw [zc9 (zj4 q hn)];exact q
end
noncomputable def Rd (H:Hp) (a:Addr) (u:HO):Prop:=H a=some u∨∃o,H a=some (.frz o u)
theorem Rd.ok {P:Program}{w:World}{H:Hp}{h:Heap}{a:Addr}{u:HO} (r:Rd H a u) (x:HOk P w H h):ObjOk P w H h a u:=by
 rcases r with r | ⟨o,r⟩
 ·exact x a u r
 ·obtain⟨_,q⟩:=x a _ r
  exact q
noncomputable def Mut:Option HO→Prop
 |some (.lst _)=>True
 |some (.dK _)=>True
 |some (.dT _)=>True
 |some (.set _ _)=>True
 |some (.ins _ _ _)=>True
 |some (.ext _)=>True
 |_=>False
section
variable {P:Program}{w:World}{H:Hp}{h h':Heap}{x e:Addr}{o':HO}
theorem HOk.write (ok:HOk P w H h) (mu:Mut (H x)) (he:e=x∨H e=some (.own x)) (k:∀b u,b≠e→h.get? b=some u→h'.get? b=some u) (heo:∃u,h'.get? e=some u)
  (new:ObjOk P w (upd H x o') h' x o'):HOk P w (upd H x o') h':=fun b u q=>by
 have nown:∀c y,H c=some (.own y)→c≠x:=fun c y r z=>by subst z;rw [r]at mu;exact mu
 have ntup:∀c xs,H c=some (.tup xs)→c≠x:=fun c xs r z=>by subst z;rw [r]at mu;exact mu
 by_cases hb:b=x
 ·subst hb;rw [zc3]at q;cases q;exact new
 ·rw [zc9 hb]at q
  by_cases hbe:b=e
  ·have q':H b=some (.own x):=by
    rcases he with z | z
    ·exact absurd (hbe.trans z) hb
    ·rw [hbe];exact z
   rw [q]at q';cases q'
   obtain⟨v,hv⟩:=heo
   exact⟨v,by rw [hbe];exact hv⟩
  ·refine (ok b u q).stay (fun c v hc r=>k c v ?_ r) (fun c r=>by rw [zc9 (nown c b r)];exact r) (fun c xs r=>by rw [zc9 (ntup c xs r)];exact r) fun c o u r=>by rw [zc9 (fun z=>by subst z;rw [r]at mu;exact mu)];exact r
   rcases hc with rfl | hc
   ·exact hbe
   ·rintro rfl
    rcases he with z | z
    ·exact nown c b hc z
    ·rw [hc]at z;cases z;exact hb rfl
end
structure Un (fs ex:List Addr) (H H':Hp) (h h':Heap):Prop where
 keep:∀b o,h.get? b=some o→H b=none→b∉fs→b∉ex→h'.get? b=some o
 slot:∀b o,h.get? b=some o→H b=none→b∈fs→b∉ex→∃sl,h'.get? b=some { o with slots:=sl }
 free:∀b o,h.get? b=some o→H b=none→b∉ex→H' b=none
 there:∀b o,h.get? b=some o→b∉ex→∃o',h'.get? b=some o'
 tups:∀b xs,H b=some (.tup xs)→H' b=some (.tup xs)
 frzs:∀b o u,H b=some (.frz o u)→H' b=some (.frz o u)
 tbls:∀b q,H b=some (.tbl q)→H' b=some (.tbl q)
section
variable {fs fs' ex ex':List Addr}{H H1 H2:Hp}{h h1 h2 h':Heap}{a x e:Addr}{o:HO}
theorem Un.any (u:Un fs ex H H1 h h1) {b:Addr}{ob:Obj} (q:h.get? b=some ob) (n:H b=none) (hx:b∉ex):∃sl,h1.get? b=some { ob with slots:=sl }:=by
 by_cases hb:b∈fs
 ·exact u.slot b ob q n hb hx
 ·exact⟨ob.slots,u.keep b ob q n hb hx⟩
theorem Un.trans (a:Un fs ex H H1 h h1) (b:Un fs ex H1 H2 h1 h2):Un fs ex H H2 h h2 where
 keep:=fun c ob q n hc hx=>b.keep c ob (a.keep c ob q n hc hx) (a.free c ob q n hx) hc hx
 slot:=fun c ob q n hc hx=>by
  obtain⟨sl,e1⟩:=a.slot c ob q n hc hx
  obtain⟨sl',e2⟩:=b.slot c _ e1 (a.free c ob q n hx) hc hx
  exact⟨sl',e2⟩
 free:=fun c ob q n hx=>by
  obtain⟨o',e1⟩:=a.there c ob q hx
  exact b.free c o' e1 (a.free c ob q n hx) hx
 there:=fun c ob q hx=>by
  obtain⟨o',e1⟩:=a.there c ob q hx
  exact b.there c o' e1 hx
 tups:=fun c xs q=>b.tups c xs (a.tups c xs q)
 frzs:=fun c ob xs q=>b.frzs c ob xs (a.frzs c ob xs q)
 tbls:=fun c q e=>b.tbls c q (a.tbls c q e)
theorem Un.kept (k:∀b u,h.get? b=some u→h'.get? b=some u):Un fs ex H H h h' :=
 ⟨fun b ob q _ _ _=>k b ob q,fun b ob q _ _ _=>⟨ob.slots,k b ob q⟩,fun _ _ _ n _=>n,fun b ob q _=>⟨ob,k b ob q⟩,fun _ _ q=>q,fun _ _ _ q=>q,fun _ _ q=>q⟩
theorem Un.refl:Un fs ex H H h h:=Un.kept fun _ _ q=>q
theorem Un.laid (k:∀b u,h.get? b=some u→h'.get? b=some u) (hp:h.objs.size≤a) (hn:H a=none):Un fs ex H (upd H a o) h h' where
 keep:=fun b u q _ _ _=>k b u q
 slot:=fun b u q _ _ _=>⟨u.slots,k b u q⟩
 free:=fun b u q n _=>by rw [zc9 (zbn1 (zbm4 (zbl0 q) hp))];exact n
 there:=fun b u q _=>⟨u,k b u q⟩
 tups:=fun b xs q=>by rw [zc9 (zj4 q hn)];exact q
 frzs:=fun b u xs q=>by rw [zc9 (zj4 q hn)];exact q
 tbls:=fun b ps q=>by rw [zc9 (zj4 q hn)];exact q
theorem Un.write (mu:Mut (H x)) (he:e=x∨H e=some (.own x)) (k:∀b u,b≠e→h.get? b=some u→h'.get? b=some u) (heo:∃u,h'.get? e=some u):Un fs ex H (upd H x o) h h':=by
 have hx:∀b,H b=none→b≠x:=fun b n z=>by subst z;rw [n]at mu;exact mu
 have hb:∀b,H b=none→b≠e:=fun b n z=>by
  subst z
  rcases he with r | r
  ·exact hx b n r
  ·rw [n]at r;cases r
 have hm:∀b u,H b=some u → ¬ Mut (some u)→b≠x:=fun b u q nm z=>by subst z;rw [q]at mu;exact nm mu
 refine⟨fun b u q n _ _=>k b u (hb b n) q,fun b u q n _ _=>⟨u.slots,k b u (hb b n) q⟩,fun b u q n _=>by rw [zc9 (hx b n)];exact n,fun b u q _=>?_,
  fun b xs q=>by rw [zc9 (hm b _ q fun z=>z)];exact q,fun b u xs q=>by rw [zc9 (hm b _ q fun z=>z)];exact q,fun b ps q=>by rw [zc9 (hm b _ q fun z=>z)];exact q⟩
 by_cases hbe:b=e
 ·subst hbe;exact heo
 ·exact⟨u,k b u hbe q⟩
end
noncomputable def trk (h:Heap) (H:Hp):List Addr:=(zbo3 h.objs.size).filter fun a=>(H a).isSome
noncomputable def hidT (h:Heap) (H:Hp):Heap:=PySem.W.hideAll h (trk h H)
theorem zbe5 (h:Heap) (H:Hp):(hidT h H).objs.size=h.objs.size:=PySem.W.hideAll_size _ _
theorem zw7 {h:Heap}{H:Hp}{b:Addr}{o:Obj} (e:h.get? b=some o) (n:H b=none):(hidT h H).get? b=some o :=
 PySem.W.hideAll_get _ e fun hm=>by
  have q:(H b).isSome=true:=(zcb1.mp hm).2
  rw [n]at q;simp at q
theorem of_hidT {h:Heap}{H:Hp}{b:Addr}{o:Obj} (e:(hidT h H).get? b=some o):h.get? b=some o∧H b=none:=by
 have e':h.get? b=some o:=PySem.W.of_hideAll (trk h H) e
 refine⟨e',?_⟩
 cases q:H b with
 |none=>rfl
 |some x =>
  have hm:b∈trk h H:=zcb1.mpr ⟨zbq9.mpr (zbl0 e'),by simp [q]⟩
  have z:(hidT h H).get? b=none:=PySem.W.hideAll_none (trk h H) hm
  rw [z]at e;cases e
noncomputable def allNews (g h:Heap) (L:Addr):List (Addr×Obj):=(zbo3 h.objs.size).filterMap fun a=>if a=L∨(g.get? a).isSome=true then none else (h.get? a).map fun o=>(a,o)
noncomputable def rest (g h:Heap) (L d:Addr):List (Addr×Obj):=(allNews g h L).filter fun p=>decide (p.1≠d)
end L2
namespace L2
open PySem.Spec
structure BHeap extends Heap where
 tabs:List (Addr×Str)
instance:Coe BHeap Heap:=⟨BHeap.toHeap⟩
structure Mod (K:zbj6) (mg:Str→Option Value) (base:BHeap):Prop where
 kin:K.In base
 glob:base.Ns mainGlobals mg
 blt:∃mb,base.Ns builtinsNs mb∧∀x:Str,x≠"__name__"→mb x=bootBuiltins x
 nolimit:base.NoLimit
 bm:∃(bm:Addr) (ob:Obj),mg "__builtins__"=some (.ref bm)∧bm≠builtinsNs∧base.get? bm=some ob∧ob.cls=.type "module"∧ob.dict=some builtinsNs∧ob.data=.plain
structure Cx where
 prog:Program
 w:World
 K:zbj6
 mg:Str→Option Value
 base:BHeap
 A:Around
 N:List Str
 s₀:zbk8
 H₀:Hp
 env:Env
 outer:List Env
 stack:List Env
 ex:List Addr
 fn:Str→Bool
 calm:Bool
 pn:List (Addr×Obj)
 xe:Value→zbk8→Prop
noncomputable def frs (l:List Env):List Addr:=l.filterMap (·.frame)
noncomputable abbrev Cx.fs (X:Cx):List Addr:=frs X.outer
noncomputable def Vis (sc:Scope) (x:Str):Prop:=sc.names.lookup x=some .local∨sc.names.lookup x=some .cell∨sc.names.lookup x=some .free
noncomputable def Loc (sc:Scope) (x:Str):Prop:=sc.names.lookup x=some .local∨sc.names.lookup x=some .cell
noncomputable def Look (env:Env) (h:Heap) (m:Str→Option Value) (x:Str) (u:Value):Prop :=
 (env.kindOf x=some .local∧m x=some u)∨((env.kindOf x=some .cell∨env.kindOf x=some .free)∧∃c,env.cells.lookup x=some c∧h.IsCell c (some u))
structure Cx.Ok (X:Cx):Prop where
 mod:Mod X.K X.mg X.base
 kind:X.env.scope.kind=.function
 glob:X.env.globals=mainGlobals
 blt:X.env.builtins=builtinsNs
 above:X.s₀.heap.objs.size≤X.env.locals
 inj:∀x y c,X.env.cells.lookup x=some c→X.env.cells.lookup y=some c→x=y
 has:∀x,(X.env.kindOf x=some .cell∨X.env.kindOf x=some .free)→∃c,X.env.cells.lookup x=some c
 cab:∀x c,X.fn x=true→X.env.cells.lookup x=some c→X.s₀.heap.objs.size≤c
 hd:X.calm=true→X.A.handled=none
 frames:X.A.frames=some X.stack
 stk:X.stack=X.outer∨(X.stack=X.env::X.outer∧X.env.frame=some X.env.locals)
 exf:∀b∈X.ex,b≠X.env.locals∧∀x c,X.env.cells.lookup x=some c→c≠b
 bs:∀b o,X.base.get? b=some o→X.s₀.heap.get? b=some o∧X.H₀ b=none
 bsz:X.base.objs.size≤X.s₀.heap.objs.size
 noex:∀b o,X.base.get? b=some o→b∉X.ex
 exfs:∀b∈X.ex,b∉X.fs
 funs:X.s₀.heap.FunFrames X.base X.outer
 frf:∀b∈X.fs,X.H₀ b=none
 tabs:∀p∈X.base.tabs,X.H₀ p.1=some (.tbl p.2)
structure Inv (X:Cx) (pins:List (Addr×Obj)) (σ:List (Option V)) (H:Hp) (s:zbk8):Prop where
 ok:X.Ok
 os:s.os=X.s₀.os
 bare:AllBare s.gens
 base:Un X.fs X.ex X.H₀ H X.s₀.heap s.heap
 loc:∃m,s.heap.Ns X.env.locals m∧∀(i:Nat) (x:Str) (v:V),X.N[i]?=some x→σ[i]?=some (some v)→Vis X.env.scope x→∃u,RelV v u∧Look X.env s.heap m x u
 cell:∀x c,X.env.cells.lookup x=some c→∃v,s.heap.IsCell c v
 free:H X.env.locals=none
 freeC:∀x c,X.env.cells.lookup x=some c→H c=none
 pin:∀p∈X.pn++pins,s.heap.get? p.1=some p.2∧H p.1=none∧p.1≠X.env.locals∧p.1∉X.fs∧∀v,p.2.data≠.cell v
 hok:HOk X.prog X.w H s.heap
 len:σ.length=X.N.length
section
variable {X:Cx}{pins:List (Addr×Obj)}{σ:List (Option V)}{H H':Hp}{s:zbk8}{h':Heap}
theorem Cx.Ok.nofr (ok:X.Ok) {b:Addr}{o:Obj} (e:X.base.get? b=some o):b∉X.fs:=fun hb=>by
 have:=(ok.funs.mem hb).1
 rw [e]at this;cases this
theorem Inv.bs (I:Inv X pins σ H s):∀b o,X.base.get? b=some o→s.heap.get? b=some o∧H b=none:=fun b o e =>
 ⟨I.base.keep b o (I.ok.bs b o e).1 (I.ok.bs b o e).2 (I.ok.nofr e) (I.ok.noex b o e),I.base.free b o (I.ok.bs b o e).1 (I.ok.bs b o e).2 (I.ok.noex b o e)⟩
theorem Inv.bk (I:Inv X pins σ H s):∀b o,X.base.get? b=some o→s.heap.get? b=some o:=fun b o e=>(I.bs b o e).1
theorem Inv.mod (I:Inv X pins σ H s):Mod X.K X.mg X.base:=I.ok.mod
theorem Inv.kIn (I:Inv X pins σ H s):X.K.In s.heap:=I.ok.mod.kin.keeps I.bk
theorem Inv.lt (I:Inv X pins σ H s):X.env.locals<s.heap.objs.size:=let ⟨_,hn,_⟩:=I.loc;hn.lt
theorem Inv.sz (I:Inv X pins σ H s):X.s₀.heap.objs.size≤s.heap.objs.size:=zbq4 I.ok.above (zbv1 I.lt)
theorem Inv.nofs (I:Inv X pins σ H s) {a:Addr} (h:s.heap.objs.size≤a):a∉X.fs:=fun hb=>by
 obtain⟨_,o,ho,_⟩:=I.ok.funs.mem hb
 exact absurd (zbm4 (zbl0 ho) (zbq4 I.sz h)) (zbr0 _)
theorem Inv.cne (I:Inv X pins σ H s):∀x c,X.env.cells.lookup x=some c→c≠X.env.locals:=fun x c e z=>by
 obtain⟨v,o,ho,hd⟩:=I.cell x c e
 obtain⟨m,⟨o',es,ep,ho',hd',_⟩,_⟩:=I.loc
 rw [z,ho']at ho;cases ho;rw [hd']at hd;cases hd
theorem Inv.funs (I:Inv X pins σ H s):s.heap.FunFrames X.base X.outer:=by
 have all:∀(l:List Env),(∀b∈frs l,b∈X.fs)→X.s₀.heap.FunFrames X.base l→s.heap.FunFrames X.base l:=by
  intro l
  induction l with
  |nil=>intro _ _;trivial
  |cons env r ih =>
   intro hs hl
   obtain⟨hk,⟨L,o,hf,hn,ho,hd⟩,hr⟩:=hl
   have hL:L∈X.fs:=hs L (by unfold frs;rw [zbx1,hf];exact zbk2)
   obtain⟨sl,e⟩:=I.base.slot L o ho (I.ok.frf L hL) hL fun z=>I.ok.exfs L z hL
   exact⟨hk,⟨L,_,hf,hn,e,hd⟩,ih (fun b hb=>hs b (by unfold frs;rw [zbx1,hf];exact zbj9 _ hb)) hr⟩
 exact all X.outer (fun _ hb=>hb) I.ok.funs
theorem Inv.stack (I:Inv X pins σ H s):s.heap.FunFrames X.base X.stack:=by
 rcases I.ok.stk with e | ⟨e,hf⟩
 ·rw [e];exact I.funs
 ·rw [e]
  obtain⟨m,hn,_⟩:=I.loc
  refine .cons (by rw [I.ok.kind];decide) hf hn ?_ I.funs
  exact Heap.get?_none_of_le (zbq4 I.ok.bsz I.ok.above)
theorem Inv.stkSub (I:Inv X pins σ H s):∀b∈frs X.stack,b∈X.env.locals::X.fs:=fun b hb=>by
 rcases I.ok.stk with e | ⟨e,hf⟩
 ·rw [e]at hb;exact zbj9 _ hb
 ·rw [e]at hb
  unfold frs at hb
  rw [zbx1,hf]at hb
  exact hb
theorem Inv.stkFree (I:Inv X pins σ H s):∀b∈frs X.stack,H b=none:=fun b hb=>by
 rcases zbk5.mp (I.stkSub b hb) with e | hb
 ·rw [e];exact I.free
 ·obtain⟨_,o,ho,_⟩:=I.ok.funs.mem hb
  exact I.base.free b o ho (I.ok.frf b hb) fun z=>I.ok.exfs b z hb
theorem Inv.step {g':Array GenState}{t':Nat}{d':Drawn}{ch:List Addr} (I:Inv X pins σ H s)
  (hch:∀b∈ch,(b∈X.ex∨X.s₀.heap.objs.size≤b)∧b≠X.env.locals∧(∀x c,X.env.cells.lookup x=some c→c≠b)∧∀p∈X.pn++pins,p.1≠b)
  (keep:∀b o,b≠X.env.locals→b∉X.fs→b∉ch→s.heap.get? b=some o→H b=none→h'.get? b=some o)
  (slot:∀b o,b≠X.env.locals→b∈X.fs→b∉ch→s.heap.get? b=some o→H b=none→∃sl,h'.get? b=some { o with slots:=sl }) (free:∀b o,b∉ch→s.heap.get? b=some o→H b=none→H' b=none)
  (there:∀b o,b∉ch→s.heap.get? b=some o→∃o',h'.get? b=some o')
  (tups:∀b xs,H b=some (.tup xs)→H' b=some (.tup xs)) (frzs:∀b o u,H b=some (.frz o u)→H' b=some (.frz o u)) (tbls:∀b q,H b=some (.tbl q)→H' b=some (.tbl q))
  (ns:∀m,s.heap.Ns X.env.locals m→h'.Ns X.env.locals m) (hok:HOk X.prog X.w H' h') (hg:AllBare g') :
  Inv X pins σ H' { s with heap:=h',gens:=g',drawn:=d',toks:=t' }:=by
 have neL:∀b o,X.s₀.heap.get? b=some o→b≠X.env.locals:=fun b o e=>zbn1 (zbm4 (zbl0 e) I.ok.above)
 have neC:∀b o,X.s₀.heap.get? b=some o→b∉X.ex→b∉ch:=fun b o e hx hb=>by
  rcases (hch b hb).1 with z | z
  ·exact hx z
  ·exact absurd (zbm4 (zbl0 e) z) (zbr0 _)
 have cellK:∀x c,X.env.cells.lookup x=some c→∀v,s.heap.IsCell c v→h'.IsCell c v:=fun x c e v ⟨o,ho,hd⟩=>by
  have nch:c∉ch:=fun z=>(hch c z).2.2.1 x c e rfl
  by_cases hc:c∈X.fs
  ·obtain⟨sl,q⟩:=slot c o (I.cne x c e) hc nch ho (I.freeC x c e)
   exact⟨_,q,hd⟩
  ·exact⟨o,keep c o (I.cne x c e) hc nch ho (I.freeC x c e),hd⟩
 refine⟨I.ok,I.os,hg,⟨fun b o e n hb hx=>?_,fun b o e n hb hx=>?_,fun b o e n hx=>?_,fun b o e hx=>?_,fun b xs e=>tups b xs (I.base.tups b xs e),fun b o xs e=>frzs b o xs (I.base.frzs b o xs e),fun b ps e=>?_⟩,?_,fun x c e=>?_,?_,fun x c e=>?_,fun p hp=>?_,hok,I.len⟩
 ·exact keep b o (neL b o e) hb (neC b o e hx) (I.base.keep b o e n hb hx) (I.base.free b o e n hx)
 ·obtain⟨sl,e1⟩:=I.base.slot b o e n hb hx
  obtain⟨sl',e2⟩:=slot b _ (neL b o e) hb (neC b o e hx) e1 (I.base.free b o e n hx)
  exact⟨sl',e2⟩
 ·obtain⟨o',e1⟩:=I.base.there b o e hx
  exact free b o' (neC b o e hx) e1 (I.base.free b o e n hx)
 ·obtain⟨o',e1⟩:=I.base.there b o e hx
  exact there b o' (neC b o e hx) e1
 ·exact tbls b _ (I.base.tbls b ps e)
 ·obtain⟨m,hn,hl⟩:=I.loc
  refine⟨m,ns m hn,fun i x v e1 e2 e3=>?_⟩
  obtain⟨u,r,l⟩:=hl i x v e1 e2 e3
  refine⟨u,r,?_⟩
  rcases l with l | ⟨k,c,e,z⟩
  ·exact .inl l
  ·exact .inr ⟨k,c,e,cellK x c e _ z⟩
 ·obtain⟨v,z⟩:=I.cell x c e
  exact⟨v,cellK x c e v z⟩
 ·obtain⟨m,⟨o,_,_,ho,_⟩,_⟩:=I.loc
  exact free _ o (fun z=>(hch _ z).2.1 rfl) ho I.free
 ·obtain⟨v,o,ho,hd⟩:=I.cell x c e
  exact free c o (fun z=>(hch c z).2.2.1 x c e rfl) ho (I.freeC x c e)
 ·obtain⟨e,n,ne,nf,d⟩:=I.pin p hp
  have nch:p.1∉ch:=fun z=>(hch p.1 z).2.2.2 p hp rfl
  exact⟨keep p.1 p.2 ne nf nch e n,free p.1 p.2 nch e n,ne,nf,d⟩
theorem Inv.un {t':Nat} (I:Inv X pins σ H s) (u:Un X.fs [] H H' s.heap h') (hok:HOk X.prog X.w H' h'):Inv X pins σ H' { s with heap:=h',toks:=t' }:=by
 obtain⟨m,⟨o,es,ep,ho,r⟩,_⟩:=id I.loc
 obtain⟨sl,hL⟩:=u.any ho I.free (by simp)
 exact I.step (g':=s.gens) (d':=s.drawn) (ch:=[]) (fun _ z=>nomatch z) (fun b o _ hb _ e n=>u.keep b o e n hb (by simp)) (fun b o _ hb _ e n=>u.slot b o e n hb (by simp)) (fun b o _ e n=>u.free b o e n (by simp)) (fun b o _ e=>u.there b o e (by simp)) u.tups u.frzs u.tbls (fun m' hm=>by
  obtain⟨o',es',ep',ho',r'⟩:=hm
  rw [ho]at ho';cases ho'
  exact⟨_,es',ep',hL,r'⟩) hok I.bare
theorem Inv.call {g':Array GenState}{t':Nat}{d':Drawn}{ch:List Addr} (I:Inv X pins σ H s) (u:Un (frs X.stack) ch H H' s.heap h') (hok:HOk X.prog X.w H' h') (hg:AllBare g')
  (hch:∀b∈ch,(b∈X.ex∨X.s₀.heap.objs.size≤b)∧b≠X.env.locals∧(∀x c,X.env.cells.lookup x=some c→c≠b)∧∀p∈X.pn++pins,p.1≠b) :
  Inv X pins σ H' { s with heap:=h',gens:=g',drawn:=d',toks:=t' }:=by
 obtain⟨m,⟨o,es,ep,ho,r⟩,_⟩:=id I.loc
 obtain⟨sl,hL⟩:=u.any ho I.free fun z=>(hch _ z).2.1 rfl
 exact I.step (ch:=ch) hch (fun b o hL hb hc e n=>u.keep b o e n (fun z=>(zbk5.mp (I.stkSub b z)).elim hL hb) hc) (fun b o _ _ hc e n=>u.any e n hc) (fun b o hc e n=>u.free b o e n hc) (fun b o hc e=>u.there b o e hc) u.tups u.frzs u.tbls (fun m' hm=>by
  obtain⟨o',es',ep',ho',r'⟩:=hm
  rw [ho]at ho';cases ho'
  exact⟨_,es',ep',hL,r'⟩) hok hg
theorem Inv.turned {t':Nat}{it:Addr} (I:Inv X pins σ H s) (k:∀b o,b≠it→s.heap.get? b=some o→h'.get? b=some o) (hn:H it=none) (hL:it≠X.env.locals)
  (h1:it∈X.ex∨X.s₀.heap.objs.size≤it) (h2:∀x c,X.env.cells.lookup x=some c→c≠it) (h3:∀p∈X.pn++pins,p.1≠it):Inv X pins σ H { s with heap:=h',toks:=t' }:=by
 have nit:∀b u,H b=some u→b≠it:=fun b u e z=>by rw [z,hn]at e;cases e
 refine I.step (g':=s.gens) (d':=s.drawn) (ch:=[it]) (fun b hb=>?_) (fun b o _ _ hc e _=>k b o (fun z=>hc (by simp [z])) e) (fun b o _ _ hc e _=>⟨o.slots,k b o (fun z=>hc (by simp [z])) e⟩) (fun _ _ _ _ n=>n)
  (fun b o hc e=>⟨o,k b o (fun z=>hc (by simp [z])) e⟩) (fun _ _ e=>e) (fun _ _ _ e=>e) (fun _ _ e=>e) (fun m hm=>?_) (fun b u e=>?_) I.bare
 ·have e:b=it:=by simpa using hb
  subst e
  exact⟨h1,hL,h2,h3⟩
 ·obtain⟨o,es,ep,ho,r⟩:=hm
  exact⟨o,es,ep,k _ o (Ne.symm hL) ho,r⟩
 ·refine (I.hok b u e).stay (fun c v hc q=>k c v ?_ q) (fun _ q=>q) (fun _ _ q=>q) fun _ _ _ q=>q
  rcases hc with z | z
  ·rw [z];exact nit b u e
  ·exact nit c _ z
theorem Inv.tok (I:Inv X pins σ H s) (t:Nat):Inv X pins σ H { s with toks:=t }:=I.un (h':=s.heap) (t':=t) Un.refl I.hok
theorem Inv.kept {t':Nat} (I:Inv X pins σ H s) (k:∀b u,s.heap.get? b=some u→h'.get? b=some u):Inv X pins σ H { s with heap:=h',toks:=t' }:=I.un (Un.kept k) (I.hok.kept k)
theorem Inv.laid {a:Addr}{o:HO}{t':Nat} (I:Inv X pins σ H s) (k:∀b u,s.heap.get? b=some u→h'.get? b=some u) (hp:s.heap.objs.size≤a) (new:ObjOk X.prog X.w (upd H a o) h' a o) :
  Inv X pins σ (upd H a o) { s with heap:=h',toks:=t' }:=I.un (Un.laid k hp (I.hok.fresh hp)) (I.hok.laid k hp new)
theorem Inv.write {x e:Addr}{o:HO}{t':Nat} (I:Inv X pins σ H s) (mu:Mut (H x)) (he:e=x∨H e=some (.own x)) (k:∀b u,b≠e→s.heap.get? b=some u→h'.get? b=some u) (heo:∃u,h'.get? e=some u)
  (new:ObjOk X.prog X.w (upd H x o) h' x o):Inv X pins σ (upd H x o) { s with heap:=h',toks:=t' }:=I.un (Un.write mu he k heo) (I.hok.write mu he k heo new)
theorem Inv.pins_of {pins':List (Addr×Obj)} (I:Inv X pins σ H s) (h:∀p∈pins',s.heap.get? p.1=some p.2∧H p.1=none∧p.1≠X.env.locals∧p.1∉X.fs∧∀v,p.2.data≠.cell v):Inv X pins' σ H s :=
 ⟨I.ok,I.os,I.bare,I.base,I.loc,I.cell,I.free,I.freeC,fun p hp=>(zbk1.mp hp).elim (fun z=>I.pin p (zbj7 _ z)) (h p),I.hok,I.len⟩
theorem zas0 {N:List Str} (hN:N.Nodup) {i j:Nat}{x:Str} (a:N[i]?=some x) (b:N[j]?=some x):i=j:=by
 obtain⟨h1,e1⟩:=zbn0.mp a
 obtain⟨h2,e2⟩:=zbn0.mp b
 exact (List.getElem_inj hN).mp (e1.trans e2.symm)
theorem zag4 {M:Model}{A:Around}{E:Value→zbk8→Prop}{i:Nat}{x:Str}{v:V}{u:Value}{Q:Unit→zbk8→Prop} (I:Inv X pins σ H s) (hN:X.N.Nodup) (hi:X.N[i]?=some x) (hx:Loc X.env.scope x) (r:RelV v u)
  (h:∀s',Inv X pins (σ.set i (some v)) H s'→(∃a,Heap.SameBut a s.heap s'.heap∧(a=X.env.locals∨X.env.cells.lookup x=some a))→Q () s') (hf:X.fn x=true∨X.env.scope.names.lookup x=some .local:=by first | exact .inl rfl | exact .inr rfl | assumption):wpAny M A (storeName X.env x u) Q E s:=by
 obtain⟨m,hn,hl⟩:=id I.loc
 have hcls:(X.env.scope.kind == .class||(X.env.scope.kind == .module&&X.env.locals != X.env.globals))=false:=by rw [I.ok.kind];rfl
 have hiσ:i<σ.length:=by rw [I.len];exact (zbn0.mp hi).1
 have cne:=I.cne
 have tracked:∀ {a:Addr}{h':Heap},(∃o,s.heap.get? a=some o∧H a=none)→Heap.SameBut a s.heap h'→HOk X.prog X.w H h':=fun {a h'} ha hs b ob e=>by
  obtain⟨_,_,hfree⟩:=ha
  refine (I.hok b ob e).stay (fun c w' hc q=>(hs.2 c ?_).trans q) (fun _ q=>q) (fun _ _ q=>q) fun _ _ _ q=>q
  rintro rfl
  rcases hc with rfl | hc
  ·rw [hfree]at e;cases e
  ·rw [hfree]at hc;cases hc
 rcases hx with hk | hk
 ·refine wpAny_storeName_local hk hn (fun h' hn' hs=>?_) hcls
  obtain⟨oL,_,_,hoL,_⟩:=id hn
  refine h _ ⟨I.ok,I.os,I.bare,⟨fun b o e n hb hx=>?_,fun b o e n hb hx=>?_,I.base.free,fun b o e hx=>?_,I.base.tups,I.base.frzs,I.base.tbls⟩,⟨_,hn',fun j y v' e1 e2 e3=>?_⟩,fun y c e=>?_,I.free,I.freeC,fun p hp=>?_,tracked ⟨oL,hoL,I.free⟩ hs,by simpa using I.len⟩ ⟨_,hs,.inl rfl⟩
  ·exact (hs.2 b (zbn1 (zbm4 (zbl0 e) I.ok.above))).trans (I.base.keep b o e n hb hx)
  ·obtain⟨sl,e1⟩:=I.base.slot b o e n hb hx
   exact⟨sl,(hs.2 b (zbn1 (zbm4 (zbl0 e) I.ok.above))).trans e1⟩
  ·obtain⟨o',e1⟩:=I.base.there b o e hx
   exact⟨o',(hs.2 b (zbn1 (zbm4 (zbl0 e) I.ok.above))).trans e1⟩
  ·by_cases hj:j=i
   ·subst hj
    rw [hi]at e1;cases e1
    rw [zbr6 hiσ]at e2
    cases e2
    exact⟨u,r,.inl ⟨hk,by simp⟩⟩
   ·rw [zbs2 (Ne.symm hj)]at e2
    obtain⟨u',r',q⟩:=hl j y v' e1 e2 e3
    refine⟨u',r',?_⟩
    rcases q with ⟨k,e⟩ | ⟨k,c,e,z⟩
    ·refine .inl ⟨k,?_⟩
     have:y≠x:=fun e=>hj (zas0 hN e1 (e ▸ hi))
     simp [this,e]
    ·exact .inr ⟨k,c,e,z.sameBut hs (cne y c e)⟩
  ·obtain⟨w',z⟩:=I.cell y c e
   exact⟨w',z.sameBut hs (cne y c e)⟩
  ·obtain⟨e,n,ne,nf,d⟩:=I.pin p hp
   exact⟨(hs.2 p.1 ne).trans e,n,ne,nf,d⟩
 ·have hfn:X.fn x=true:=by
   rcases hf with z | z
   ·exact z
   ·rw [z]at hk;cases hk
  obtain⟨c,hc⟩:=I.ok.has x (.inl hk)
  obtain⟨w',z⟩:=I.cell x c hc
  refine wpAny_storeName_cell I.ok.kind hk hc z (fun h' hc' hs=>?_)
  obtain⟨oc,hoc,hocd⟩:=id z
  refine h { s with heap:=h' } ⟨I.ok,I.os,I.bare,⟨fun b o e n hb hx=>?_,fun b o e n hb hx=>?_,I.base.free,fun b o e hx=>?_,I.base.tups,I.base.frzs,I.base.tbls⟩,⟨m,hn.sameBut hs (Ne.symm (cne x c hc)),fun j y v' e1 e2 e3=>?_⟩,fun y c' e=>?_,I.free,I.freeC,fun p hp=>?_,tracked ⟨oc,hoc,I.freeC x c hc⟩ hs,by simpa using I.len⟩ ⟨c,hs,.inr hc⟩
  ·exact (hs.2 b (zbn1 (zbm4 (zbl0 e) (I.ok.cab x c hfn hc)))).trans (I.base.keep b o e n hb hx)
  ·obtain⟨sl,e1⟩:=I.base.slot b o e n hb hx
   exact⟨sl,(hs.2 b (zbn1 (zbm4 (zbl0 e) (I.ok.cab x c hfn hc)))).trans e1⟩
  ·obtain⟨o',e1⟩:=I.base.there b o e hx
   exact⟨o',(hs.2 b (zbn1 (zbm4 (zbl0 e) (I.ok.cab x c hfn hc)))).trans e1⟩
  ·by_cases hj:j=i
   ·subst hj
    rw [hi]at e1;cases e1
    rw [zbr6 hiσ]at e2
    cases e2
    exact⟨u,r,.inr ⟨.inl hk,c,hc,hc'⟩⟩
   ·rw [zbs2 (Ne.symm hj)]at e2
    obtain⟨u',r',q⟩:=hl j y v' e1 e2 e3
    refine⟨u',r',?_⟩
    rcases q with q | ⟨k,c',e,z'⟩
    ·exact .inl q
    ·refine .inr ⟨k,c',e,z'.sameBut hs ?_⟩
     rintro rfl
     exact hj (zas0 hN e1 (I.ok.inj _ _ _ e hc ▸ hi))
  ·by_cases hcc:c'=c
   ·subst hcc;exact⟨_,hc'⟩
   ·obtain⟨w2,z2⟩:=I.cell y c' e
    exact⟨w2,z2.sameBut hs hcc⟩
  ·obtain⟨e,n,ne,nf,d⟩:=I.pin p hp
   refine⟨(hs.2 p.1 ?_).trans e,n,ne,nf,d⟩
   intro q
   rw [q,hoc]at e
   have q':oc=p.2:=Option.some.inj e
   exact d w' (by rw [← q'];exact hocd)
theorem zaq2 {M:Model}{A:Around}{E:Value→zbk8→Prop}{i:Nat}{x:Str}{v:V}{u:Value}{Q:Unit→zbk8→Prop} (I:Inv X pins σ H s) (hN:X.N.Nodup) (hi:X.N[i]?=some x) (hx:Loc X.env.scope x) (r:RelV v u)
  (h:∀s',Inv X pins (σ.set i (some v)) H s'→Q () s') (hf:X.fn x=true∨X.env.scope.names.lookup x=some .local:=by first | exact .inl rfl | exact .inr rfl | assumption):wpAny M A (storeName X.env x u) Q E s :=
 zag4 I hN hi hx r (fun s' I' _=>h s' I') hf
end
noncomputable abbrev XK:=Value→Option Addr→Hp→Prop
noncomputable abbrev St:=List (Option V)
noncomputable abbrev VK:=V→Hp→Prop
noncomputable abbrev TE:=St→Hp→VK→Prop
noncomputable abbrev TT:=St→Hp→(Bool→Hp→Prop)→Prop
noncomputable abbrev TA:=St→Hp→(List V→Hp→Prop)→Prop
structure Ends where
 nx:St→Hp→Prop
 rt:VK
 bk:St→Hp→Prop:=fun _ _=>False
 ct:St→Hp→Prop:=fun _ _=>False
noncomputable abbrev TS:=Ends→St→Hp→Prop
noncomputable def EP (X:Cx) (pins:List (Addr×Obj)) (σ:St) (Q:VK) (u:Value) (s':zbk8):Prop := ∃v H',Inv X pins σ H' s'∧RelV v u∧Q v H'
noncomputable def TP (X:Cx) (pins:List (Addr×Obj)) (σ:St) (Q:Bool→Hp→Prop) (b:Bool) (s':zbk8):Prop := ∃H',Inv X pins σ H' s'∧Q b H'
noncomputable def AP (X:Cx) (pins:List (Addr×Obj)) (σ:St) (Q:List V→Hp→Prop) (us:List Value) (s':zbk8):Prop := ∃vs H',Inv X pins σ H' s'∧Vals vs us∧Q vs H'
noncomputable def SP (X:Cx) (pins:List (Addr×Obj)) (D:Ends) (f:Flow) (s':zbk8):Prop :=
 match f with
 |.next => ∃σ' H',Inv X pins σ' H' s'∧D.nx σ' H'
 |.brk => ∃σ' H',Inv X pins σ' H' s'∧D.bk σ' H'
 |.cont => ∃σ' H',Inv X pins σ' H' s'∧D.ct σ' H'
 |.ret u => ∃v σ' H',Inv X pins σ' H' s'∧RelV v u∧D.rt v H'
noncomputable def PE (X:Cx) (e:Expr) (t:TE):Prop :=
 ∀(pins:List (Addr×Obj)) (s:zbk8) (σ:St) (H:Hp) (Q:VK),Inv X pins σ H s→t σ H Q→wpAny (model X.prog X.w) X.A (eval e X.env) (EP X pins σ Q) X.xe s
noncomputable def PT (X:Cx) (e:Expr) (t:TT):Prop :=
 ∀(pins:List (Addr×Obj)) (s:zbk8) (σ:St) (H:Hp) (Q:Bool→Hp→Prop),Inv X pins σ H s→t σ H Q→wpAny (model X.prog X.w) X.A (isTrue e X.env (eval e X.env)) (TP X pins σ Q) X.xe s
noncomputable def PW (X:Cx) (e:Expr) (t:TT):Prop :=
 ∀(whole:Sem Value) (pins:List (Addr×Obj)) (s:zbk8) (σ:St) (H:Hp) (Q:Bool→Hp→Prop),Inv X pins σ H s→t σ H Q→wpAny (model X.prog X.w) X.A (isTrue e X.env whole) (TP X pins σ Q) X.xe s
theorem PW.pt {X:Cx}{e:Expr}{t:TT} (h:PW X e t):PT X e t:=h _
noncomputable def PA (X:Cx) (es:List Expr) (t:TA):Prop :=
 ∀(pos:Pos) (pins:List (Addr×Obj)) (s:zbk8) (σ:St) (H:Hp) (Q:List V→Hp→Prop),Inv X pins σ H s→t σ H Q→wpAny (model X.prog X.w) X.A (spliced (zbt6 pos (zbm0 es X.env))) (AP X pins σ Q) X.xe s
noncomputable def PS (X:Cx) (st:Stmt) (t:TS):Prop :=
 ∀(pins:List (Addr×Obj)) (s:zbk8) (σ:St) (H:Hp) (D:Ends),Inv X pins σ H s→t D σ H→wpAny (model X.prog X.w) X.A (exec st X.env) (SP X pins D) X.xe s
noncomputable def PSs (X:Cx) (st:List Stmt) (t:TS):Prop :=
 ∀(pins:List (Addr×Obj)) (s:zbk8) (σ:St) (H:Hp) (D:Ends),Inv X pins σ H s→t D σ H→wpAny (model X.prog X.w) X.A (execs st X.env) (SP X pins D) X.xe s
theorem thn {α:Type}{t:Sem α}{Q Q':α→zbk8→Prop}{M:Model}{A:Around}{E:Value→zbk8→Prop}{s:zbk8} (h:wpAny M A t Q E s) (hQ:∀a s,Q a s→Q' a s):wpAny M A t Q' E s:=wpAny_mono h hQ fun _ _ x=>x
end L2
namespace L2
open PySem.Spec
section
variable {X:Cx}
theorem bin {a b:Expr}{ta tb:TE} (ha:PE X a ta) (hb:PE X b tb) {pins:List (Addr×Obj)}{s:zbk8}{σ:St}{H:Hp}{R:V→V→Hp→Prop} (I:Inv X pins σ H s) (h:ta σ H fun x H1=>tb σ H1 fun y H2=>R x y H2)
  {α:Type}{Q:α→zbk8→Prop}{f:Value→Value→Sem α}
  (hf:∀v u s2 x y H2,Inv X pins σ H2 s2→RelV x v→RelV y u→R x y H2→wpAny (model X.prog X.w) X.A (f v u) Q X.xe s2) :
  wpAny (model X.prog X.w) X.A (eval a X.env) (fun v s₁=>wpAny (model X.prog X.w) X.A (eval b X.env) (fun u s₂=>wpAny (model X.prog X.w) X.A (f v u) Q X.xe s₂) X.xe s₁) X.xe s:=by
 refine thn (ha pins s σ H _ I h) fun v s1 ⟨x,H1,I1,r1,q1⟩=>?_
 refine thn (hb pins s1 σ H1 _ I1 q1) fun u s2 ⟨y,H2,I2,r2,q2⟩=>?_
 exact hf v u s2 x y H2 I2 r1 r2 q2
noncomputable def tVar (i:Nat):TE:=fun σ H Q => ∃v,σ[i]?=some (some v)∧Q v H
noncomputable def tC (v:V):TE:=fun _ H Q=>Q v H
theorem zr0 {i:Nat}{x:Str}{pos:Pos} (hN:X.N[i]?=some x) (hv:Vis X.env.scope x) (hd:(x ==("__debug__":Str))=false:=by decide) (hcd:(x ==("__classdict__":Str))=false:=by decide):PE X (.Name x pos) (tVar i):=by
 intro pins s σ H Q I h
 obtain⟨v,e,h⟩:=h
 obtain⟨m,hn,hl⟩:=I.loc
 obtain⟨u,r,l⟩:=hl i x v hN e hv
 have fin:EP X pins σ Q u s:=⟨v,H,I,r,h⟩
 rcases l with ⟨hk,hm⟩ | ⟨hk,c,hc,hcell⟩
 ·exact wpAny_Name (wpAny_loadName_local I.ok.kind hk hn hm fin) hd
 ·rcases hk with hk | hk
  ·exact wpAny_Name (wpAny_loadName_cell I.ok.kind hk hc hcell fin) hd
  ·exact wpAny_Name (wpAny_loadName_free I.ok.kind hk hc hcell fin hcd) hd
theorem pe_int {i j pos}:PE X (.Constant (.int i) j pos) (tC (.int i)):=fun _ _ _ H _ I h=>wpAny_Constant_int ⟨.int i,H,I.tok _,⟨_,rfl⟩,h⟩
theorem pe_bl {b j pos}:PE X (.Constant (.bool b) j pos) (tC (.bl b)):=fun _ _ _ H _ I h=>Constant_bool ⟨.bl b,H,I,rfl,h⟩
noncomputable def Gl (X:Cx) (x:Str):Prop:=X.env.kindOf x=some .globalImplicit
theorem ld_glob {E:Value→zbk8→Prop}{pins:List (Addr×Obj)}{s:zbk8}{σ:St}{H:Hp}{x:Str}{u:Value}{pos:Pos}{Q:Value→zbk8→Prop} (I:Inv X pins σ H s) (hg:Gl X x) (hm:X.mg x=some u) (h:Q u s)
  (hd:(x ==("__debug__":Str))=false:=by decide):wpAny (model X.prog X.w) X.A (eval (.Name x pos) X.env) Q E s :=
 Calls.Name_function_global I.ok.kind hg (Calls.loadGlobal_global (by rw [I.ok.glob];exact I.mod.glob.keeps I.bk) hm h) hd
theorem zn7 {E:Value→zbk8→Prop}{pins:List (Addr×Obj)}{s:zbk8}{σ:St}{H:Hp}{x:Str}{u:Value}{pos:Pos}{Q:Value→zbk8→Prop} (I:Inv X pins σ H s) (hg:Gl X x) (hm:X.mg x=none) (hv:bootBuiltins x=some u) (h:Q u s)
  (hn:x≠"__name__":=by decide) (hd:(x ==("__debug__":Str))=false:=by decide):wpAny (model X.prog X.w) X.A (eval (.Name x pos) X.env) Q E s:=by
 obtain⟨mb,h1,h2⟩:=I.mod.blt
 exact Calls.Name_function_global I.ok.kind hg (Calls.loadGlobal_builtin (by rw [I.ok.glob];exact I.mod.glob.keeps I.bk) hm (by rw [I.ok.blt];exact h1.keeps I.bk) ((h2 x hn).trans hv) h) hd
theorem pe_bltn {x:Str}{v:V}{u:Value}{pos:Pos} (hg:Gl X x) (hm:X.mg x=none) (hv:bootBuiltins x=some u) (r:RelV v u) (hn:x≠"__name__":=by decide) (hd:(x ==("__debug__":Str))=false:=by decide):PE X (.Name x pos) (tC v) :=
 fun _ _ _ H _ I h=>zn7 I hg hm hv ⟨v,H,I,r,h⟩ hn hd
variable {a b:Expr}{ta tb:TE}{pos:Pos}
variable {tA tB':TT}{rest:List Expr}
noncomputable def tAnd (t u:TT):TT:=fun σ H Q=>t σ H fun c H1=>if c=true then u σ H1 Q else Q false H1
noncomputable def tOr (t u:TT):TT:=fun σ H Q=>t σ H fun c H1=>if c=true then Q true H1 else u σ H1 Q
noncomputable def tNot (t:TT):TT:=fun σ H Q=>t σ H fun c H1=>Q (!c) H1
theorem pw_and1 (ha:PT X a tA):PW X (.BoolOp .And [a] pos) tA:=by
 intro wh pins s σ H Q I h
 refine isTrue_and (thn (ha pins s σ H Q I h) fun c s1 e=>?_)
 cases c with
 |true=>exact isTrue_and_nil e
 |false=>exact e
theorem pw_or1 (ha:PT X a tA):PW X (.BoolOp .Or [a] pos) tA:=by
 intro wh pins s σ H Q I h
 refine isTrue_or (thn (ha pins s σ H Q I h) fun c s1 e=>?_)
 cases c with
 |false=>exact isTrue_or_nil e
 |true=>exact e
theorem pw_and (ha:PT X a tA) (hb:PW X (.BoolOp .And (b::rest) pos) tB'):PW X (.BoolOp .And (a::b::rest) pos) (tAnd tA tB'):=by
 intro wh pins s σ H Q I h
 refine isTrue_and (thn (ha pins s σ H _ I h) fun c s1 ⟨H1,I1,q1⟩=>?_)
 cases c with
 |true=>exact hb wh pins s1 σ H1 Q I1 q1
 |false=>exact⟨H1,I1,q1⟩
theorem pw_or (ha:PT X a tA) (hb:PW X (.BoolOp .Or (b::rest) pos) tB'):PW X (.BoolOp .Or (a::b::rest) pos) (tOr tA tB'):=by
 intro wh pins s σ H Q I h
 refine isTrue_or (thn (ha pins s σ H _ I h) fun c s1 ⟨H1,I1,q1⟩=>?_)
 cases c with
 |true=>exact⟨H1,I1,q1⟩
 |false=>exact hb wh pins s1 σ H1 Q I1 q1
theorem pt_not (ha:PT X a tA):PT X (.UnaryOp .Not a pos) (tNot tA):=by
 intro pins s σ H Q I h
 exact isTrue_not (ha pins s σ H (fun c H1=>Q (!c) H1) I h)
noncomputable def tOrV (ta tb:TE):TE:=fun σ H Q=>ta σ H fun x H1 => ∃c,x=.bl c∧if c=true then Q (.bl true) H1 else tb σ H1 Q
theorem pe_one {op}{t:TE} (h:PE X a t):PE X (.BoolOp op [a] pos) t:=fun pins s σ H Q I hw=>BoolOp_one (h pins s σ H Q I hw)
theorem pe_or (ha:PE X a ta) (hb:PE X (.BoolOp .Or (b::rest) pos) tb):PE X (.BoolOp .Or (a::b::rest) pos) (tOrV ta tb):=by
 intro pins s σ H Q I h
 refine BoolOp_or (thn (ha pins s σ H _ I h) fun v s1 ⟨x,H1,I1,r1,q1⟩=>?_)
 obtain⟨c,rfl,q1⟩:=q1
 cases r1
 refine wpAny_truthy_bool ?_
 cases c with
 |false=>exact hb pins s1 σ H1 Q I1 q1
 |true=>exact⟨.bl true,H1,I1,rfl,q1⟩
end
end L2
namespace L2
open PySem.Spec
noncomputable def SqL (K:zbj6) (H:Hp) (a:Addr) (xs:List V):Prop :=
 Rd H a (.lst xs) ∨
  ∃(o:Obj) (its:Array Value) (n:Nat),K.lookup a=some o∧o.cls=.type "list"∧o.dict=none∧o.data=.seq its n∧its.size≤sizeLine∧Vals xs its.toList
noncomputable def SqT (K:zbj6) (H:Hp) (a:Addr) (xs:List V):Prop :=
 Rd H a (.tup xs) ∨
  ∃(o:Obj) (its:Array Value) (n:Nat),K.lookup a=some o∧o.cls=.type "tuple"∧o.data=.seq its n∧its.size≤sizeLine∧Vals xs its.toList
noncomputable def absV:Value→Option V
 |.none=>some .non
 |.bool b=>some (.bl b)
 |.int i _=>some (.int i)
 |.str x _=>some (.str x)
 |.bytes b _=>some (.byt b)
 |.float b _=>some (.flt b)
 |.ref a=>some (.ref a)
 |.type n=>some (.ty n)
 |_=>none
theorem RelV.abs {x:V}{u:Value} (r:RelV x u):absV u=some x:=by
 cases x with
 |non=>cases r;rfl
 |bl _=>cases r;rfl
 |int _=>obtain⟨t,rfl⟩:=r;rfl
 |str _=>obtain⟨t,rfl⟩:=r;rfl
 |byt _=>obtain⟨t,rfl⟩:=r;rfl
 |flt _=>obtain⟨t,rfl⟩:=r;rfl
 |ref _=>cases r;rfl
 |ty _=>cases r;rfl
theorem RelV.inj {x y:V}{u:Value} (r:RelV x u) (q:RelV y u):x=y:=Option.some.inj (r.abs.symm.trans q.abs)
theorem Vals.inj:∀ {xs ys:List V}{us:List Value},Vals xs us→Vals ys us→xs=ys
 |_,_,_,.nil,.nil=>rfl
 |_,_,_,.cons r t,.cons r' t'=>by rw [r.inj r',Vals.inj t t']
section
variable {X:Cx}{pins:List (Addr×Obj)}{σ:St}{H:Hp}{s:zbk8}{a:Addr}{xs ys:List V}
theorem SqL.of {K:zbj6} (h:H a=some (.lst xs)):SqL K H a xs:=.inl (.inl h)
theorem SqT.of {K:zbj6} (h:H a=some (.tup xs)):SqT K H a xs:=.inl (.inl h)
theorem Inv.list (I:Inv X pins σ H s) (h:SqL X.K H a xs):∃its:List Value,Vals xs its∧PlainL s.heap a its.toArray∧xs.length≤sizeLine:=by
 rcases h with h | ⟨o,its,n,hk,hc,hd,hs,hz,r⟩
 ·obtain⟨z,its,n,r,e⟩:=h.ok I.hok
  exact⟨its,r,⟨_,n,e,rfl,rfl,rfl⟩,z⟩
 ·refine⟨its.toList,r,⟨o,n,I.kIn a o hk,hc,hd,by simpa using hs⟩,?_⟩
  have e:=r.length
  simp only [zbt0]at e
  lia
theorem Inv.tuple (I:Inv X pins σ H s) (h:SqT X.K H a xs):∃its:List Value,Vals xs its∧IsTup s.heap a its.toArray∧xs.length≤sizeLine:=by
 rcases h with h | ⟨o,its,n,hk,hc,hs,hz,r⟩
 ·obtain⟨z,its,r,p⟩:=h.ok I.hok
  exact⟨its,r,p,z⟩
 ·refine⟨its.toList,r,⟨o,I.kIn a o hk,hc,n,by simpa using hs⟩,?_⟩
  have e:=r.length
  simp only [zbt0]at e
  lia
theorem Inv.list_inj (I:Inv X pins σ H s) (h:SqL X.K H a xs) (h':SqL X.K H a ys):xs=ys:=by
 obtain⟨its,r,⟨o,n,e,_,_,d⟩,_⟩:=I.list h
 obtain⟨its',r',⟨o',n',e',_,_,d'⟩,_⟩:=I.list h'
 rw [e]at e';cases e'
 rw [d]at d'
 injection d' with d1 _
 have:its=its':=by simpa using congrArg Array.toList d1
 subst this
 exact r.inj r'
theorem Inv.tuple_inj (I:Inv X pins σ H s) (h:SqT X.K H a xs) (h':SqT X.K H a ys):xs=ys:=by
 obtain⟨its,r,⟨o,e,_,n,d⟩,_⟩:=I.tuple h
 obtain⟨its',r',⟨o',e',_,n',d'⟩,_⟩:=I.tuple h'
 rw [e]at e';cases e'
 rw [d]at d'
 injection d' with d1 _
 have:its=its':=by simpa using congrArg Array.toList d1
 subst this
 exact r.inj r'
end
noncomputable abbrev Cx.wish (X:Cx) (E:Value→zbk8→Prop):Cx:={ X with xe:=E }
noncomputable abbrev Cx.nox (X:Cx):Cx:=X.wish fun _ _=>False
theorem Cx.Ok.wish {X:Cx} (ok:X.Ok) (E:Value→zbk8→Prop):(X.wish E).Ok :=
 ⟨ok.mod,ok.kind,ok.glob,ok.blt,ok.above,ok.inj,ok.has,ok.cab,ok.hd,ok.frames,ok.stk,ok.exf,ok.bs,ok.bsz,ok.noex,ok.exfs,ok.funs,ok.frf,ok.tabs⟩
theorem Cx.Ok.unwish {X:Cx}{E:Value→zbk8→Prop} (ok:(X.wish E).Ok):X.Ok :=
 ⟨ok.mod,ok.kind,ok.glob,ok.blt,ok.above,ok.inj,ok.has,ok.cab,ok.hd,ok.frames,ok.stk,ok.exf,ok.bs,ok.bsz,ok.noex,ok.exfs,ok.funs,ok.frf,ok.tabs⟩
section
variable {X:Cx}{pins:List (Addr×Obj)}{σ:St}{H:Hp}{s:zbk8}{E:Value→zbk8→Prop}
theorem Inv.wish (I:Inv X pins σ H s) (E:Value→zbk8→Prop):Inv (X.wish E) pins σ H s:=⟨I.ok.wish E,I.os,I.bare,I.base,I.loc,I.cell,I.free,I.freeC,I.pin,I.hok,I.len⟩
theorem Inv.unwish (I:Inv (X.wish E) pins σ H s):Inv X pins σ H s:=⟨I.ok.unwish,I.os,I.bare,I.base,I.loc,I.cell,I.free,I.freeC,I.pin,I.hok,I.len⟩
theorem SP.unwish {D:Ends}{f:Flow}{s':zbk8} (h:SP (X.wish E) pins D f s'):SP X pins D f s':=by
 cases f with
 |next=>obtain⟨σ',H',I,q⟩:=h;exact⟨σ',H',I.unwish,q⟩
 |brk=>obtain⟨σ',H',I,q⟩:=h;exact⟨σ',H',I.unwish,q⟩
 |cont=>obtain⟨σ',H',I,q⟩:=h;exact⟨σ',H',I.unwish,q⟩
 |ret u=>obtain⟨v,σ',H',I,r,q⟩:=h;exact⟨v,σ',H',I.unwish,r,q⟩
theorem PSs.nox {st:List Stmt}{t:TS} (h:PSs X.nox st t):PSs X st t:=fun pins s σ H D I hw =>
 wpAny_mono (h pins s σ H D (I.wish _) hw) (fun _ _ q=>q.unwish) fun _ _ z=>False.elim z
end
section
variable {X:Cx}{st:Stmt}{rest:List Stmt}{t u:TS}{e:Expr}{te:TE}{pos:Pos}
noncomputable def tNext:TS:=fun D σ H=>D.nx σ H
noncomputable def tSeq (t u:TS):TS:=fun D σ H=>t { D with nx:=u D } σ H
theorem zam0:PSs X [] tNext:=fun _ _ σ H _ I h=>wpAny_execs_nil ⟨σ,H,I,h⟩
theorem zp7 (h1:PS X st t) (h2:PSs X rest u):PSs X (st::rest) (tSeq t u):=by
 intro pins s σ H D I h
 refine wpAny_execs_cons (thn (h1 pins s σ H { D with nx:=u D } I h) fun f s1 q=>?_)
 cases f with
 |next =>
  obtain⟨σ',H',I',q⟩:=q
  exact h2 pins s1 σ' H' D I' q
 |ret v=>exact q
 |brk=>exact q
 |cont=>exact q
theorem zad4 (h1:PS X st t):PSs X [st] t:=by
 intro pins s σ H D I h
 refine wpAny_execs_cons (thn (h1 pins s σ H D I h) fun f s1 q=>?_)
 cases f with
 |next=>exact wpAny_execs_nil q
 |ret v=>exact q
 |brk=>exact q
 |cont=>exact q
theorem Inv.quiet {pins:List (Addr×Obj)}{σ:St}{H:Hp}{s:zbk8} (I:Inv X pins σ H s):interactive X.env=false:=by simp [interactive,I.ok.kind]
noncomputable def tDrop (te:TE):TS:=fun D σ H=>te σ H fun _ H1=>D.nx σ H1
theorem zad7 (he:PE X e te) (hs:swapsWith e none pos.line X.env=pure false:=by rfl):PS X (.Expr e pos) (tDrop te):=by
 intro pins s σ H D I h
 exact wpAny_Expr_any (thn (he pins s σ H _ I h) fun v s1 ⟨x,H1,I1,r1,q1⟩=>⟨σ,H1,I1,q1⟩) I.quiet hs
noncomputable def tRet (te:TE):TS:=fun D σ H=>te σ H D.rt
theorem ps_ret (he:PE X e te):PS X (.Return (some e) pos) (tRet te):=by
 intro pins s σ H D I h
 exact wpAny_Return_some (thn (he pins s σ H _ I h) fun v s1 ⟨x,H1,I1,r1,q1⟩=>⟨x,σ,H1,I1,r1,q1⟩)
noncomputable def tIfS (c:TT) (t u:TS):TS:=fun D σ H=>c σ H fun b H1=>if b=true then t D σ H1 else u D σ H1
theorem ps_if {c:Expr}{a b:List Stmt}{tc:TT} (hc:PT X c tc) (ha:PSs X a t) (hb:PSs X b u):PS X (.If c a b pos) (tIfS tc t u):=by
 intro pins s σ H D I h
 refine wpAny_If (thn (hc pins s σ H _ I h) fun d s1 ⟨H1,I1,q1⟩=>?_)
 cases d with
 |true=>exact ha pins s1 σ H1 D I1 q1
 |false=>exact hb pins s1 σ H1 D I1 q1
end
noncomputable abbrev TG:=V→St→Hp→(St→Hp→Prop)→Prop
noncomputable abbrev TGs:=List V→St→Hp→(St→Hp→Prop)→Prop
noncomputable def PG (X:Cx) (target:Expr) (t:TG):Prop :=
 ∀(pins:List (Addr×Obj)) (s:zbk8) (σ:St) (H:Hp) (v:V) (u:Value) (Q:St→Hp→Prop),Inv X pins σ H s→RelV v u→t v σ H Q →
  wpAny (model X.prog X.w) X.A (assign target X.env u) (fun _ s' => ∃σ' H',Inv X pins σ' H' s'∧Q σ' H') X.xe s
noncomputable def PGs (X:Cx) (ts:List Expr) (t:TGs):Prop :=
 ∀(pins:List (Addr×Obj)) (s:zbk8) (σ:St) (H:Hp) (vs:List V) (us:List Value) (Q:St→Hp→Prop),Inv X pins σ H s→Vals vs us→t vs σ H Q →
  wpAny (model X.prog X.w) X.A (assignInOrder ((assignEach ts X.env).map (·.2)) us) (fun _ s' => ∃σ' H',Inv X pins σ' H' s'∧Q σ' H') X.xe s
noncomputable abbrev TSet:=V→V→V→Hp→(Hp→Prop)→Prop
noncomputable def PSet (X:Cx) (t:TSet):Prop :=
 ∀(pins:List (Addr×Obj)) (s:zbk8) (σ:St) (H:Hp) (o i v:V) (ov iv u:Value) (Q:Hp→Prop),Inv X pins σ H s→RelV o ov→RelV i iv→RelV v u→t o i v H Q →
  wpAny (model X.prog X.w) X.A (setItem ov iv u) (fun _ s' => ∃H',Inv X pins σ H' s'∧Q H') X.xe s
section
variable {X:Cx}{pos:Pos}
noncomputable def zbe8 (i:Nat):TG:=fun v σ H Q=>Q (σ.set i (some v)) H
theorem zb7 {i:Nat}{x:Str} (hN:X.N.Nodup) (hi:X.N[i]?=some x) (hx:Loc X.env.scope x) (hf:X.fn x=true∨X.env.scope.names.lookup x=some .local:=by first | exact .inl rfl | exact .inr rfl | assumption):PG X (.Name x pos) (zbe8 i):=by
 intro pins s σ H v u Q I r h
 exact wpAny_assign_Name (zaq2 I hN hi hx r (fun s' I'=>⟨_,H,I',h⟩) hf)
noncomputable def gNil:TGs:=fun vs σ H Q=>vs=[]∧Q σ H
noncomputable def gCons (t:TG) (u:TGs):TGs:=fun vs σ H Q => ∃v r,vs=v::r∧t v σ H fun σ' H'=>u r σ' H' Q
theorem zh8:PGs X [] gNil:=by
 intro pins s σ H vs us Q I r h
 obtain⟨e,h⟩:=h
 subst e
 cases r
 exact assignInOrder_nil ⟨σ,H,I,h⟩
theorem zc6 {e:Expr}{es:List Expr}{t:TG}{u:TGs} (h1:PG X e t) (h2:PGs X es u)
  (hs:(assignEach (e::es) X.env).map (·.2)=assign e X.env ::(assignEach es X.env).map (·.2):=by rfl):PGs X (e::es) (gCons t u):=by
 intro pins s σ H vs us Q I r h
 obtain⟨v,vr,e1,h⟩:=h
 subst e1
 cases r with
 |cons r rr =>
  rw [hs]
  refine assignInOrder_cons (thn (h1 pins s σ H _ _ _ I r h) fun _ s1 ⟨σ1,H1,I1,q1⟩=>?_)
  exact h2 pins s1 σ1 H1 _ _ Q I1 rr q1
noncomputable def gTup (K:zbj6) (n:Nat) (t:TGs):TG:=fun v σ H Q => ∃a xs,v=.ref a∧SqT K H a xs∧xs.length=n∧t xs σ H Q
theorem zl9 {es:List Expr}{k:Nat}{t:TGs}{n:Nat} (hc:X.calm=true) (h:PGs X es t)
  (hn:(assignEach es X.env).length=n:=by rfl) (hst:(assignEach es X.env).findIdx? (·.1)=none:=by rfl):PG X (.Tuple es k pos) (gTup X.K n t):=by
 intro pins s σ H v u Q I r hw
 obtain⟨a,xs,e1,hq,hl,hw⟩:=hw
 subst e1
 cases r
 obtain⟨its,rv,ht,hz⟩:=I.tuple hq
 refine assign_Tuple_tuple (I.ok.hd hc) ht (by simp [hn, ← hl,rv.length]) hst fun h' hx=>?_
 have I1:Inv X pins σ H { s with heap:=h' }:=I.kept (t':=s.toks) fun b o e=>hx b o (zbn1 (zbl0 e)) e
 exact h pins _ σ H xs _ Q I1 (by simpa using rv) hw
noncomputable def gSub (to ti:TE) (t:TSet):TG:=fun v σ H Q=>to σ H fun o H1=>ti σ H1 fun i H2=>t o i v H2 fun H3=>Q σ H3
theorem pg_sub {o i:Expr}{to ti:TE}{t:TSet} (ho:PE X o to) (hi:PE X i ti) (hs:PSet X t)
  (ha:∀v,assign (.Subscript o i pos) X.env v=(do
   let ov ← holding [v] (eval o X.env)
   let iv ← holding [v,ov] (eval i X.env)
   standAt pos
   holding [v,ov,iv] (setItem ov iv v)
   release [v,ov,iv] []):=by intro _;rfl):PG X (.Subscript o i pos) (gSub to ti t):=by
 intro pins s σ H v u Q I r h
 rw [ha]
 refine zbj8 (wpAny_holding (thn (ho pins s σ H _ I h) fun ov s1 ⟨x,H1,I1,r1,q1⟩=>?_))
 refine zbj8 (wpAny_holding (thn (hi pins s1 σ H1 _ I1 q1) fun iv s2 ⟨y,H2,I2,r2,q2⟩=>?_))
 refine zbj8 (wpAny_standAt (zbj8 (wpAny_holding (thn (hs pins s2 σ H2 x y v ov iv u _ I2 r1 r2 r q2) fun _ s3 ⟨H3,I3,q3⟩=>?_))))
 exact wpAny_release ⟨σ,H3,I3,q3⟩
noncomputable def tAsg (te:TE) (g:TG):TS:=fun D σ H=>te σ H fun x H1=>g x σ H1 D.nx
theorem zba7 {tg e:Expr}{te:TE}{g:TG} (he:PE X e te) (hg:PG X tg g) (hs:swapsWithSole [tg] e pos.line X.env=pure false:=by rfl) (hw:swappedStores [tg] e X.env=pure none:=by rfl)
  (h1:(assignEach [tg] X.env).map (·.2)=[assign tg X.env]:=by rfl):PS X (.Assign [tg] e pos) (tAsg te g):=by
 intro pins s σ H D I h
 refine wpAny_Assign_stores (thn (he pins s σ H _ I h) fun v s1 ⟨x,H1,I1,r1,q1⟩=>?_) hs hw
 rw [h1]
 exact thn (hg pins s1 σ H1 x v _ I1 r1 q1) fun _ s2 q=>q
theorem zah1 {i:Nat}{x:Str}{e:Expr}{te:TE}{pos':Pos} (hN:X.N.Nodup) (hi:X.N[i]?=some x) (hx:Loc X.env.scope x) (he:PE X e te) (hs:swapsWith e (some (.Name x pos')) pos.line X.env=pure false:=by rfl) (hf:X.fn x=true∨X.env.scope.names.lookup x=some .local:=by first | exact .inl rfl | exact .inr rfl | assumption) :
  PS X (.Assign [.Name x pos'] e pos) (tAsg te (zbe8 i)):=by
 intro pins s σ H D I h
 refine wpAny_Assign_Name (thn (he pins s σ H _ I h) fun v s1 ⟨y,H1,I1,r1,q1⟩=>?_) hs
 exact zaq2 I1 hN hi hx r1 (fun s2 I2=>⟨_,H1,I2,q1⟩) hf
end
structure It where
 go:Nat→Hp→Prop
 yld:Nat→Hp→V→Hp→Prop
 stop:Nat→Hp→Prop
noncomputable def FpOk (X:Cx) (pins:List (Addr×Obj)) (H:Hp) (b:Addr):Prop :=
 H b=none∧b≠X.env.locals∧b∉X.fs∧(b∈X.ex∨X.s₀.heap.objs.size≤b)∧(∀x c,X.env.cells.lookup x=some c→c≠b)∧∀p∈X.pn++pins,p.1≠b
theorem Inv.fpOk {X:Cx}{pins:List (Addr×Obj)}{σ:St}{H H':Hp}{s:zbk8}{b:Addr} (I:Inv X pins σ H s) (hb:s.heap.objs.size≤b) (hn:H' b=none):FpOk X pins H' b:=by
 refine⟨hn,zbu0 (zbm4 I.lt hb),I.nofs hb,.inr (zbq4 I.sz hb),fun x c e z=>?_,fun p hp z=>?_⟩
 ·obtain⟨v,q⟩:=I.cell x c e
  exact absurd (zbm4 q.lt (by rw [z];exact hb)) (zbr0 _)
 ·exact absurd (zbm4 (zbl0 (I.pin p hp).1) (by rw [z];exact hb)) (zbr0 _)
structure Turn (P:Program) (w:World) (K:zbj6) (tg:Expr) (J:It) (fp:List Addr) (it:Addr) (tn:Nat→Heap→Prop):Prop where
 mem:it∈fp
 obj:∀i h,tn i h→∀b∈fp,∃o,h.get? b=some o∧∀v,o.data≠.cell v
 keep:∀i h h',tn i h→(∀b∈fp,∀o,h.get? b=some o→h'.get? b=some o)→tn i h'
 item:∀(X:Cx),X.prog=P→X.w=w→X.K=K→X.calm=true→∀(i:Nat) (pins:List (Addr×Obj)) (s:zbk8) (σ:St) (H:Hp) (E:Value→zbk8→Prop),Inv X pins σ H s→(∀b∈fp,FpOk X pins H b)→tn i s.heap→J.go i H →
  wpAny (model P w) X.A (pyNext (.ref it)) (fun r s1 => ∃u,r=some u ∧
   wpAny (model P w) X.A (letOwnedTupleGo tg (.ref it) u) (fun _ s2 => ∃x H',Inv X pins σ H' s2∧RelV x u∧J.yld i H x H'∧tn (i+1) s2.heap∧∀b∈fp,H' b=none) E s1) E s
 done:∀(X:Cx),X.prog=P→X.w=w→X.K=K→X.calm=true→∀(i:Nat) (pins:List (Addr×Obj)) (s:zbk8) (σ:St) (H:Hp) (E:Value→zbk8→Prop),Inv X pins σ H s→(∀b∈fp,FpOk X pins H b)→tn i s.heap→J.stop i H →
  wpAny (model P w) X.A (pyNext (.ref it)) (fun r s1=>r=none∧Inv X pins σ H s1) E s
 self:∀(A:Around) (i:Nat) (s:zbk8) (Q:Value→zbk8→Prop) (E:Value→zbk8→Prop),tn i s.heap→Q (.ref it) s→wpAny (model P w) A (pyIter (.ref it)) Q E s
noncomputable abbrev TI:=St→Hp→(It→Hp→Prop)→Prop
noncomputable def PIE (X:Cx) (pins:List (Addr×Obj)) (σ:St) (tg:Expr) (R:It→Hp→Prop) (itv:Value) (s2:zbk8):Prop :=
 ∃(it:Addr) (fp:List Addr) (tn:Nat→Heap→Prop) (J:It) (H':Hp),itv=.ref it∧Inv X pins σ H' s2∧Turn X.prog X.w X.K tg J fp it tn∧tn 0 s2.heap∧(∀b∈fp,FpOk X pins H' b)∧R J H'
noncomputable def PI (X:Cx) (tg iter:Expr) (wi:TI):Prop :=
 ∀(pins:List (Addr×Obj)) (s:zbk8) (σ:St) (H:Hp) (R:It→Hp→Prop),Inv X pins σ H s→wi σ H R →
  wpAny (model X.prog X.w) X.A (eval iter X.env) (fun v s1=>wpAny (model X.prog X.w) X.A (pyIter v) (PIE X pins σ tg R) X.xe s1) X.xe s
theorem go_of {M:Model}{A:Around}{E:Value→zbk8→Prop}{s:zbk8}{tg:Expr}{it:Addr}{u:Value}{o:Obj}{n:String}{vs:Array Value}{Q:Unit→zbk8→Prop} (ho:s.heap.get? it=some o) (hc:o.cls=.type n) (hd:o.data=.fields vs)
  (hn:["enumerate", "zip", "dict_itemiterator", "dict_reverseitemiterator", "odict_iterator", "itertools.zip_longest", "itertools.pairwise"].contains n=false) (hQ:Q () s):wpAny M A (letOwnedTupleGo tg (.ref it) u) Q E s:=by
 unfold letOwnedTupleGo
 cases tg<;>first
  |exact zbk6 hQ
  |(cases u<;>first
    |exact zbk6 hQ
    |(refine zbj8 (wpAny_load ho ?_)
      rw [hc,hd]
      show wpAny M A (if (["enumerate", "zip", "dict_itemiterator", "dict_reverseitemiterator", "odict_iterator", "itertools.zip_longest", "itertools.pairwise"].contains n&&vs[0]? == some (rawInt _))=true then _ else _) Q E s
      rw [if_neg (by intro h;rw [hn,zby2]at h;cases h)]
      exact zbk6 hQ))
noncomputable def Itl (K:zbj6) (a:Addr):It :=
 ⟨fun i H => ∃xs x,SqL K H a xs∧xs[i]?=some x,fun i H x H'=>H'=H∧∀xs,SqL K H a xs→xs[i]?=some x,fun i H => ∃xs,SqL K H a xs∧xs.length≤i⟩
noncomputable def Itr (lo:Int) (n:Nat):It:=⟨fun i _=>i<n,fun i H x H'=>H'=H∧x=.int (lo+i),fun i _=>n≤i⟩
theorem zay3 {P:Program}{w:World}{K:zbj6}{tg:Expr} (a it:Addr):Turn P w K tg (Itl K a) [it] it (fun i h=>h.IsListIter it a i) where
 mem:=by simp
 obj:=fun i h st b hb=>by
  have e:b=it:=by simpa using hb
  subst e
  obtain⟨o,e,c,d⟩:=st
  exact⟨o,e,fun v z=>by rw [d]at z;cases z⟩
 keep:=fun i h h' st k=>st.at fun o e=>k it (by simp) o e
 item:=by
  intro X hP hw hK hc i pins s σ H E I hf st hg
  subst hP hw hK
  obtain⟨xs,x,hq,hx⟩:=hg
  obtain⟨its,rv,p,hz⟩:=I.list hq
  obtain⟨u,hu,ru⟩:=rv.get hx
  obtain⟨f0,f1,f2,f3,f4,f5⟩:=hf it (by simp)
  refine wpAny_pyNext_list_item st p.isList (x:=u) (by simpa using hu) fun h' st' sb=>?_
  have I1:Inv X pins σ H { s with heap:=h' }:=I.turned (t':=s.toks) (fun b o hb e=>(sb.2 b hb).trans e) f0 f1 f3 f4 f5
  obtain⟨o,e,c,d⟩:=id st'
  exact⟨u,rfl,go_of (s:={ s with heap:=h' }) e c d (by decide) ⟨x,H,I1,ru,⟨rfl,fun ys hy=>by rw [I.list_inj hy hq];exact hx⟩,st',fun b hb=>(hf b hb).1⟩⟩
 done:=by
  intro X hP hw hK hc i pins s σ H E I hf st hg
  subst hP hw hK
  obtain⟨xs,hq,hx⟩:=hg
  obtain⟨its,rv,p,hz⟩:=I.list hq
  obtain⟨f0,f1,f2,f3,f4,f5⟩:=hf it (by simp)
  have hl:=rv.length
  exact wpAny_pyNext_list_end (I.ok.hd hc) st p.isList (by simp;lia) fun h' eb=>⟨rfl,I.turned (t':=s.toks) (fun b o hb e=>eb b o hb e) f0 f1 f3 f4 f5⟩
 self:=fun _ _ _ _ _ st h=>wpAny_pyIter_listiter st h
theorem zau3 {P:Program}{w:World}{K:zbj6}{tg:Expr} (it:Addr) (lo:Int) (n:Nat):Turn P w K tg (Itr lo n) [it] it (fun i h=>IsRangeIter h it (lo+(i:Nat)*1) ((n:Int) - (i:Nat)) 1) where
 mem:=by simp
 obj:=fun i h st b hb=>by
  have e:b=it:=by simpa using hb
  subst e
  exact⟨_,st,fun v z=>by
   have z':Data.fields _=Data.cell v:=z
   cases z'⟩
 keep:=fun i h h' st k=>k it (by simp) _ st
 item:=by
  intro X hP hw hK hc i pins s σ H E I hf st hg
  subst hP hw hK
  obtain⟨f0,f1,f2,f3,f4,f5⟩:=hf it (by simp)
  have W:=Walks.range (prog:=X.prog) (w:=X.w) (I.ok.hd hc) it lo 1 n
  refine W.item i s _ _ hg st fun v h' tk hv st' kk=>?_
  obtain⟨t,rfl⟩:=hv
  have I1:Inv X pins σ H { s with heap:=h',toks:=tk }:=I.turned (fun b o hb e=>kk b o (by simpa using hb) e) f0 f1 f3 f4 f5
  refine⟨_,rfl,go_of (s:={ s with heap:=h',toks:=tk }) (n := "range_iterator") st' rfl rfl (by decide) ⟨.int (lo+i),H,I1,⟨t,?_⟩,⟨rfl,rfl⟩,st',fun b hb=>(hf b hb).1⟩⟩
  rw [Int.mul_one]
 done:=by
  intro X hP hw hK hc i pins s σ H E I hf st hg
  subst hP hw hK
  obtain⟨f0,f1,f2,f3,f4,f5⟩:=hf it (by simp)
  exact wpAny_pyNext_range_end (I.ok.hd hc) st (by have:n≤i:=hg;lia) fun h' eb=>⟨rfl,I.turned (t':=s.toks) (fun b o hb e=>eb b o hb e) f0 f1 f3 f4 f5⟩
 self:=fun _ _ _ _ _ st h=>wpAny_pyIter_rangeiter st h
end L2
namespace L2
open PySem.Spec
section
variable {X:Cx}{tg:Expr}
noncomputable def iList (K:zbj6) (tl:TE):TI:=fun σ H R=>tl σ H fun x H1 => ∃a,x=.ref a∧(∃xs,SqL K H1 a xs)∧R (Itl K a) H1
theorem zbb6 {l:Expr}{tl:TE} (hl:PE X l tl):PI X tg l (iList X.K tl):=by
 intro pins s σ H R I h
 refine thn (hl pins s σ H _ I h) fun v s1 ⟨x,H1,I1,r1,q1⟩=>?_
 obtain⟨a,e,⟨xs,hq⟩,q⟩:=q1
 subst e
 cases r1
 obtain⟨its,rv,p,hz⟩:=I1.list hq
 refine wpAny_pyIter_list p.isList ?_
 refine⟨s1.heap.objs.size,[s1.heap.objs.size],_,_,H1,rfl,I1.kept (t':=s1.toks) fun b o e=>zbk0 _ e,zay3 a _,⟨_,zbl2 _ rfl,rfl,rfl⟩,fun b hb=>?_,q⟩
 have e:b=s1.heap.objs.size:=by simpa using hb
 subst e
 exact I1.fpOk (zbl3 _) (I1.hok.fresh (zbl3 _))
theorem zar3 {pins:List (Addr×Obj)}{σ:St}{H:Hp}{s:zbk8}{R:It→Hp→Prop}{E:Value→zbk8→Prop}{lo hi:Int}{t u v:Tok}{tk:Nat} (I:Inv X pins σ H s) (h1 : -(2 ^ 62)≤lo) (h2:lo<2 ^ 62) (h3 : -(2 ^ 62)≤hi) (h4:hi<2 ^ 62)
  (q:R (Itr lo (hi - lo).toNat) H):wpAny (model X.prog X.w) X.A (pyIter (.ref s.heap.objs.size)) (PIE X pins σ tg R) E { s with heap:=s.heap.push { cls:=.type "range",data:=.fields #[.int lo t,.int hi u,.int 1 v] },toks:=tk }:=by
 refine wpAny_pyIter_range (IsRange.new ..) (small_one h1 h2 h3 h4) ?_
 have I1:Inv X pins σ H { s with heap:=s.heap.push { cls:=.type "range",data:=.fields #[.int lo t,.int hi u,.int 1 v] },toks:=tk }:=I.kept fun b o e=>zbk0 _ e
 refine⟨(s.heap.push { cls:=.type "range",data:=.fields #[.int lo t,.int hi u,.int 1 v] }).objs.size,[(s.heap.push { cls:=.type "range",data:=.fields #[.int lo t,.int hi u,.int 1 v] }).objs.size],_,_,H,rfl,
  I1.kept (t':=tk) fun b o e=>zbk0 _ e,zau3 _ lo (hi - lo).toNat,?_,fun b hb=>?_,q⟩
 ·have e1:lo+((0:Nat):Int)*1=lo:=by simp
  have e2:(((hi - lo).toNat:Nat):Int) - ((0:Nat):Int)=Builtin.Range.rangeSize lo hi 1:=by rw [rangeSize_one];split<;>lia
  show IsRangeIter _ _ (lo+((0:Nat):Int)*1) ((((hi - lo).toNat:Nat):Int) - ((0:Nat):Int)) 1
  rw [e1,e2]
  exact zbl2 _ rfl
 ·have e:b=(s.heap.push { cls:=.type "range",data:=.fields #[.int lo t,.int hi u,.int 1 v] }).objs.size:=by simpa using hb
  subst e
  exact I1.fpOk (zbl3 _) (I1.hok.fresh (zbl3 _))
noncomputable def iRng1 (ta:TA):TI:=fun σ H R=>ta σ H fun vs H1 => ∃j:Int,vs=[.int j] ∧ -(2 ^ 62)≤j∧j<2 ^ 62∧R (Itr 0 j.toNat) H1
noncomputable def iRng2 (ta:TA):TI:=fun σ H R=>ta σ H fun vs H1 => ∃i j:Int,vs=[.int i,.int j]∧(-(2 ^ 62)≤i∧i<2 ^ 62 ∧ -(2 ^ 62)≤j∧j<2 ^ 62)∧R (Itr i (j - i).toNat) H1
theorem zah4 {a:Expr}{ta:TA}{p pos:Pos} (hg:Gl X "range") (hm:X.mg "range"=none) (ha:PA X [a] ta) (hs:zbm0 [a] X.env=[(false,eval a X.env)]:=by rfl):PI X tg (.Call (.Name "range" p) [a] [] pos) (iRng1 ta):=by
 intro pins s σ H R I h
 refine Call_ (zn7 I hg hm boot_range (PyProof.Rows.callWith_type1 (thn (ha pos pins s σ H _ I h) fun us s1 ⟨vs,H1,I1,r1,q1⟩=>?_) hs rfl))
 obtain⟨j,e,q1,q2,q⟩:=q1
 subst e
 cases r1 with
 |cons r rr =>
  cases rr
  obtain⟨t,rfl⟩:=r
  exact call_range_1 (zar3 I1 (by lia) (by lia) q1 q2 (by simpa using q))
theorem zbb5 {a b:Expr}{ta:TA}{p pos:Pos} (hg:Gl X "range") (hm:X.mg "range"=none) (ha:PA X [a,b] ta) (hs:zbm0 [a,b] X.env=[(false,eval a X.env),(false,eval b X.env)]:=by rfl) (hs2:zbm0 [b] X.env=[(false,eval b X.env)]:=by rfl) :
  PI X tg (.Call (.Name "range" p) [a,b] [] pos) (iRng2 ta):=by
 intro pins s σ H R I h
 refine Call_ (zn7 I hg hm boot_range (PyProof.Rows.callWith_type1 (thn (ha pos pins s σ H _ I h) fun us s1 ⟨vs,H1,I1,r1,q1⟩=>?_) (by rw [hs,hs2]) (by rw [hs2];rfl)))
 obtain⟨i,j,e,⟨q1,q2,q3,q4⟩,q⟩:=q1
 subst e
 cases r1 with
 |cons r rr =>
  cases rr with
  |cons r' rr =>
   cases rr
   obtain⟨t,rfl⟩:=r
   obtain⟨t',rfl⟩:=r'
   exact call_range_2 (zar3 I1 q1 q2 q3 q4 q)
noncomputable def tFor (wi:TI) (g:TG) (tb:TS):TS:=fun D σ H=>wi σ H fun J H1 => ∃W:Nat→Nat→St→Hp→Prop,(∃m,W 0 m σ H1)∧∀i m σ H,W i m σ H →
 (J.stop i H∧D.nx σ H)∨(J.go i H∧∃N:St→Hp→Prop,(∀σ' H',N σ' H'→∃m',m' < m∧W (i+1) m' σ' H')∧∀x H',J.yld i H x H'→g x σ H' fun σ2 H2=>tb { D with nx:=N,ct:=N,bk:=D.nx } σ2 H2)
noncomputable def zv5 (fp:List Addr) (h:Heap):List (Addr×Obj):=fp.filterMap fun b=>(h.get? b).map fun o=>(b,o)
theorem zj5 {fp:List Addr}{h:Heap}{b:Addr}{o:Obj} (hb:b∈fp) (e:h.get? b=some o):(b,o)∈zv5 fp h:=zbx9.mpr ⟨b,hb,by rw [e];rfl⟩
theorem zbc3 {fp:List Addr}{h:Heap}{p:Addr×Obj} (hp:p∈zv5 fp h):p.1∈fp∧h.get? p.1=some p.2:=by
 obtain⟨b,hb,e⟩:=zbx9.mp hp
 cases q:h.get? b with
 |none=>rw [q]at e;cases e
 |some o =>
  rw [q]at e
  have e':(b,o)=p:=Option.some.inj e
  subst e'
  exact⟨hb,q⟩
theorem Inv.pinned {pins:List (Addr×Obj)}{σ:St}{H:Hp}{s:zbk8}{fp:List Addr} (I:Inv X pins σ H s) (hf:∀b∈fp,FpOk X pins H b) (ho:∀b∈fp,∃o,s.heap.get? b=some o∧∀v,o.data≠.cell v):Inv X (pins++zv5 fp s.heap) σ H s :=
 I.pins_of fun p hp=>(zbk1.mp hp).elim (fun z=>I.pin p (zbj5 _ z)) fun z=>by
  obtain⟨hb,e⟩:=zbc3 z
  obtain⟨f0,f1,f2,_⟩:=hf p.1 hb
  obtain⟨o,e',d⟩:=ho p.1 hb
  rw [e]at e';cases e'
  exact⟨e,f0,f1,f2,d⟩
theorem Inv.unpinned {pins pl:List (Addr×Obj)}{σ:St}{H:Hp}{s:zbk8} (I:Inv X (pins++pl) σ H s):Inv X pins σ H s:=I.pins_of fun p hp=>I.pin p (zbj5 _ (zbj7 _ hp))
theorem zar4 {iter:Expr}{body:List Stmt}{wi:TI}{g:TG}{tb:TS}{pos:Pos} (hp:PassesOwn (model X.prog X.w) X.A X.env X.xe) (hc:X.calm=true) (hi:PI X tg iter wi) (hg:PG X tg g) (hb:PSs X body tb)
  (hs:∀x,foldedSetIterable iter X.env x=pure x:=by intro _;rfl):PS X (.For tg iter body [] pos) (tFor wi g tb):=by
 intro pins s σ H D I h
 refine wpAny_For (thn (hi pins s σ H _ I h) fun v s1 h1=>thn h1 fun itv s2 h2=>?_) hs
 obtain⟨it,fp,tn,J,H2,e,I2,T,st2,f2,W,⟨m0,w0⟩,turn⟩:=h2
 subst e
 -- what stays true of the iterator's objects through the loop
 have stat:∀ {H':Hp},(∀b∈fp,H' b=none)→∀b∈fp,FpOk X pins H' b:=fun hn b hb=>⟨hn b hb,(f2 b hb).2⟩
 refine codeAny_forLoop_any (fun n s' => ∃i σ' H',Inv X pins σ' H' s'∧tn i s'.heap∧(∀b∈fp,H' b=none)∧W i n σ' H') ?_ m0 ⟨0,σ,H2,I2,st2,fun b hb=>(f2 b hb).1,w0⟩
 rintro n s3 ⟨i,σ3,H3,I3,st3,fr3,w3⟩
 rcases turn i n σ3 H3 w3 with ⟨stop,qn⟩ | ⟨go,N,hN,step⟩
 ·refine wpAny_passesOwn hp (thn (T.done X rfl rfl rfl hc i pins s3 σ3 H3 X.xe I3 (stat fr3) st3 stop) fun r s4 ⟨hr,I4⟩=>?_)
  subst hr
  exact wpAny_execs_nil ⟨σ3,H3,I4,qn⟩
 ·refine wpAny_passesOwn hp (thn (T.item X rfl rfl rfl hc i pins s3 σ3 H3 X.xe I3 (stat fr3) st3 go) fun r s4 ⟨u,hr,h4⟩=>?_)
  subst hr
  refine wpAny_passesOwn hp (thn h4 fun _ s5 ⟨x,H5,I5,r5,y5,st5,fr5⟩=>?_)
  have I5':=I5.pinned (stat fr5) (T.obj _ _ st5)
  refine wpAny_passesOwn hp (thn (hg _ s5 σ3 H5 x u _ I5' r5 (step x H5 y5)) fun _ s6 ⟨σ6,H6,I6,q6⟩=>?_)
  refine wpAny_passesOwn hp (thn (hb _ s6 σ6 H6 _ I6 q6) fun f s7 q7=>?_)
  have again:∀ {σ7:St}{H7:Hp},Inv X (pins++zv5 fp s5.heap) σ7 H7 s7→N σ7 H7→∃m,m<n∧∃i σ' H',Inv X pins σ' H' s7∧tn i s7.heap∧(∀b∈fp,H' b=none)∧W i m σ' H':=fun {σ7 H7} I7 n7=>by
   obtain⟨m',hm,w7⟩:=hN σ7 H7 n7
   refine⟨m',hm,i+1,σ7,H7,I7.unpinned,T.keep _ _ _ st5 fun b hb o e=>(I7.pin (b,o) (zbj5 _ (zbj5 _ (zj5 hb e)))).1,fun b hb=>?_,w7⟩
   obtain⟨o,e,d⟩:=T.obj _ _ st5 b hb
   exact (I7.pin (b,o) (zbj5 _ (zbj5 _ (zj5 hb e)))).2.1
  cases f with
  |next=>obtain⟨σ7,H7,I7,n7⟩:=q7;exact again I7 n7
  |cont=>obtain⟨σ7,H7,I7,n7⟩:=q7;exact again I7 n7
  |brk=>obtain⟨σ7,H7,I7,q7⟩:=q7;exact⟨σ7,H7,I7.unpinned,q7⟩
  |ret v=>obtain⟨x7,σ7,H7,I7,r7,q7⟩:=q7;exact⟨x7,σ7,H7,I7.unpinned,r7,q7⟩
end
end L2
namespace L2
open PySem.Spec
noncomputable abbrev R2:=V→V→Hp→VK→Prop
noncomputable def OpR (X:Cx) (f:Value→Value→Sem Value) (r:R2):Prop :=
 ∀(pins:List (Addr×Obj)) (s:zbk8) (σ:St) (H:Hp) (x y:V) (v u:Value) (Q:VK),Inv X pins σ H s→RelV x v→RelV y u→r x y H Q →
  wpAny (model X.prog X.w) X.A (f v u) (EP X pins σ Q) X.xe s
noncomputable def UnR (X:Cx) (f:Value→Sem Value) (r:V→Hp→VK→Prop):Prop :=
 ∀(pins:List (Addr×Obj)) (s:zbk8) (σ:St) (H:Hp) (x:V) (v:Value) (Q:VK),Inv X pins σ H s→RelV x v→r x H Q →
  wpAny (model X.prog X.w) X.A (f v) (EP X pins σ Q) X.xe s
noncomputable def zq7 (X:Cx) (f:Value) (r:List V→Hp→VK→Prop):Prop :=
 ∀(pins:List (Addr×Obj)) (s:zbk8) (σ:St) (H:Hp) (xs:List V) (us:List Value) (Q:VK),Inv X pins σ H s→Vals xs us→r xs H Q →
  wpAny (model X.prog X.w) X.A (call f us) (EP X pins σ Q) X.xe s
noncomputable def TruR (X:Cx) (r:V→Hp→(Bool→Hp→Prop)→Prop):Prop :=
 ∀(pins:List (Addr×Obj)) (s:zbk8) (σ:St) (H:Hp) (x:V) (v:Value) (Q:Bool→Hp→Prop),Inv X pins σ H s→RelV x v→r x H Q →
  wpAny (model X.prog X.w) X.A (truthy v) (TP X pins σ Q) X.xe s
noncomputable def tOp (r:R2) (ta tb:TE):TE:=fun σ H Q=>ta σ H fun x H1=>tb σ H1 fun y H2=>r x y H2 Q
noncomputable def tUn (r:V→Hp→VK→Prop) (ta:TE):TE:=fun σ H Q=>ta σ H fun x H1=>r x H1 Q
noncomputable def rI (C:Int→Int→Prop) (g:Int→Int→V):R2:=fun x y H Q => ∃i j,x=.int i∧y=.int j∧C i j∧Q (g i j) H
noncomputable def rI0 (g:Int→Int→V):R2:=fun x y H Q => ∃i j,x=.int i∧y=.int j∧Q (g i j) H
noncomputable def rU (g:Int→V):V→Hp→VK→Prop:=fun x H Q => ∃i,x=.int i∧Q (g i) H
section
variable {X:Cx}{a b c:Expr}{ta tb tc:TE}{pos:Pos}
theorem binT (ha:PE X a ta) (hb:PE X b tb) {pins:List (Addr×Obj)}{s:zbk8}{σ:St}{H:Hp}{R:V→V→Hp→Prop} (I:Inv X pins σ H s)
  (h:ta σ H fun x H1=>tb σ H1 fun y H2=>R x y H2) {Q:Value→zbk8→Prop}{f:Value→Value→Sem Value}
  (hf:∀v u s2 x y H2,Inv X pins σ H2 s2→RelV x v→RelV y u→R x y H2→wpAny (model X.prog X.w) X.A (f v u) Q X.xe s2) :
  wpAny (model X.prog X.w) X.A (eval a X.env) (fun v s₁=>wpAny (model X.prog X.w) X.A (eval b X.env) (fun u s₂=>wpAny (model X.prog X.w) X.A (f v u) Q X.xe s₂) X.xe s₁) X.xe s:=by
 refine thn (ha pins s σ H _ I h) fun v s1 ⟨x,H1,I1,r1,q1⟩=>?_
 refine thn (hb pins s1 σ H1 _ I1 q1) fun u s2 ⟨y,H2,I2,r2,q2⟩=>?_
 exact hf v u s2 x y H2 I2 r1 r2 q2
theorem pe_un {op:UnaryOp}{r:V→Hp→VK→Prop} (ho:UnR X (unaryOp op) r) (ha:PE X a ta):PE X (.UnaryOp op a pos) (tUn r ta):=by
 intro pins s σ H Q I h
 exact UnaryOp_ (thn (ha pins s σ H _ I h) fun v s1 ⟨x,H1,I1,r1,q1⟩=>ho pins s1 σ H1 x v Q I1 r1 q1)
theorem opI {f:Value→Value→Sem Value}{C:Int→Int→Prop}{g:Int→Int→Int}
  (rule:∀(i j:Int) (t u:Tok) (s:zbk8) (Q:Value→zbk8→Prop) (E:Value→zbk8→Prop),C i j→Q (.int (g i j) s.toks) { s with toks:=s.toks+1 }→wpAny (model X.prog X.w) X.A (f (.int i t) (.int j u)) Q E s) :
  OpR X f (rI C fun i j=>.int (g i j)):=by
 intro pins s σ H x y v u Q I rx ry h
 obtain⟨i,j,rfl,rfl,hc,q⟩:=h
 obtain⟨t,rfl⟩:=rx
 obtain⟨t',rfl⟩:=ry
 exact rule i j t t' s _ _ hc ⟨.int (g i j),H,I.tok _,⟨_,rfl⟩,q⟩
theorem opI0 {f:Value→Value→Sem Value}{g:Int→Int→Int}
  (rule:∀(i j:Int) (t u:Tok) (s:zbk8) (Q:Value→zbk8→Prop) (E:Value→zbk8→Prop),Q (.int (g i j) s.toks) { s with toks:=s.toks+1 }→wpAny (model X.prog X.w) X.A (f (.int i t) (.int j u)) Q E s) :
  OpR X f (rI0 fun i j=>.int (g i j)):=by
 intro pins s σ H x y v u Q I rx ry h
 obtain⟨i,j,rfl,rfl,q⟩:=h
 obtain⟨t,rfl⟩:=rx
 obtain⟨t',rfl⟩:=ry
 exact rule i j t t' s _ _ ⟨.int (g i j),H,I.tok _,⟨_,rfl⟩,q⟩
theorem opB0 {f:Value→Value→Sem Value}{g:Int→Int→Bool}
  (rule:∀(i j:Int) (t u:Tok) (s:zbk8) (Q:Value→zbk8→Prop) (E:Value→zbk8→Prop),Q (.bool (g i j)) s→wpAny (model X.prog X.w) X.A (f (.int i t) (.int j u)) Q E s) :
  OpR X f (rI0 fun i j=>.bl (g i j)):=by
 intro pins s σ H x y v u Q I rx ry h
 obtain⟨i,j,rfl,rfl,q⟩:=h
 obtain⟨t,rfl⟩:=rx
 obtain⟨t',rfl⟩:=ry
 exact rule i j t t' s _ _ ⟨.bl (g i j),H,I,rfl,q⟩
noncomputable def CPow (i j:Int):Prop:=0≤j∧j≤1000000∧i.natAbs<2 ^ 64
theorem op_add:OpR X (binaryOp .Add) (rI0 fun i j=>.int (i+j)):=opI0 fun _ _ _ _ _ _ _ q=>add_int q
theorem op_sub:OpR X (binaryOp .Sub) (rI0 fun i j=>.int (i - j)):=opI0 fun _ _ _ _ _ _ _ q=>sub_int q
theorem op_modN:OpR X (binaryOp .Mod) (rI (fun _ j=>j≠0) fun i j=>.int (i.fmod j)):=opI fun _ _ _ _ _ _ _ hc q=>mod_int' hc q
theorem op_pow:OpR X (binaryOp .Pow) (rI CPow fun i j=>.int (i ^ j.toNat)):=opI fun _ _ _ _ _ _ _ hc q=>pow_int_small hc.1 hc.2.1 hc.2.2 q
theorem unI {f:Value→Sem Value}{g:Int→Int}
  (rule:∀(i:Int) (t:Tok) (s:zbk8) (Q:Value→zbk8→Prop) (E:Value→zbk8→Prop),Q (.int (g i) s.toks) { s with toks:=s.toks+1 }→wpAny (model X.prog X.w) X.A (f (.int i t)) Q E s) :
  UnR X f (rU fun i=>.int (g i)):=by
 intro pins s σ H x v Q I rx h
 obtain⟨i,rfl,q⟩:=h
 obtain⟨t,rfl⟩:=rx
 exact rule i t s _ _ ⟨.int (g i),H,I.tok _,⟨_,rfl⟩,q⟩
theorem un_neg:UnR X (unaryOp .USub) (rU fun i=>.int (-i)):=unI fun _ _ _ _ _ q=>neg_int q
end
noncomputable def scal:V→V→Bool
 |.non,.non=>true | .non,.int _=>true | .int _,.non=>true | .non,.bl _=>true | .bl _,.non=>true | .non,.str _=>true | .str _,.non=>true
 |.int _,.int _=>true | .bl _,.bl _=>true | .str _,.str _=>true | .byt _,.byt _=>true
 |.int _,.str _=>true | .str _,.int _=>true | .bl _,.str _=>true | .str _,.bl _=>true
 |_,_=>false
noncomputable def rEq:R2:=fun x y H Q=>scal x y=true∧Q (.bl (decide (x=y))) H
noncomputable def rNe:R2:=fun x y H Q=>scal x y=true∧Q (.bl (!decide (x=y))) H
theorem zbf7 {i j:Int}:decide (V.int i=V.int j)=(i == j):=by
 rw [zbq6]
 simp
theorem dec_bl {i j:Bool}:decide (V.bl i=V.bl j)=(i == j):=by
 rw [zbq6]
 simp
theorem zbf6 {i j:Str}:decide (V.str i=V.str j)=(i == j):=by
 rw [zbq6]
 simp
theorem zbf8 {i j:Array UInt8}:decide (V.byt i=V.byt j)=(i.toList == j.toList):=by
 rw [zbq6]
 cases i
 cases j
 simp
section
variable {X:Cx}{a b c:Expr}{ta tb tc:TE}{pos:Pos}
theorem ze0 {pins:List (Addr×Obj)}{σ:St}{H:Hp}{s:zbk8}{Q:VK}{k k':Bool} (I:Inv X pins σ H s) (q:Q (.bl k) H) (e:k=k'):EP X pins σ Q (.bool k') s:=by
 subst e
 exact⟨.bl k,H,I,rfl,q⟩
theorem op_eq:OpR X (compareOp .Eq) rEq:=by
 intro pins s σ H x y v u Q I rx ry h
 obtain⟨hs,q⟩:=h
 cases x with
 |non =>
  cases rx
  cases y with
  |non=>cases ry;exact PySem.EqNone.eq_none_none (ze0 I q (by simp))
  |bl j=>cases ry;exact PySem.EqNone.eq_none_bool (ze0 I q (by simp))
  |int j=>obtain⟨t',rfl⟩:=ry;exact PySem.EqNone.eq_none_int (ze0 I q (by simp))
  |str j=>obtain⟨t',rfl⟩:=ry;exact PySem.EqNone.eq_none_str (ze0 I q (by simp))
  |_=>exact absurd (show false=true from hs) zbl9
 |bl i =>
  cases rx
  cases y with
  |non=>cases ry;exact PySem.EqNone.eq_bool_none (ze0 I q (by simp))
  |bl j=>cases ry;exact eq_bool (ze0 I q dec_bl)
  |str j=>obtain⟨t',rfl⟩:=ry;exact PySem.EqMixed.eq_bool_str (ze0 I q (by simp))
  |_=>exact absurd (show false=true from hs) zbl9
 |int i =>
  obtain⟨t,rfl⟩:=rx
  cases y with
  |non=>cases ry;exact PySem.EqNone.eq_int_none (ze0 I q (by simp))
  |int j=>obtain⟨t',rfl⟩:=ry;exact eq_int (ze0 I q zbf7)
  |str j=>obtain⟨t',rfl⟩:=ry;exact PySem.EqMixed.eq_int_str (ze0 I q (by simp))
  |_=>exact absurd (show false=true from hs) zbl9
 |str i =>
  obtain⟨t,rfl⟩:=rx
  cases y with
  |non=>cases ry;exact PySem.EqNone.eq_str_none (ze0 I q (by simp))
  |bl j=>cases ry;exact PySem.EqMixed.eq_str_bool (ze0 I q (by simp))
  |int j=>obtain⟨t',rfl⟩:=ry;exact PySem.EqMixed.eq_str_int (ze0 I q (by simp))
  |str j=>obtain⟨t',rfl⟩:=ry;exact eq_str (ze0 I q zbf6)
  |_=>exact absurd (show false=true from hs) zbl9
 |byt i =>
  obtain⟨t,rfl⟩:=rx
  cases y with
  |byt j=>obtain⟨t',rfl⟩:=ry;exact PySem.W.eq_bytes (ze0 I q zbf8)
  |_=>exact absurd (show false=true from hs) zbl9
 |_=>cases y<;>exact absurd (show false=true from hs) zbl9
theorem op_ne:OpR X (compareOp .NotEq) rNe:=by
 intro pins s σ H x y v u Q I rx ry h
 obtain⟨hs,q⟩:=h
 cases x with
 |non =>
  cases rx
  cases y with
  |non=>cases ry;exact PySem.EqNone.ne_none_none (ze0 I q (by simp))
  |bl j=>cases ry;exact PySem.EqNone.ne_none_bool (ze0 I q (by simp))
  |int j=>obtain⟨t',rfl⟩:=ry;exact PySem.EqNone.ne_none_int (ze0 I q (by simp))
  |str j=>obtain⟨t',rfl⟩:=ry;exact PySem.EqNone.ne_none_str (ze0 I q (by simp))
  |_=>exact absurd (show false=true from hs) zbl9
 |bl i =>
  cases rx
  cases y with
  |non=>cases ry;exact PySem.EqNone.ne_bool_none (ze0 I q (by simp))
  |bl j=>cases ry;exact ne_bool (ze0 I q (congrArg not dec_bl))
  |str j=>obtain⟨t',rfl⟩:=ry;exact PySem.EqMixed.ne_bool_str (ze0 I q (by simp))
  |_=>exact absurd (show false=true from hs) zbl9
 |int i =>
  obtain⟨t,rfl⟩:=rx
  cases y with
  |non=>cases ry;exact PySem.EqNone.ne_int_none (ze0 I q (by simp))
  |int j=>obtain⟨t',rfl⟩:=ry;exact ne_int (ze0 I q (congrArg not zbf7))
  |str j=>obtain⟨t',rfl⟩:=ry;exact PySem.EqMixed.ne_int_str (ze0 I q (by simp))
  |_=>exact absurd (show false=true from hs) zbl9
 |str i =>
  obtain⟨t,rfl⟩:=rx
  cases y with
  |non=>cases ry;exact PySem.EqNone.ne_str_none (ze0 I q (by simp))
  |bl j=>cases ry;exact PySem.EqMixed.ne_str_bool (ze0 I q (by simp))
  |int j=>obtain⟨t',rfl⟩:=ry;exact PySem.EqMixed.ne_str_int (ze0 I q (by simp))
  |str j=>obtain⟨t',rfl⟩:=ry;exact ne_str (ze0 I q (congrArg not zbf6))
  |_=>exact absurd (show false=true from hs) zbl9
 |byt i =>
  obtain⟨t,rfl⟩:=rx
  cases y with
  |byt j=>obtain⟨t',rfl⟩:=ry;exact PySem.W.ne_bytes (ze0 I q (congrArg not zbf8))
  |_=>exact absurd (show false=true from hs) zbl9
 |_=>cases y<;>exact absurd (show false=true from hs) zbl9
theorem op_lt:OpR X (compareOp .Lt) (rI0 fun i j=>.bl (decide (i<j))):=opB0 fun _ _ _ _ _ _ _ q=>lt_int q
theorem op_le:OpR X (compareOp .LtE) (rI0 fun i j=>.bl (decide (i≤j))):=opB0 fun _ _ _ _ _ _ _ q=>le_int q
theorem op_gt:OpR X (compareOp .Gt) (rI0 fun i j=>.bl (decide (j<i))):=opB0 fun _ _ _ _ _ _ _ q=>gt_int q
theorem op_ge:OpR X (compareOp .GtE) (rI0 fun i j=>.bl (decide (j≤i))):=opB0 fun _ _ _ _ _ _ _ q=>ge_int q
theorem nomark (b:Expr) {op:CmpOp} (h:op≠.In:=by decide) (h2:op≠.NotIn:=by decide):behindInMarks op b=false:=by
 have e1:(op == CmpOp.In)=false:=by cases op<;>first | rfl | exact absurd rfl h
 have e2:(op == CmpOp.NotIn)=false:=by cases op<;>first | rfl | exact absurd rfl h2
 cases b<;>simp [behindInMarks,e1,e2]
noncomputable def TruV (K:zbj6) (x:V) (H:Hp) (k:Bool):Prop :=
 match x with
 |.non=>k=false
 |.bl b=>k=b
 |.int i=>k=(i != 0)
 |.str y=>y.length≤sizeLine∧k=((y.length:Int) != 0)
 |.byt y=>y.size≤sizeLine∧k=((y.size:Int) != 0)
 |.ref p=>(∃xs,SqL K H p xs∧k=!xs.isEmpty)∨(∃xs,SqT K H p xs∧k=!xs.isEmpty)∨∃kvs,H p=some (.dK kvs)∧k=!kvs.isEmpty
 |_=>False
theorem zaw8 {κ:Type}{kvs:List (κ×V)}{vs:List (κ×Value)} (r:KV kvs vs):(!vs.isEmpty)=!kvs.isEmpty:=by
 cases r<;>rfl
theorem zab8 {xs:List V}{its:List Value} (r:Vals xs its):(!its.toArray.isEmpty)=!xs.isEmpty:=by
 cases r<;>simp
theorem zai7:(sizeLine:Nat)<2 ^ 63:=by rw [sizeLine_eq];decide
theorem tru_ok:TruR X (fun x H Q => ∃k,TruV X.K x H k∧Q k H):=by
 intro pins s σ H x v Q I rx h
 obtain⟨k,e,q⟩:=h
 have hl:=zai7
 have hs:sizeLine=16777216:=sizeLine_eq
 cases x with
 |non =>
  cases rx
  have e':k=false:=e
  subst e'
  exact truthy_none ⟨H,I,q⟩
 |bl b =>
  cases rx
  have e':k=b:=e
  subst e'
  exact wpAny_truthy_bool ⟨H,I,q⟩
 |int i =>
  obtain⟨t,rfl⟩:=rx
  have e':k=(i != 0):=e
  subst e'
  exact PySem.P.truthy_int ⟨H,I,q⟩
 |str y =>
  obtain⟨t,rfl⟩:=rx
  obtain⟨hy,e'⟩:y.length≤sizeLine∧k=((y.length:Int) != 0):=e
  subst e'
  exact PySem.P.truthy_str (by lia) ⟨H,I.tok _,q⟩
 |byt y =>
  obtain⟨t,rfl⟩:=rx
  obtain⟨hy,e'⟩:y.size≤sizeLine∧k=((y.size:Int) != 0):=e
  subst e'
  exact PySem.W.truthy_bytes (by lia) ⟨H,I.tok _,q⟩
 |ref p =>
  cases rx
  have e':(∃xs,SqL X.K H p xs∧k=!xs.isEmpty)∨(∃xs,SqT X.K H p xs∧k=!xs.isEmpty)∨∃kvs,H p=some (.dK kvs)∧k=!kvs.isEmpty:=e
  rcases e' with ⟨xs,hx,e'⟩ | ⟨xs,hx,e'⟩ | ⟨kvs,hx,e'⟩
  ·subst e'
   obtain⟨its,r,pl,hz⟩:=I.list hx
   have hlen:=r.length
   exact wpAny_truthy_list pl.isList (by simp only [zbl6];lia) ⟨H,I.tok _,by rw [zab8 r];exact q⟩
  ·subst e'
   obtain⟨its,r,pl,hz⟩:=I.tuple hx
   have hlen:=r.length
   exact truthy_tuple pl (by simp only [zbl6];lia) ⟨H,I.tok _,by rw [zab8 r];exact q⟩
  ·subst e'
   obtain⟨hz,hS,vs,r,m⟩:kvs.length≤sizeLine∧(p == sysModules)=false∧∃vs,KV kvs vs∧s.heap.DictOf (zg4 X.prog X.w) p vs:=I.hok p _ hx
   have hlen:kvs.length=vs.length:=Paired.length r
   exact wpAny_truthy_dict hS m (by lia) ⟨H,I.tok _,by rw [zaw8 r];exact q⟩
 |_=>exact (show False from e).elim
theorem pt_truth (ha:PE X a ta) (he:∀whole,isTrue a X.env whole=(do let v ← whole;standAt a.pos;holding [v] (truthy v))) :
  PT X a (fun σ H Q=>ta σ H fun x H' => ∃k,TruV X.K x H' k∧Q k H'):=by
 intro pins s σ H Q I h
 exact isTrue_plain (thn (ha pins s σ H _ I h) fun v s1 ⟨x,H1,I1,r1,q1⟩=>tru_ok pins s1 σ H1 x v Q I1 r1 q1) (he _)
theorem zaf9 {x:V}{us:List Value} (r:Vals [x] us):∃u,us=[u]∧RelV x u:=by
 cases r with
 |cons r1 r2=>cases r2;exact⟨_,rfl,r1⟩
theorem vals2 {x y:V}{us:List Value} (r:Vals [x,y] us):∃u w',us=[u,w']∧RelV x u∧RelV y w':=by
 cases r with
 |cons r1 r2 =>
  cases r2 with
  |cons r3 r4=>cases r4;exact⟨_,_,rfl,r1,r3⟩
theorem zbh9 (hc:X.calm=true):zq7 X (.builtin "max") (fun xs H Q => ∃i j,xs=[.int i,.int j]∧Q (.int (if j > i then j else i)) H):=by
 intro pins s σ H xs us Q I r h
 obtain⟨i,j,rfl,q⟩:=h
 obtain⟨u,w',rfl,⟨t,rfl⟩,⟨t',rfl⟩⟩:=vals2 r
 refine max_two_ints (I.ok.hd hc) fun h' tk k=>⟨_,H,I.kept k,?_,q⟩
 by_cases hj:j > i
 ·rw [if_pos hj,if_pos hj];exact⟨_,rfl⟩
 ·rw [if_neg hj,if_neg hj];exact⟨_,rfl⟩
theorem zbh7 (hc:X.calm=true):zq7 X (.builtin "min") (fun xs H Q => ∃i j,xs=[.int i,.int j]∧Q (.int (if j<i then j else i)) H):=by
 intro pins s σ H xs us Q I r h
 obtain⟨i,j,rfl,q⟩:=h
 obtain⟨u,w',rfl,⟨t,rfl⟩,⟨t',rfl⟩⟩:=vals2 r
 refine min_two_ints (I.ok.hd hc) fun h' tk k=>⟨_,H,I.kept k,?_,q⟩
 by_cases hj:j<i
 ·rw [if_pos hj,if_pos hj];exact⟨_,rfl⟩
 ·rw [if_neg hj,if_neg hj];exact⟨_,rfl⟩
end
end L2
namespace L2
open PySem.Spec
structure ObjM (h:Heap) (x dx C:Addr) (mA:Str→Option Value):Prop where
 obj:h.get? x=some (zcb0 C dx)
 ns:h.Ns1 dx mA
 ne:dx≠x
theorem zbd0 {h:Heap}{dx:Addr}{mA:Str→Option Value} (n:h.Ns1 dx mA):∃od,h.get? dx=some od∧∀name,zcb6 name od=some (mA name):=by
 obtain⟨o,es,ep,ho,hd,hk,_,hm⟩:=n
 refine⟨o,ho,fun name=>?_⟩
 have e:=hm name
 unfold nsFind findBy at e
 rw [← Array.find?_toList]at e
 unfold zcb6
 rw [hd]
 dsimp only
 split
 ·rename_i y q
  rw [q]at e
  exact congrArg some e
 ·rename_i q
  rw [q]at e
  have a:es.toList.any (·.refKey)=false:=by
   rw [zcc8]
   intro y hy
   obtain⟨z,t,hkey⟩:=hk y (Array.mem_toList_iff.mp hy)
   simp [DictEntry.refKey,hkey]
  have a' : ¬ es.toList.any (·.refKey)=true:=by rw [a];exact zbl9
  rw [if_neg a']
  exact congrArg some e
theorem ObjM.look {h:Heap}{x dx C:Addr}{mA:Str→Option Value} (I:ObjM h x dx C mA):∃od,PySem.W.InstAt h x (zcb0 C dx) C (some od)∧∀name,zcb6 name od=some (mA name) :=
 let ⟨od,ho,hl⟩:=zbd0 I.ns
 ⟨od,⟨I.obj,rfl,rfl,ho⟩,hl⟩
section
variable {prog:Program}{w:World}{A:Around}{E:Value→zbk8→Prop}{s:zbk8}{K:zbj6}{x dx C f:Addr}{mA:Str→Option Value}{name:Str}{v:Value}
theorem get_map {expr:Bool}{Q:Value→zbk8→Prop} (X:K.In s.heap) (I:ObjM s.heap x dx C mA) (hg:zcd7 K C name=true) (hh:zcc9 K C=true)
  (ha:zbu5 K (.ref C) name=some none) (hv:mA name=some v) (hv':PySem.W.handedIn v=true) (h:Q v { s with toks:=s.toks+1 }) :
  wpAny (model prog w) A (getAttr (.ref x) name expr) Q E s:=by
 obtain⟨od,J,hl⟩:=I.look
 exact PySem.W.get_value X J (PySem.W.plainGet_of hg).1 (PySem.W.findObj_own hh ha rfl (by rw [hl,hv])) hv' h
end
structure Cls (K:zbj6) (C:Addr):Prop where
 pg:zcd7 K C Str.empty=true
 hd:zcc9 K C=true
 po:PySem.W.plainOver K C=true
 sa:zbu5 K (.ref C) "__setattr__"=some (some (.builtin "object.__setattr__"))
structure Con (K:zbj6) (C:Addr) (f:Str) (v:V) (u:Value):Prop where
 at_:zbu5 K (.ref C) f=some (some u)
 rel:RelV v u
 get:zcd0 K u "__get__"=some none
 cp:PySem.W.copiedNames.contains f=false
structure Meth (K:zbj6) (C:Addr) (m:Str) (f:Addr):Prop where
 at_:zbu5 K (.ref C) m=some (some (.ref f))
 fn:PySem.W.isFn K (.ref f)=true
 kp:zbq7 K (.ref f)=true
section
variable {X:Cx}{pins:List (Addr×Obj)}{σ:St}{H:Hp}{s:zbk8}{A:Around}{E:Value→zbk8→Prop}{Q:Value→zbk8→Prop}{c:Value}{b:Bool}
inductive TyOf (K:zbj6) (H:Hp):V→Value→Prop where
 |non:TyOf K H .non (.type "NoneType")
 |bl (x:Bool):TyOf K H (.bl x) (.type "bool")
 |int (i:Int):TyOf K H (.int i) (.type "int")
 |str (x:Str):TyOf K H (.str x) (.type "str")
 |flt (x:UInt64):TyOf K H (.flt x) (.type "float")
 |lst {a:Addr}{xs:List V} (e:H a=some (.lst xs)):TyOf K H (.ref a) (.type "list")
 |frz {a:Addr}{o:Obj}{xs:List V} (e:H a=some (.frz o (.lst xs))):TyOf K H (.ref a) (.type "list")
 |tup {a:Addr}{xs:List V} (e:H a=some (.tup xs)):TyOf K H (.ref a) (.type "tuple")
 |dK {a:Addr}{kvs:List (Key×V)} (e:H a=some (.dK kvs)):TyOf K H (.ref a) (.type "dict")
 |dT {a:Addr}{kvs:List (List Key×V)} (e:H a=some (.dT kvs)):TyOf K H (.ref a) (.type "dict")
 |ins {a C dx:Addr}{fs:List (Str×V)} (e:H a=some (.ins C dx fs)) (cl:Cls K C) (ha:zbu5 K (.ref C) "__class__"=some (some (.builtin "object.__class__")))
   (hn:zcd0 K (.builtin "object.__class__") "__get__"=some (some (.builtin "getset_descriptor.__get__"))) (htk:PySem.W.takesIn K (.builtin "object.__class__")=some true)
   (hm:PySem.W.mroIn K C (.type "object")=some true):TyOf K H (.ref a) (.ref C)
end
end L2
namespace L2
open PySem.Spec
structure Room (k:Nat) (A:Around):Prop where
 hd:A.handled=none
 dp:A.depth+3*k+5<recursionLimit
 un:A.units+16*k+200<cLine
theorem Room.mono {j k:Nat}{A:Around} (r:Room k A) (h:j≤k):Room j A:=⟨r.hd,by have:=r.dp;lia,by have:=r.un;lia⟩
theorem Room.deeper {k:Nat}{A:Around} (r:Room (k+1) A) (env:Env):Room k (A.deeper env) :=
 ⟨r.hd,by have:=r.dp;show A.depth+1+3*k+5<_;lia,by have:=r.un;show A.units+3+16*k+200<_;lia⟩
theorem Room.depth {k:Nat}{A:Around} (r:Room k A):A.depth<recursionLimit:=by have:=r.dp;lia
theorem Room.units {k:Nat}{A:Around} (r:Room k A):A.units+64<cLine:=by have:=r.un;lia
noncomputable def tNil:TA:=fun _ H Q=>Q [] H
noncomputable def tCons (ta:TE) (tr:TA):TA:=fun σ H Q=>ta σ H fun x H1=>tr σ H1 fun xs H2=>Q (x::xs) H2
section
variable {X:Cx}{e:Expr}{es:List Expr}{te:TE}{t:TA}{pos:Pos}
theorem zr1:PA X [] tNil:=fun _ _ _ _ H Q I h=>Calls.spliced_nil ⟨[],H,I,.nil,h⟩
theorem zh2 (ha:PE X e te) (hr:PA X es t) (hs:zbm0 (e::es) X.env=(false,eval e X.env)::zbm0 es X.env:=by rfl):PA X (e::es) (tCons te t):=by
 intro pos pins s σ H Q I h
 rw [hs]
 show wpAny _ _ (spliced ((false,eval e X.env)::zbt6 pos (zbm0 es X.env))) _ _ s
 refine Calls.spliced_cons (thn (ha pins s σ H _ I h) fun u s1 ⟨x,H1,I1,r1,q1⟩=>?_)
 exact thn (hr pos pins s1 σ H1 _ I1 q1) fun us s2 ⟨xs,H2,I2,r2,q2⟩=>⟨x::xs,H2,I2,.cons r1 r2,q2⟩
noncomputable def tTup (t:TA):TE:=fun σ H Q=>t σ H fun xs H1=>xs.length≤sizeLine∧∀p,H1 p=none→Q (.ref p) (upd H1 p (.tup xs))
noncomputable def tLst (t:TA):TE:=fun σ H Q=>t σ H fun xs H1=>xs.length≤sizeLine∧∀p,H1 p=none→Q (.ref p) (upd H1 p (.lst xs))
theorem pe_tup {x1} (h:PA X es t):PE X (.Tuple es x1 pos) (tTup t):=by
 intro pins s σ H Q I hq
 refine wpAny_Tuple_spliced (thn (h pos pins s σ H _ I hq) fun us s1 ⟨xs,H1,I1,r,z,q⟩=>⟨by rw [← r.length];exact z,?_⟩)
 have hf:H1 s1.heap.objs.size=none:=I1.hok.fresh (zbl3 _)
 refine⟨.ref s1.heap.objs.size,upd H1 s1.heap.objs.size (.tup xs),I1.laid (t':=s1.toks) (fun b u e=>zbk0 _ e) (zbl3 _) ?_,rfl,q _ hf⟩
 exact⟨z,us,r,⟨_,zbl2 _ rfl,rfl,_,rfl⟩⟩
theorem pe_lst (h:PA X es t):PE X (.List es pos) (tLst t):=by
 intro pins s σ H Q I hq
 refine wpAny_List_spliced (thn (h pos pins s σ H _ I hq) fun us s1 ⟨xs,H1,I1,r,z,q⟩=>⟨by rw [← r.length];exact z,?_⟩)
 have hf:H1 s1.heap.objs.size=none:=I1.hok.fresh (zbl3 _)
 refine⟨.ref s1.heap.objs.size,upd H1 s1.heap.objs.size (.lst xs),I1.laid (t':=s1.toks) (fun b u e=>zbk0 _ e) (zbl3 _) ?_,rfl,q _ hf⟩
 exact⟨z,us,0,r,zbl2 _ rfl⟩
end
noncomputable abbrev Sp:=List V→Hp→VK→XK→Prop
noncomputable abbrev CXT:=List Env→Hp→zbk8→XK→Value→zbk8→Prop
structure Env0 (P:Program) (w:World) (K:zbj6) (mg:Str→Option Value) (base:BHeap) (A:Around) (outer:List Env) (s:zbk8) (H:Hp):Prop where
 frames:A.frames=some outer
 mod:Mod K mg base
 bs:∀b o,base.get? b=some o→s.heap.get? b=some o∧H b=none
 bsz:base.objs.size≤s.heap.objs.size
 funs:s.heap.FunFrames base outer
 frf:∀b∈frs outer,H b=none
 hok:HOk P w H s.heap
 bare:AllBare s.gens
 tabs:∀p∈base.tabs,H p.1=some (.tbl p.2)
noncomputable def CE (outer:List Env) (P:Program) (w:World) (H:Hp) (s:zbk8) (Q:VK) (u:Value) (s':zbk8):Prop :=
 ∃v H',s'.os=s.os∧AllBare s'.gens∧Un (frs outer) [] H H' s.heap s'.heap∧HOk P w H' s'.heap∧RelV v u∧Q v H'
noncomputable def CR (CX:CXT) (outer:List Env) (P:Program) (w:World) (H:Hp) (s:zbk8) (Q:VK) (E:XK) (r:Result) (s':zbk8):Prop :=
 match r with
 |.ok (.ret u)=>CE outer P w H s Q u s'
 |.ok _=>False
 |.error e=>CX outer H s E e s'
structure FnOk (P:Program) (w:World) (K:zbj6) (mg:Str→Option Value) (base:BHeap) (CX:CXT) (k:Nat) (f:Addr) (fd:FuncData) (ps:List Str) (sp:Sp):Prop where
 len:∀vs H Q E,sp vs H Q E→vs.length=ps.length
 run:∀(A:Around) (outer:List Env) (s:zbk8) (H:Hp) (args:Args) (us:List Value) (vs:List V) (Q:VK) (E:XK),Room k A→Env0 P w K mg base A outer s H→BindsTo s fd args (ps.zip us)→Vals vs us→sp vs H Q E →
  codeAny (model P w) A (.call (.ref f) args) (CR CX outer P w H s Q E) s
section
variable {X:Cx}{pins:List (Addr×Obj)}{σ:St}{H:Hp}{s s':zbk8}
theorem Inv.env0 (I:Inv X pins σ H s):Env0 X.prog X.w X.K X.mg X.base X.A X.stack s H :=
 ⟨I.ok.frames,I.ok.mod,I.bs,zbq4 I.ok.bsz I.sz,I.stack,I.stkFree,I.hok,I.bare,fun p hp=>I.base.tbls _ _ (I.ok.tabs p hp)⟩
theorem Inv.after {Q:VK}{u:Value} (I:Inv X pins σ H s) (h:CE X.stack X.prog X.w H s Q u s'):EP X pins σ Q u s':=by
 obtain⟨v,H',os,bare,un,hok,r,q⟩:=h
 obtain⟨hh,g,d,t,os'⟩:=s'
 obtain rfl:os'=s.os:=os
 exact⟨v,H',I.call (h':=hh) (g':=g) (d':=d) (t':=t) (ch:=[]) un hok bare (fun b z=>absurd z (by simp)),r,q⟩
end
noncomputable def tCall (sp:Sp) (dvs:List V) (E:XK) (t:TA):TE:=fun σ H Q=>t σ H fun vs H1=>sp (vs++dvs) H1 Q E
noncomputable def Binds (K:zbj6) (fd:FuncData) (ps:List Str) (ds:List Value):Prop :=
 ∀(s:zbk8) (us:List Value),K.In s.heap→(us++ds).length=ps.length→BindsTo s fd ⟨us,[]⟩ (ps.zip (us++ds))
theorem Binds.all {K:zbj6}{fd:FuncData}{ps:List Str} (h:∀us:List Value,us.length=ps.length→bindArgs fd ⟨us,[]⟩=pure (ps.zip us)):Binds K fd ps []:=fun s us _ hl=>by
 rw [zbr1]at hl ⊢
 exact .of_eq (h us hl)
noncomputable def zbj4 (CX:CXT) (X:Cx) (E:XK):Prop := ∀(pins:List (Addr×Obj)) (σ:St) (H:Hp) (s:zbk8) (e:Value) (s':zbk8),Inv X pins σ H s→CX X.stack H s E e s'→X.xe e s'
section
variable {X:Cx}{CX:CXT}{k:Nat}{f C:Addr}{fd:FuncData}{ps:List Str}{sp:Sp}{dvs:List V}{ds:List Value}{E:XK}{x m:Str}{p pos apos:Pos}{e o:Expr}{es:List Expr}{ta:TE}{t:TA}
theorem run_fn {pins:List (Addr×Obj)}{σ:St}{H:Hp}{s:zbk8}{Q:VK}{us:List Value}{vs:List V} (F:FnOk X.prog X.w X.K X.mg X.base CX k f fd ps sp) (hr:Room k X.A) (hb:Binds X.K fd ps ds) (hd:Vals dvs ds) (hx:zbj4 CX X E)
  (I:Inv X pins σ H s) (r:Vals vs us) (h:sp (vs++dvs) H Q E):wpAny (model X.prog X.w) X.A (call (.ref f) us) (EP X pins σ Q) X.xe s:=by
 have r2:Vals (vs++dvs) (us++ds):=r.append hd
 have hl:(us++ds).length=ps.length:=by rw [← r2.length];exact F.len _ _ _ _ h
 refine wpAny_call (codeAny_mono (F.run X.A X.stack s H ⟨us,[]⟩ (us++ds) (vs++dvs) Q E hr I.env0 (hb s us I.kIn hl) r2 h) fun r s' hq=>?_)
 cases r with
 |error e=>exact hx pins σ H s e s' I hq
 |ok fl =>
  cases fl with
  |ret u=>exact I.after hq
  |next=>exact False.elim hq
  |brk=>exact False.elim hq
  |cont=>exact False.elim hq
theorem zbc0 (F:FnOk X.prog X.w X.K X.mg X.base CX k f fd ps sp) (hr:Room k X.A) (hg:Gl X x) (hm:X.mg x=some (.ref f)) (hk:zbq7 X.K (.ref f)=true) (hb:Binds X.K fd ps ds) (hd:Vals dvs ds) (hx:zbj4 CX X E)
  (ha:PA X (e::es) t) (hdb:(x ==("__debug__":Str))=false:=by decide) (he:zbm0 (e::es) X.env=(false,eval e X.env)::zbm0 es X.env:=by rfl) (hpl:(zbt6 pos (zbm0 es X.env)).any (·.1)=false:=by rfl) :
  PE X (.Call (.Name x p) (e::es) [] pos) (tCall sp dvs E t):=by
 intro pins s σ H Q I h
 refine wpAny_Call_Name_kw (ld_glob I hg hm ?_ hdb)
 refine PySem.W.callWith_K (h₀:=X.base) I.ok.mod.kin hk (thn (ha pos pins s σ H _ I h) fun us s1 ⟨vs,H1,I1,r,q⟩=>⟨I1.kIn,?_⟩) he hpl
 exact run_fn F hr hb hd hx I1 r q
structure Mk (K:zbj6) (C f:Addr):Prop where
 makes:PySem.W.makesIn K C=true
 init:zbu5 K (.ref C) "__init__"=some (some (.ref f))
 fn:PySem.W.isFn K (.ref f)=true
 kp:zbq7 K (.ref C)=true
end
section
variable {X:Cx}{CX:CXT}{k:Nat}{f C:Addr}{fd:FuncData}{ps ks:List Str}{sp:Sp}{E:XK}{x m:Str}{p pos apos kpos:Pos}{e o:Expr}{es:List Expr}{kws:List Keyword}{te ta:TE}{t tk:TA}{nm:Option Str}
structure KBinds (K:zbj6) (fd:FuncData) (ps ks:List Str) (g:List Value→List Value→List Value) (gV:List V→List V→List V):Prop where
 to:∀(s:zbk8) (us ws:List Value),K.In s.heap→(g us ws).length=ps.length→BindsTo s fd ⟨us,ks.zip ws⟩ (ps.zip (g us ws))
 rel:∀ {vs:List V}{us:List Value}{zs:List V}{ws:List Value},Vals vs us→Vals zs ws→Vals (gV vs zs) (g us ws)
variable {g:List Value→List Value→List Value}{gV:List V→List V→List V}
end
structure FnScope (N P:List Str) (sc:Scope):Prop where
 kind:sc.kind=.function
 co:sc.isCoroutine=false
 gen:sc.isGenerator=false
 nd:N.Nodup
 pre:N.take P.length=P
 par:∀x∈P,sc.names.lookup x=some .local∨sc.names.lookup x=some .cell
 nofree:∀y∈sc.names,y.2≠.free
theorem zak4 {kindOf:Str→Option NameKind}{x:Str}:∀ {binds:List (Str×Value)}{m:Str→Option Value},(∀v,(x,v)∉binds)→bindL kindOf binds m x=m x
 |[],_,_=>rfl
 |(n,v)::r,m,h=>by
  unfold bindL
  rw [zak4 fun w hw=>h w (zbj9 _ hw)]
  split
  ·have:x≠n:=by rintro rfl;exact h v zbk2
   simp [this]
  ·rfl
theorem zak6 {kindOf:Str→Option NameKind}{x:Str}:∀ {binds:List (Str×Value)}{m:Str→Option Value},(∀v,(x,v)∉binds)→bindC kindOf binds m x=m x
 |[],_,_=>rfl
 |(n,v)::r,m,h=>by
  unfold bindC
  rw [zak6 fun w hw=>h w (zbj9 _ hw)]
  split
  ·rfl
  ·have:x≠n:=by rintro rfl;exact h v zbk2
   simp [this]
theorem zak5 {kindOf:Str→Option NameKind}{x:Str}{v:Value}:∀ {P:List Str}{vs:List Value}{i:Nat}{m:Str→Option Value},P.Nodup→P[i]?=some x→vs[i]?=some v→kindOf x=some .local →
  bindL kindOf (P.zip vs) m x=some v
 |[],_,_,_,_,h,_,_=>by simp at h
 |_::_,[],_,_,_,_,h,_=>by simp at h
 |p::P,w::vs,0,m,nd,h1,h2,hk=>by
  simp at h1 h2;subst h1;subst h2
  show bindL kindOf ((p,w)::P.zip vs) m p=_
  unfold bindL
  rw [zak4 fun v hv=>(zbm9.mp nd).1 (zcb2 hv).1,if_pos hk]
  simp
 |p::P,w::vs,i+1,m,nd,h1,h2,hk=>by
  show bindL kindOf ((p,w)::P.zip vs) m x=_
  unfold bindL
  exact zak5 (i:=i) (zbm9.mp nd).2 (by simpa using h1) (by simpa using h2) hk
theorem zak7 {kindOf:Str→Option NameKind}{x:Str}{v:Value}:∀ {P:List Str}{vs:List Value}{i:Nat}{m:Str→Option Value},P.Nodup→P[i]?=some x→vs[i]?=some v→kindOf x≠some .local →
  bindC kindOf (P.zip vs) m x=some v
 |[],_,_,_,_,h,_,_=>by simp at h
 |_::_,[],_,_,_,_,h,_=>by simp at h
 |p::P,w::vs,0,m,nd,h1,h2,hk=>by
  simp at h1 h2;subst h1;subst h2
  show bindC kindOf ((p,w)::P.zip vs) m p=_
  unfold bindC
  rw [zak6 fun v hv=>(zbm9.mp nd).1 (zcb2 hv).1,if_neg hk]
  simp
 |p::P,w::vs,i+1,m,nd,h1,h2,hk=>by
  show bindC kindOf ((p,w)::P.zip vs) m x=_
  unfold bindC
  exact zak7 (i:=i) (zbm9.mp nd).2 (by simpa using h1) (by simpa using h2) hk
noncomputable def start (N:List Str) (vs:List V):St:=vs.map some++zbl4 (N.length - vs.length) none
noncomputable def cxOf (CX:CXT) (P:Program) (w:World) (K:zbj6) (mg:Str→Option Value) (base:BHeap) (N:List Str) (qual:Str) (scope:Scope) (f:Addr) (cd:Value) (A:Around) (outer:List Env) (s:zbk8) (H:Hp) (E:XK):Cx where
 prog:=P
 w:=w
 K:=K
 mg:=mg
 base:=base
 A:=A.deeper (envOfC qual scope s.heap.objs.size f cd)
 N:=N
 s₀:=s
 H₀:=H
 env:=envOfC qual scope s.heap.objs.size f cd
 outer:=outer
 stack:=envOfC qual scope s.heap.objs.size f cd::outer
 ex:=[]
 calm:=true
 fn:=fun _=>true
 pn:=[]
 xe:=fun e s'=>wpAny (model P w) (A.deeper (envOfC qual scope s.heap.objs.size f cd)) (leaving (envOfC qual scope s.heap.objs.size f cd) e) (fun _ s''=>CX outer H s E e s'') (fun e' s''=>CX outer H s E e' s'') s'
theorem zat2 {sc:Scope}{n:Nat}{x:Str} (h:sc.names.lookup x=some .cell):∃c,(cellsFrom n sc.names []).lookup x=some c:=by
 have q:=zbz9 sc.names n [] (.inl h)
 exact Option.isSome_iff_exists.mp q
theorem zbd9 {CX:CXT}{P:Program}{w:World}{K:zbj6}{mg:Str→Option Value}{base:BHeap}{N ps:List Str}{qual:Str}{scope:Scope}{f:Addr}{cd:Value}{A:Around}{outer:List Env}{s s1:zbk8}{H:Hp}{E:XK}{us:List Value}{vs:List V}
  (S:FnScope N ps scope) (hd:A.handled=none) (e0:Env0 P w K mg base A outer s H) (hl:vs.length=ps.length) (r:Vals vs us)
  (x:InCallC s s.heap.objs.size (bindL (envOfC qual scope s.heap.objs.size f cd).kindOf (ps.zip us) fun _=>none) (cellsFrom (s.heap.objs.size+1) scope.names []) (bindC (envOfC qual scope s.heap.objs.size f cd).kindOf (ps.zip us) fun _=>none) s1) :
  Inv (cxOf CX P w K mg base N qual scope f cd A outer s H E) [] (start N vs) H s1:=by
 have hpl:ps.length≤N.length:=by have:=congrArg List.length S.pre;rw [zbr9]at this;lia
 obtain⟨h1,tk,rfl,hk⟩:=x.done
 have noA:∀b:Addr,b∉(cxOf CX P w K mg base N qual scope f cd A outer s H E).ex:=fun b z=>absurd (show b∈([]:List Addr) from z) (by simp)
 refine⟨⟨e0.mod,S.kind,rfl,rfl,zbl3 _,fun y z c h1 h2=>?_,fun y hy=>?_,fun y c _ h=>?_,fun _=>hd,Around.frames_deeper e0.frames,.inr ⟨rfl,rfl⟩,fun b z=>absurd z (noA b),e0.bs,e0.bsz,fun b _ _=>noA b,fun b z=>absurd z (noA b),e0.funs,e0.frf,e0.tabs⟩,
  rfl,e0.bare,Un.kept hk,⟨_,x.toInCall.ns,fun i y v h1 h2 h3=>?_⟩,fun y c h=>⟨_,x.cell y c h⟩,e0.hok.fresh (zbl3 _),fun y c h=>?_,fun p hp=>absurd (show p∈([]:List (Addr×Obj)) from hp) (by simp),e0.hok.kept hk,?_⟩
 ·exact name_of_addr x.apart (PySem.mem_of_lookup h1) (PySem.mem_of_lookup h2)
 ·have hy:scope.names.lookup y=some .cell∨scope.names.lookup y=some .free:=hy
  rcases hy with hy | hy
  ·exact zat2 hy
  ·exact absurd rfl (S.nofree _ (PySem.mem_of_lookup hy))
 ·exact zbv1 (x.above y c (PySem.mem_of_lookup h))
 ·have hi:i<vs.length:=by
   unfold start at h2
   by_cases hi:i<vs.length
   ·exact hi
   ·rw [zbo2 (by simpa using hi)]at h2
    rw [zbu8]at h2
    split at h2<;>cases h2
  have ha:vs[i]?=some v:=by
   unfold start at h2
   rw [zbp5 (by simpa using hi),zbp6]at h2
   cases e:vs[i]? with
   |none=>rw [e]at h2;cases h2
   |some a=>rw [e]at h2;cases h2;rfl
  obtain⟨u,hu,rv⟩:=r.get ha
  have hp:ps[i]?=some y:=by
   rw [← S.pre,zby3 (by lia)];exact h1
  have ndP:ps.Nodup:=by rw [← S.pre];exact S.nd.sublist (zcd1 _ _)
  refine⟨u,rv,?_⟩
  rcases S.par y (zbn6 hp) with k | k
  ·exact .inl ⟨k,zak5 ndP hp hu k⟩
  ·obtain⟨c,e⟩:=zat2 (n:=s.heap.objs.size+1) k
   refine .inr ⟨.inl k,c,e,?_⟩
   have q:=x.cell y c e
   rw [zak7 ndP hp hu (by show scope.names.lookup y≠_;rw [k];decide)]at q
   exact q
 ·exact e0.hok.fresh (zbv1 (x.above y c (PySem.mem_of_lookup h)))
 ·unfold start
  show _=N.length
  rw [zbo5,zbm6,zbv9]
  lia
theorem fn_of {CX:CXT}{P:Program}{w:World}{K:zbj6}{mg:Str→Option Value}{base:BHeap}{k:Nat}{f:Addr}{name qual:Str}{params:Arguments}{body:List Stmt}{scope:Scope}{dV kV doc pm cdv ct oc:Value}{an od:Option Addr}
  {osl:Array (Option Value)}{N ps:List Str}{sp:Sp} (lk:K.lookup f=some ⟨oc,od,.func (zbr2 name qual params body scope dV kV doc pm an cdv ct),osl⟩) (hcd:zby4 K cdv qual=true) (S:FnScope N ps scope)
  (len:∀vs H Q E,sp vs H Q E→vs.length=ps.length)
  (hbody:∀(A:Around) (outer:List Env) (s:zbk8) (H:Hp) (vs:List V) (Q:VK) (E:XK),Room k (A.deeper (envOfC qual scope s.heap.objs.size f cdv))→sp vs H Q E →
   ∃t,PSs (cxOf CX P w K mg base N qual scope f cdv A outer s H E) body t∧t { nx:=fun _ H'=>Q .non H',rt:=Q } (start N vs) H) :
  FnOk P w K mg base CX (k+1) f (zbr2 name qual params body scope dV kV doc pm an cdv ct) ps sp:=by
 refine⟨len,fun A outer s H args us vs Q E hr e0 hb r hsp=>?_⟩
 have hl:=len _ _ _ _ hsp
 have KX:K.In s.heap:=e0.mod.kin.keeps fun b o e=>(e0.bs b o e).1
 have lim:s.heap.NoLimit:=e0.mod.nolimit.keeps fun b o e=>(e0.bs b o e).1
 have hkind:∀y∈ps.zip us,scope.names.lookup y.1=some .local∨(scope.names.lookup y.1=some .cell∧((cellsFrom (s.heap.objs.size+1) scope.names []).lookup y.1).isSome=true):=fun ⟨n,v⟩ hy=>by
  rcases S.par n (zcb2 hy).1 with q | q
  ·exact .inl q
  ·exact .inr ⟨q,zbz9 _ _ _ (.inl q)⟩
 refine codeAny_call_function hr.depth (KX _ _ lk) rfl S.co S.gen rfl (PySem.W.codeRec_of KX hcd) (hb _ _ _ _ ?_)
 refine wpAny_newFunctionEnv_cells S.kind hkind fun env he s1 x=>?_
 subst he
 refine⟨lim.keeps x.toInCall.keep,codeAny_func ?_⟩
 obtain⟨t,ht,hq⟩:=hbody A outer s H vs Q E (hr.deeper _) hsp
 have I:Inv (cxOf CX P w K mg base N qual scope f cdv A outer s H E) [] (start N vs) H s1:=zbd9 S hr.hd e0 hl r x
 refine wpAny_mono (ht [] s1 (start N vs) H _ I hq) (fun fl s' hs=>?_) fun e s' hs=>hs
 have fin:∀ {σ':St}{H':Hp}{v:V}{u:Value},Inv (cxOf CX P w K mg base N qual scope f cdv A outer s H E) [] σ' H' s'→RelV v u→Q v H'→CE outer P w H s Q u s' :=
  fun {σ' H' v u} J rv q=>⟨v,H',J.os,J.bare,J.base,J.hok,rv,q⟩
 cases fl with
 |ret u =>
  obtain⟨v,σ',H',J,rv,q⟩:=hs
  exact fin J rv q
 |next =>
  obtain⟨σ',H',J,q⟩:=hs
  exact fin (v:=V.non) (u:=Value.none) J rfl q
 |brk =>
  obtain⟨_,_,_,q⟩:=hs
  exact False.elim q
 |cont =>
  obtain⟨_,_,_,q⟩:=hs
  exact False.elim q
end L2
namespace L2
open PySem.Spec
section
variable {X:Cx}{x:Str}{p pos:Pos}{e:Expr}{es:List Expr}{t:TA}{id T:String}{r:List V→Hp→VK→Prop}
noncomputable def tCB (r:List V→Hp→VK→Prop) (t:TA):TE:=fun σ H Q=>t σ H fun vs H1=>r vs H1 Q
theorem pe_callB (hc:zq7 X (.builtin id) r) (hg:Gl X x) (hm:X.mg x=none) (hv:bootBuiltins x=some (.builtin id)) (ha:PA X (e::es) t) (hn:x≠"__name__":=by decide) (hdb:(x ==("__debug__":Str))=false:=by decide)
  (he:zbm0 (e::es) X.env=(false,eval e X.env)::zbm0 es X.env:=by rfl) (hpl:(zbt6 pos (zbm0 es X.env)).any (·.1)=false:=by rfl):PE X (.Call (.Name x p) (e::es) [] pos) (tCB r t):=by
 intro pins s σ H Q I h
 refine wpAny_Call_Name_kw (zn7 I hg hm hv ?_ hn hdb)
 exact PyProof.Rows.callWith_builtin1 (thn (ha pos pins s σ H _ I h) fun us s1 ⟨vs,H1,I1,r1,q1⟩=>hc pins s1 σ H1 vs us Q I1 r1 q1) he hpl
end
end L2
namespace HT
section
variable {prog:Program}{w:World}{A:Around}{E:Value→zbk8→Prop}{s:zbk8}
noncomputable def sIx (n d:Nat):Option Int→Nat
 |none=>d
 |some v=>if v<0 then (v+(n:Int)).toNat else min v.toNat n
theorem sIx_none (n d:Nat):sIx n d none=d:=rfl
theorem sIx_nat (n d k:Nat):sIx n d (some (k:Int))=min k n:=by
 show (if (k:Int)<0 then ((k:Int)+(n:Int)).toNat else min (k:Int).toNat n)=min k n
 rw [if_neg (by lia),zbn9]
end
end HT
namespace L2
open PySem.Spec
noncomputable abbrev TO:=St→Hp→(Option Int→Hp→Prop)→Prop
noncomputable def PO (X:Cx) (e:Option Expr) (t:TO):Prop :=
 ∀(pins:List (Addr×Obj)) (s:zbk8) (σ:St) (H:Hp) (Q:Option Int→Hp→Prop),Inv X pins σ H s→t σ H Q →
  wpAny (model X.prog X.w) X.A (evalPart e X.env) (fun u s' => ∃o H',Inv X pins σ H' s'∧IsPart u o∧Q o H') X.xe s
noncomputable def tNoPart:TO:=fun _ H Q=>Q none H
noncomputable def tPart (t:TE):TO:=fun σ H Q=>t σ H fun x H1 => ∃i,x=.int i∧Q (some i) H1
theorem zq1 {ns:List Int}:∀ {us:List Value},Vals (ns.map V.int) us→IntsAre us ns:=by
 induction ns with
 |nil=>intro us r;rw [zcb3]at r;cases r;exact .nil
 |cons n ns ih =>
  intro us r
  rw [zbl8]at r
  cases r with
  |cons r1 r2 =>
   obtain⟨t,e⟩:=r1
   subst e
   exact .cons n t (ih r2)
section
variable {X:Cx}{e:Expr}{te:TE}{lo hi:Option Expr}{tl th:TO}{pos p2:Pos}
theorem po_none:PO X none tNoPart:=by
 intro pins s σ H Q I h
 rw [evalPart_none]
 exact zbk6 ⟨none,H,I,.none,h⟩
theorem zam3 (h:PE X e te):PO X (some e) (tPart te):=by
 intro pins s σ H Q I hw
 rw [evalPart_some]
 refine thn (h pins s σ H _ I hw) fun u s1 ⟨x,H1,I1,r1,q1⟩=>?_
 obtain⟨i,rfl,q⟩:=q1
 obtain⟨t,rfl⟩:=r1
 exact⟨some i,H1,I1,.int i t,q⟩
noncomputable def SlR (X:Cx) (r:V→Option Int→Option Int→Hp→VK→Prop):Prop :=
 ∀(pins:List (Addr×Obj)) (s:zbk8) (σ:St) (H:Hp) (x:V) (v vl vu:Value) (lo hi:Option Int) (sl:Addr) (Q:VK),Inv X pins σ H s→RelV x v→s.heap.IsSliceOf sl vl vu .none→IsPart vl lo→IsPart vu hi→r x lo hi H Q →
  ∃T id,typeLookup (.type T) "__getitem__"=pure (some (.builtin id))∧s.TypeIs v T∧wpAny (model X.prog X.w) X.A (getItem v (.ref sl)) (EP X pins σ Q) X.xe s
noncomputable def tSl (r:V→Option Int→Option Int→Hp→VK→Prop) (te:TE) (tl th:TO):TE:=fun σ H Q=>te σ H fun x H1=>tl σ H1 fun l H2=>th σ H2 fun u H3=>r x l u H3 Q
theorem zar9 {r:V→Option Int→Option Int→Hp→VK→Prop} (hr:SlR X r) (he:PE X e te) (hl:PO X lo tl) (hu:PO X hi th):PE X (.Subscript e (.Slice lo hi none p2) pos) (tSl r te tl th):=by
 intro pins s σ H Q I h
 refine Subscript_ (thn (he pins s σ H _ I h) fun v s1 ⟨x,H1,I1,r1,q1⟩=>?_)
 refine wpAny_Slice (thn (hl pins s1 σ H1 _ I1 q1) fun vl s2 ⟨l,H2,I2,pl,q2⟩=>thn (hu pins s2 σ H2 _ I2 q2) fun vu s3 ⟨u,H3,I3,pu,q3⟩=>?_)
 rw [evalPart_none]
 refine zbk6 ?_
 have I4:Inv X pins σ H3 { s3 with heap:=s3.heap.push { cls:=.type "slice",data:=.fields #[vl,vu,.none] } }:=I3.kept (t':=s3.toks) fun b ob q=>zbk0 _ q
 obtain⟨T,id,hT,ht,hg⟩:=hr pins { s3 with heap:=s3.heap.push { cls:=.type "slice",data:=.fields #[vl,vu,.none] } } σ H3 x v vl vu l u s3.heap.objs.size Q I4 r1 (Heap.IsSliceOf.new ..) pl pu q3
 show wpAny (model X.prog X.w) X.A (subscriptTail e (.Slice lo hi none p2) v (.ref s3.heap.objs.size)) (EP X pins σ Q) X.xe { s3 with heap:=s3.heap.push { cls:=.type "slice",data:=.fields #[vl,vu,.none] } }
 exact tail_any (ops:=[.ref s3.heap.objs.size,v]) ht hT hg (by with_unfolding_all rfl)
noncomputable def cutV (xs:List V) (lo hi:Option Int):List V:=(xs.drop (HT.sIx xs.length 0 lo)).take (HT.sIx xs.length xs.length hi - HT.sIx xs.length 0 lo)
theorem zao4 (xs:List V) (lo hi:Option Int):(cutV xs lo hi).length≤xs.length:=by
 unfold cutV
 rw [zbr9,zca0]
 lia
end
end L2
namespace L2
open PySem.Spec
noncomputable def ixN (n:Nat) (i:Int):Option Nat:=if 0≤i then (if i<n then some i.toNat else none) else if -(n:Int)≤i then some (i+n).toNat else none
noncomputable def atI {α:Type} (xs:List α) (i:Int):Option α:=(ixN xs.length i).bind fun j=>xs[j]?
theorem zao1 {n:Nat}{i:Int}{j:Nat} (h:ixN n i=some j):seqIndex? i n=some j∧j<n ∧ -(n:Int)≤i∧i<n:=by
 unfold ixN at h
 by_cases h0:0≤i
 ·rw [if_pos h0]at h
  by_cases h1:i<n
  ·rw [if_pos h1]at h
   have e:i.toNat=j:=Option.some.inj h
   exact⟨by rw [seqIndex_of h0 h1,e],by lia,by lia,h1⟩
  ·rw [if_neg h1]at h;cases h
 ·rw [if_neg h0]at h
  by_cases h1 : -(n:Int)≤i
  ·rw [if_pos h1]at h
   have e:(i+n).toNat=j:=Option.some.inj h
   exact⟨by rw [seqIndex_neg (by lia) h1,e],by lia,h1,by lia⟩
  ·rw [if_neg h1]at h;cases h
theorem zbj1 {α:Type}{xs:List α}{i:Int}{v:α} (h:atI xs i=some v):∃j,seqIndex? i xs.length=some j∧xs[j]?=some v∧j<xs.length ∧ -(xs.length:Int)≤i∧i<xs.length:=by
 unfold atI at h
 cases e:ixN xs.length i with
 |none=>rw [e]at h;cases h
 |some j =>
  rw [e]at h
  obtain⟨h1,h2,h3,h4⟩:=zao1 e
  exact⟨j,h1,h,h2,h3,h4⟩
noncomputable def zap2 (b:Expr):Prop := ∀o i,subscripted b false o i=operate [o,i] (getItem o i)
noncomputable def IxR (X:Cx) (r:R2):Prop :=
 ∀(value slice:Expr) (pins:List (Addr×Obj)) (s:zbk8) (σ:St) (H:Hp) (x y:V) (v u:Value) (Q:VK),Inv X pins σ H s→RelV x v→RelV y u→r x y H Q →
  subscripted slice false v u=operate [v,u] (getItem v u)→wpAny (model X.prog X.w) X.A (subscriptTail value slice v u) (EP X pins σ Q) X.xe s
noncomputable def MtR (X:Cx) (id:String) (r:V→List V→Hp→VK→Prop):Prop :=
 ∀(pins:List (Addr×Obj)) (s:zbk8) (σ:St) (H:Hp) (x:V) (xs:List V) (v:Value) (us:List Value) (Q:VK),Inv X pins σ H s→RelV x v→Vals xs us→r x xs H Q →
  wpAny (model X.prog X.w) X.A (call (.builtin id) (v::us)) (EP X pins σ Q) X.xe s
section
variable {X:Cx}{a b:Expr}{ta tb:TE}{pos:Pos}
theorem IxR.or {r r':R2} (h:IxR X r) (h':IxR X r'):IxR X (fun x y H Q=>r x y H Q∨r' x y H Q):=by
 intro value slice pins s σ H x y v u Q I rx ry q hs
 rcases q with q | q
 ·exact h value slice pins s σ H x y v u Q I rx ry q hs
 ·exact h' value slice pins s σ H x y v u Q I rx ry q hs
theorem pe_ix {r:R2} (hr:IxR X r) (ha:PE X a ta) (hb:PE X b tb) (hs:zap2 b):PE X (.Subscript a b pos) (tOp r ta tb):=by
 intro pins s σ H Q I h
 exact Subscript_ (binT ha hb I h fun v u s2 x y H2 I2 rx ry q=>hr a b pins s2 σ H2 x y v u Q I2 rx ry q (hs _ _))
noncomputable def rIxL (K:zbj6):R2:=fun x y H Q => ∃p xs i v,x=.ref p∧y=.int i∧SqL K H p xs∧atI xs i=some v∧Q v H
noncomputable def rIxT (K:zbj6):R2:=fun x y H Q => ∃p xs i v,x=.ref p∧y=.int i∧SqT K H p xs∧atI xs i=some v∧Q v H
theorem ix_list:IxR X (rIxL X.K):=by
 intro value slice pins s σ H x y v u Q I rx ry h hs
 obtain⟨p,xs,i,z,rfl,rfl,hq,he,q⟩:=h
 cases rx
 obtain⟨t,rfl⟩:=ry
 obtain⟨its,r,pl,hz⟩:=I.list hq
 obtain⟨j,h1,h2,h3,h4,h5⟩:=zbj1 he
 obtain⟨w,ew,rw'⟩:=r.get h2
 have hl:=r.length
 have hn:=zai7
 have fin:EP X pins σ Q w s:=⟨z,H,I,rw',q⟩
 by_cases h0:0≤i
 ·have hj:i.toNat=j:=by
   rw [seqIndex_of h0 h5]at h1
   exact Option.some.inj h1
  exact item_listR pl.isList h0 (by lia) (by rw [hj];simpa using ew) fin hs
 ·have hj:(i+(its.toArray.size:Int)).toNat=j:=by
   rw [seqIndex_neg (by lia) h4]at h1
   rw [zbl6, ← hl]
   exact Option.some.inj h1
  exact subscriptTail_builtinR (x:=w) pl.isList.typeIs slot_list_getitem.lookup
   (wpAny_getItem_list_neg (Q:=fun r s'=>r=w∧EP X pins σ Q r s') pl.isList (by lia) (by rw [zbl6]<;>lia) (by lia) (by rw [hj];simpa using ew) ⟨rfl,fin⟩) hs
theorem ix_tup:IxR X (rIxT X.K):=by
 intro value slice pins s σ H x y v u Q I rx ry h hs
 obtain⟨p,xs,i,z,rfl,rfl,hq,he,q⟩:=h
 cases rx
 obtain⟨t,rfl⟩:=ry
 obtain⟨its,r,pl,hz⟩:=I.tuple hq
 obtain⟨j,h1,h2,h3,h4,h5⟩:=zbj1 he
 obtain⟨w,ew,rw'⟩:=r.get h2
 have hl:=r.length
 have hn:=zai7
 have fin:EP X pins σ Q w s:=⟨z,H,I,rw',q⟩
 exact subscriptTail_builtinR (x:=w) pl.typeIs slot_tuple_getitem.lookup
  (getItem_tuple (j:=j) (Q:=fun r s'=>r=w∧EP X pins σ Q r s') pl (by lia) (by lia) (by rw [zbl6, ← hl];exact h1) (by simpa using ew) ⟨rfl,fin⟩) hs
theorem zaw3 (its:List Value) (n j:Nat) (u:Value):Obj.mapSeq (·.setIfInBounds j u) { cls:=.type "list",data:=.seq its.toArray n }={ cls:=.type "list",data:=.seq (its.set j u).toArray n }:=by
 simp [Obj.mapSeq]
theorem Inv.lst {pins:List (Addr×Obj)}{σ:St}{H:Hp}{s:zbk8}{p:Addr}{xs:List V} (I:Inv X pins σ H s) (h:H p=some (.lst xs)) :
  ∃(its:List Value) (n:Nat),Vals xs its∧s.heap.get? p=some { cls:=.type "list",data:=.seq its.toArray n }∧xs.length≤sizeLine:=by
 obtain⟨z,its,n,r,e⟩:=I.hok p _ h
 exact⟨its,n,r,e,z⟩
theorem Inv.lstUpd {pins:List (Addr×Obj)}{σ:St}{H:Hp}{s:zbk8}{p:Addr}{xs ys:List V}{its its':List Value}{n n':Nat}{f:Obj→Obj} (I:Inv X pins σ H s) (h:H p=some (.lst xs))
  (ho:s.heap.get? p=some { cls:=.type "list",data:=.seq its.toArray n }) (hf:f { cls:=.type "list",data:=.seq its.toArray n }={ cls:=.type "list",data:=.seq its'.toArray n' }) (r:Vals ys its') (hz:ys.length≤sizeLine) (t:Nat) :
  Inv X pins σ (upd H p (.lst ys)) { s with heap:=s.heap.update p f,toks:=t }:=by
 have e:(s.heap.update p f).get? p=some { cls:=.type "list",data:=.seq its'.toArray n' }:=by
  rw [zbo4 f ho (by rw [hf]<;>rfl),hf]
 refine I.write (x:=p) (e:=p) (by rw [h];trivial) (.inl rfl) (fun b u hb q=>(zbn5 _ _ (Ne.symm hb)).trans q) ⟨_,e⟩ ?_
 exact⟨hz,its',n',r,e⟩
noncomputable def rSetL:V→V→V→Hp→(Hp→Prop)→Prop:=fun o i v H Q => ∃p xs k j,o=.ref p∧i=.int k∧H p=some (.lst xs)∧ixN xs.length k=some j∧Q (upd H p (.lst (xs.set j v)))
theorem zaq5:PSet X rSetL:=by
 intro pins s σ H o i v ov iv u Q I ro ri rv h
 obtain⟨p,xs,k,j,rfl,rfl,hp,hj,q⟩:=h
 cases ro
 obtain⟨t,rfl⟩:=ri
 obtain⟨its,n,r,ho,hz⟩:=I.lst hp
 obtain⟨h1,h2,h3,h4⟩:=zao1 hj
 have hl:=r.length
 have hn:=zai7
 have I':Inv X pins σ (upd H p (.lst (xs.set j v))) { s with heap:=s.heap.update p (Obj.mapSeq (·.setIfInBounds j u)) } :=
  I.lstUpd hp ho (zaw3 its n j u) (r.set rv j) (by rw [zbv5];exact hz) s.toks
 by_cases h0:0≤k
 ·have hk:k.toNat=j:=by
   rw [seqIndex_of h0 h4]at h1
   exact Option.some.inj h1
  exact PySem.W.ki_setAt ho h0 (by lia) (by rw [zbl6, ← hl];exact h4) (by rw [hk];exact⟨_,I',q⟩)
 ·have hk:(k+(its.toArray.size:Int)).toNat=j:=by
   rw [seqIndex_neg (by lia) h3]at h1
   rw [zbl6, ← hl]
   exact Option.some.inj h1
  exact PySem.W.ki_setBack ho (by lia) (by rw [zbl6, ← hl];exact h3) (by lia) (by rw [hk];exact⟨_,I',q⟩)
theorem zag6 (lo hi:Option Int) (n:Nat):(sliceBounds lo hi none n).1=((HT.sIx n 0 lo:Nat):Int)∧(sliceBounds lo hi none n).2.1=((HT.sIx n n hi:Nat):Int)∧(sliceBounds lo hi none n).2.2=1:=by
 refine⟨?_,?_,rfl⟩
 ·cases lo with
  |none=>simp [sliceBounds,HT.sIx]
  |some i =>
   simp only [sliceBounds,HT.sIx,zcd8,show (1:Int) > 0 by decide,if_true]
   by_cases h:i<0
   ·simp only [h,if_true]<;>lia
   ·simp only [h,if_false]<;>lia
 ·cases hi with
  |none=>simp [sliceBounds,HT.sIx]
  |some i =>
   simp only [sliceBounds,HT.sIx,zcd8,show (1:Int) > 0 by decide,if_true]
   by_cases h:i<0
   ·simp only [h,if_true]<;>lia
   ·simp only [h,if_false]<;>lia
theorem zac8 (its:List Value) (lo hi:Option Int):slicePick its.toArray lo hi none=((its.drop (HT.sIx its.length 0 lo)).take (HT.sIx its.length its.length hi - HT.sIx its.length 0 lo)).toArray:=by
 obtain⟨h1,h2,h3⟩:=zag6 lo hi its.toArray.size
 unfold slicePick
 rw [h1,h2,h3]
 simp only [sliceRange_one,pick_run,zbl6]<;>rfl
noncomputable def rSlL (K:zbj6):V→Option Int→Option Int→Hp→VK→Prop:=fun x lo hi H Q => ∃a xs,x=.ref a∧SqL K H a xs∧∀p,H p=none→Q (.ref p) (upd H p (.lst (cutV xs lo hi)))
theorem zaz4:SlR X (rSlL X.K):=by
 intro pins s σ H x v vl vu lo hi sl Q I rx hs pl pu h
 obtain⟨a,xs,rfl,hx,q⟩:=h
 cases rx
 obtain⟨its,r,ht,hz⟩:=I.list hx
 have hlen:=r.length
 refine⟨"list",_,slot_list_getitem.lookup,ht.isList.typeIs,?_⟩
 refine wpAny_getItem_list_slice ht.isList hs pl pu .none (by simp) ?_ (by rw [zbl6]<;>lia)
 rw [zac8, ← hlen]
 refine⟨.ref s.heap.objs.size,_,I.laid (t':=s.toks) (o:=.lst (cutV xs lo hi)) (fun b ob q=>zbk0 _ q) (zbl3 _) ?_,rfl,q _ (I.hok.fresh (zbl3 _))⟩
 exact⟨zbq4 (zao4 xs lo hi) hz,_,0,(r.drop (HT.sIx xs.length 0 lo)).take (HT.sIx xs.length xs.length hi - HT.sIx xs.length 0 lo),zbl2 _ rfl⟩
noncomputable def zt9:V→Bool
 |.non=>true
 |.bl _=>true
 |.int _=>true
 |.str _=>true
 |_=>false
noncomputable def eqV:V→V→Bool
 |.non,.non=>true
 |.bl a,.bl b=>a == b
 |.bl a,.int b=>(if a then 1 else 0) == b
 |.int a,.bl b=>a ==(if b then 1 else 0)
 |.int a,.int b=>a == b
 |.str a,.str b=>a == b
 |_,_=>false
theorem zbf4 {A:Around}{s:zbk8}{y x:V}{u v:Value} (ry:RelV y u) (rx:RelV x v) (fy:zt9 y=true) (fx:zt9 x=true):SeqAt.EqAt A s u v (eqV y x):=by
 cases y with
 |non =>
  cases ry
  cases x with
  |non=>cases rx;exact SeqAt.EqAt.same _
  |bl b=>cases rx;exact SeqAt.EqAt.none_bool b
  |int b=>obtain⟨t,rfl⟩:=rx;exact SeqAt.EqAt.none_int b t
  |str b=>obtain⟨t,rfl⟩:=rx;exact SeqAt.EqAt.none_str b t
  |_=>exact absurd (show false=true from fx) zbl9
 |bl a =>
  cases ry
  cases x with
  |non=>cases rx;exact SeqAt.EqAt.bool_none a
  |bl b=>cases rx;exact SeqAt.EqAt.bool_bool a b
  |int b=>obtain⟨t,rfl⟩:=rx;exact SeqAt.EqAt.bool_int a b t
  |str b=>obtain⟨t,rfl⟩:=rx;exact SeqAt.EqAt.bool_str a b t
  |_=>exact absurd (show false=true from fx) zbl9
 |int a =>
  obtain⟨t',rfl⟩:=ry
  cases x with
  |non=>cases rx;exact SeqAt.EqAt.int_none a t'
  |bl b=>cases rx;exact SeqAt.EqAt.int_bool a t' b
  |int b=>obtain⟨t,rfl⟩:=rx;exact SeqAt.EqAt.int_int a t' b t
  |str b=>obtain⟨t,rfl⟩:=rx;exact SeqAt.EqAt.int_str a t' b t
  |_=>exact absurd (show false=true from fx) zbl9
 |str a =>
  obtain⟨t',rfl⟩:=ry
  cases x with
  |non=>cases rx;exact SeqAt.EqAt.str_none a t'
  |bl b=>cases rx;exact SeqAt.EqAt.str_bool a t' b
  |int b=>obtain⟨t,rfl⟩:=rx;exact SeqAt.EqAt.str_int a t' b t
  |str b=>obtain⟨t,rfl⟩:=rx;exact SeqAt.EqAt.str_str a t' b t
  |_=>exact absurd (show false=true from fx) zbl9
 |_=>exact absurd (show false=true from fy) zbl9
noncomputable def eqU (x:V) (u:Value):Bool:=match u with
 |.none=>eqV .non x
 |.bool b=>eqV (.bl b) x
 |.int i _=>eqV (.int i) x
 |.str z _=>eqV (.str z) x
 |_=>false
theorem eqU_of {x y:V}{u:Value} (r:RelV y u) (f:zt9 y=true):eqU x u=eqV y x:=by
 cases y with
 |non=>cases r;rfl
 |bl b=>cases r;rfl
 |int i=>obtain⟨t,rfl⟩:=r;rfl
 |str z=>obtain⟨t,rfl⟩:=r;rfl
 |_=>exact absurd (show false=true from f) zbl9
theorem zap0 {x:V}:∀ {xs:List V}{us:List Value},Vals xs us→xs.all zt9=true→us.any (eqU x)=xs.any fun y=>eqV y x
 |_,_,.nil,_=>rfl
 |y::xs,u::us,.cons r t,f=>by
  rw [zbo7,zbk7]at f
  rw [zbs1,zbs1,eqU_of r f.1,zap0 t f.2]
theorem zae3 {A:Around}{s:zbk8}{x:V}{v:Value} (rx:RelV x v) (fx:zt9 x=true):∀ {xs:List V}{us:List Value},Vals xs us→xs.all zt9=true→∀u∈us,SeqAt.EqAt A s u v (eqU x u)
 |_,_,.nil,_=>fun u hu=>by cases hu
 |y::xs,u::us,.cons r t,f=>fun u' hu=>by
  rw [zbo7,zbk7]at f
  rcases zbk5.mp hu with rfl | hu
  ·rw [eqU_of r f.1];exact zbf4 r rx f.1 fx
  ·exact zae3 rx fx t f.2 u' hu
noncomputable def inV (x:V) (xs:List V):Bool:=xs.any fun y=>eqV y x
noncomputable def rIn (K:zbj6) (neg:Bool):R2:=fun x y H Q => ∃p xs,y=.ref p∧(SqL K H p xs∨SqT K H p xs)∧zt9 x=true∧xs.all zt9=true∧Q (.bl (if neg then !inV x xs else inV x xs)) H
theorem zah8:OpR X (compareOp .In) (rIn X.K false):=by
 intro pins s σ H x y v u Q I rx ry h
 obtain⟨p,xs,rfl,hq,fx,fs,q⟩:=h
 cases ry
 rcases hq with hq | hq
 ·obtain⟨its,r,pl,hz⟩:=I.list hq
  refine SeqAt.in_listAt (eqU x) pl.isList (fun w hw=>zae3 rx fx r fs w (by simpa using hw)) ⟨.bl _,H,I,rfl,?_⟩
  rw [show its.toArray.any (eqU x)=its.any (eqU x) by simp,zap0 r fs]
  exact q
 ·obtain⟨its,r,pl,hz⟩:=I.tuple hq
  refine SeqAt.in_tupleAt (eqU x) pl (fun w hw=>zae3 rx fx r fs w (by simpa using hw)) ⟨.bl _,H,I,rfl,?_⟩
  rw [show its.toArray.any (eqU x)=its.any (eqU x) by simp,zap0 r fs]
  exact q
theorem zak3:zq7 X (.builtin "len") (fun xs H Q => ∃p ys,xs=[.ref p]∧(SqL X.K H p ys∨SqT X.K H p ys)∧Q (.int ys.length) H):=by
 intro pins s σ H xs us Q I r h
 obtain⟨p,ys,rfl,hq,q⟩:=h
 obtain⟨u,rfl,rx⟩:=zaf9 r
 cases rx
 have hn:=zai7
 rcases hq with hq | hq
 ·obtain⟨its,r',pl,hz⟩:=I.list hq
  have hlen:=r'.length
  exact Calls.call_len_list pl.isList (by simp only [zbl6]<;>lia) ⟨.int ys.length,H,I.tok _,⟨s.toks+1,by rw [zbl6,hlen]⟩,q⟩
 ·obtain⟨its,r',pl,hz⟩:=I.tuple hq
  have hlen:=r'.length
  exact len_tuple pl (by simp only [zbl6]<;>lia) ⟨.int ys.length,H,I.tok _,⟨s.toks+1,by rw [zbl6,hlen]⟩,q⟩
theorem zak2:zq7 X (.type "list") (fun xs H Q => ∃p ys,xs=[.ref p]∧(SqL X.K H p ys∨SqT X.K H p ys)∧∀l,H l=none→Q (.ref l) (upd H l (.lst ys))):=by
 intro pins s σ H xs us Q I r h
 obtain⟨p,ys,rfl,hq,q⟩:=h
 obtain⟨u,rfl,rx⟩:=zaf9 r
 cases rx
 have fin:∀(its:List Value),Vals ys its→ys.length≤sizeLine→∀(h':Heap) (c':Nat),(∀b o',s.heap.get? b=some o'→h'.get? b=some o') →
   h'.get? s.heap.objs.size=some { cls:=.type "list",dict:=none,data:=.seq its.toArray c',slots := #[] }→EP X pins σ Q (.ref s.heap.objs.size) { s with heap:=h' }:=fun its r' hz h' c' kp e =>
  ⟨.ref s.heap.objs.size,_,I.laid (t':=s.toks) kp (zbl3 _) (show ObjOk X.prog X.w _ h' _ (.lst ys) from ⟨hz,its,c',r',e⟩),rfl,q _ (I.hok.fresh (zbl3 _))⟩
 rcases hq with hq | hq
 ·obtain⟨its,r',pl,hz⟩:=I.list hq
  have hlen:=r'.length
  obtain⟨o,ho,hc,n,hd⟩:=pl.isList
  exact call_list_seq p (.inl rfl) ho hc hd (fun h' c' kp e=>fin its r' hz h' c' kp e) (by simp only [zbl6]<;>lia)
 ·obtain⟨its,r',pl,hz⟩:=I.tuple hq
  have hlen:=r'.length
  obtain⟨o,ho,hc,n,hd⟩:=pl
  exact call_list_seq p (.inr rfl) ho hc hd (fun h' c' kp e=>fin its r' hz h' c' kp e) (by simp only [zbl6]<;>lia)
noncomputable def tyV (K:zbj6) (T:String) (x:V) (H:Hp):Prop:=match x with
 |.str _=>T = "str"
 |.int _=>T = "int"
 |.ref p=>(T = "list"∧∃xs,SqL K H p xs)∨(T = "tuple"∧∃o,K.lookup p=some o∧o.cls=.type "tuple"∧o.dict=none) ∨
   (T = "dict"∧((∃kvs,H p=some (.dK kvs))∨∃kvs,H p=some (.dT kvs)))∨(T = "set"∧∃S n,H p=some (.set S n))
 |_=>False
theorem tyV_is {pins:List (Addr×Obj)}{σ:St}{H:Hp}{s:zbk8}{T:String}{x:V}{v:Value} (I:Inv X pins σ H s) (r:RelV x v) (ty:tyV X.K T x H) :
  s.TypeIs v T∧∀a,v=.ref a→∃ob,s.heap.get? a=some ob∧ob.dict=none:=by
 cases x with
 |str z =>
  obtain⟨t,rfl⟩:=r
  cases (show T = "str" from ty)
  exact⟨typeIs_str s z t,fun _ e=>nomatch e⟩
 |int i =>
  obtain⟨t,rfl⟩:=r
  cases (show T = "int" from ty)
  exact⟨typeIs_int s i t,fun _ e=>nomatch e⟩
 |ref p =>
  cases r
  rcases ty with ⟨rfl,xs,hq⟩ | ⟨rfl,o,hk,hc,hd⟩ | ⟨rfl,hk⟩ | ⟨rfl,S,n,hk⟩
  ·obtain⟨its,_,pl,_⟩:=I.list hq
   refine⟨pl.isList.typeIs,fun a e=>?_⟩
   cases e
   obtain⟨o,n,e,c,hd,_⟩:=pl
   exact⟨o,e,hd⟩
  ·refine⟨⟨o,I.kIn p o hk,hc⟩,fun a e=>?_⟩
   cases e
   exact⟨o,I.kIn _ o hk,hd⟩
  ·have z:∃o,s.heap.get? p=some o∧o.ExactDict:=by
    rcases hk with ⟨kvs,hk⟩ | ⟨kvs,hk⟩
    ·obtain⟨_,_,_,_,o,_,_,e,ex,_⟩:=I.hok p _ hk
     exact⟨o,e,ex⟩
    ·obtain⟨_,_,_,_,o,_,_,e,ex,_⟩:=I.hok p _ hk
     exact⟨o,e,ex⟩
   obtain⟨o,e,ex⟩:=z
   refine⟨⟨o,e,ex.1⟩,fun a e2=>?_⟩
   cases e2
   exact⟨o,e,ex.2.1⟩
  ·obtain⟨o,_,_,_,e,ex,_⟩:=I.hok p _ hk
   refine⟨⟨o,e,ex.1⟩,fun a e2=>?_⟩
   cases e2
   exact⟨o,e,ex.2.1⟩
 |_=>exact False.elim ty
noncomputable def tBM (K:zbj6) (T:String) (r:V→List V→Hp→VK→Prop) (to:TE) (t:TA):TE:=fun σ H Q=>to σ H fun x H1=>tyV K T x H1∧t σ H1 fun xs H2=>r x xs H2 Q
variable {o e:Expr}{es:List Expr}{to:TE}{t:TA}{name:Str}{apos cpos:Pos}{T id:String}{r:V→List V→Hp→VK→Prop}
theorem pe_bm (pa:PlainAttrs T) (slot:Slot T name id) (hty:typeOf (.builtin id)=pure (.type "method_descriptor")) (hm:MtR X id r) (ho:PE X o to) (ha:PA X (e::es) t)
  (hbase:attributeBase o name X.env (eval o X.env)=eval o X.env:=by rfl)
  (hfew:((zbt6 cpos (zbm0 (e::es) X.env)).all (fun x=>!x.1)&&(backToKw cpos (keywordEach [] X.env)).all (fun x=>x.1.isSome)
   && decide ((e::es).length+([]:List Keyword).length+(if ([]:List Keyword).isEmpty then 0 else 1)<30))=true:=by rfl)
  (hline:(apos.endLine == cpos.line)=true:=by rfl) (hs:zbm0 (e::es) X.env=(false,eval e X.env)::zbm0 es X.env:=by rfl) (hplain:(zbt6 cpos (zbm0 es X.env)).any (·.1)=false:=by rfl) :
  PE X (.Call (.Attribute o name apos) (e::es) [] cpos) (tBM X.K T r to t):=by
 intro pins s σ H Q I h
 refine wpAny_Call_method_late hbase hfew hline rfl (thn (ho pins s σ H _ I h) fun v s1 ⟨x,H1,I1,r1,ty,q1⟩=>?_)
 obtain⟨h1,h2⟩:=tyV_is I1 r1 ty
 refine⟨T,id,pa,slot,hty,h1,h2,?_⟩
 have hA:=ha cpos pins s1 σ H1 _ I1 q1
 rw [hs]at hA ⊢
 refine Calls.callWith_builtin (by show (false||(zbt6 cpos (zbm0 es X.env)).any (·.1))=false;rw [hplain]<;>rfl) (Calls.evalArgs_plain ?_)
 exact thn hA fun us s2 ⟨vs,H2,I2,r2,q2⟩=>hm pins s2 σ H2 x vs v us Q I2 r1 r2 q2
end
end L2
namespace L2
open PySem.Spec
noncomputable def MtM (X:Cx) (id:String) (r:V→List V→Hp→VK→Prop):Prop :=
 ∀(pins:List (Addr×Obj)) (s:zbk8) (σ:St) (H:Hp) (x:V) (xs:List V) (v:Value) (us:List Value) (Q:VK),Inv X pins σ H s→RelV x v→Vals xs us→r x xs H Q →
  wpAny (model X.prog X.w) X.A (call (.builtin id) (v::us)) (EP X pins σ Q) X.xe s
theorem Vals.one:∀ {x:V}{us:List Value},Vals [x] us→∃u,us=[u]∧RelV x u
 |_,_,.cons r .nil=>⟨_,rfl,r⟩
theorem Vals.two:∀ {x y:V}{us:List Value},Vals [x,y] us→∃u v,us=[u,v]∧RelV x u∧RelV y v
 |_,_,_,.cons r (.cons q .nil)=>⟨_,_,rfl,r,q⟩
theorem Vals.eraseIdx:∀ {xs:List V}{us:List Value} (i:Nat),Vals xs us→Vals (xs.eraseIdx i) (us.eraseIdx i)
 |_,_,_,.nil=>.nil
 |_,_,0,.cons _ t=>t
 |_,_,i+1,.cons r t=>.cons r (Vals.eraseIdx i t)
theorem Vals.rep {xs:List V}{us:List Value} (h:Vals xs us):∀k:Nat,Vals (zbl4 k xs).flatten (zbl4 k us).flatten
 |0=>.nil
 |k+1=>by
  rw [zbp4,zbp4,zbq2,zbq2]
  exact Vals.append h (Vals.rep h k)
theorem zai9 {α:Type}:∀(l:List α) (i:Nat),(l.eraseIdx i).length≤l.length
 |[],_=>zbl3 _
 |_::_,0=>zbw3 _
 |_::r,i+1=>Nat.succ_le_succ (zai9 r i)
theorem zaj5 (its:List Value):∀(k:Nat) (acc:List Value),
  zci2 (fun x1 x2=>x1++x2) acc.toArray (zbl4 k its.toArray)=(acc++(zbl4 k its).flatten).toArray
 |0,acc=>by simp
 |k+1,acc=>by
  have e:acc.toArray++its.toArray=(acc++its).toArray:=by simp
  have e2:(acc++its)++(zbl4 k its).flatten=acc++(zbl4 (k+1) its).flatten:=by
   rw [zbp4,zbq2,zbk9]
  rw [← e2, ← zaj5 its k (acc++its), ← e,zbp4,zbt7]
section
variable {X:Cx}{pins:List (Addr×Obj)}{σ:St}{H:Hp}{s:zbk8}{l b:Addr}{xs ys zs:List V}
theorem Inv.lset {its its':List Value}{n:Nat}{f:Array Value→Array Value}{t':Nat} (I:Inv X pins σ H s) (hH:H l=some (.lst xs))
  (e:s.heap.get? l=some { cls:=.type "list",data:=.seq its.toArray n }) (hf:f its.toArray=its'.toArray) (hv:Vals ys its') (hz:ys.length≤sizeLine) :
  Inv X pins σ (upd H l (.lst ys)) { s with heap:=s.heap.update l (Obj.mapSeq f),toks:=t' }:=by
 have q:=PySem.IsL.update e f
 rw [hf]at q
 refine I.write (x:=l) (e:=l) (by rw [hH];exact trivial) (.inl rfl) (fun b' u hb hu=>(zbn5 s.heap (Obj.mapSeq f) (Ne.symm hb)).trans hu) ⟨_,q⟩ ?_
 exact⟨hz,its',_,hv,q⟩
theorem Inv.lnew {its:List Value}{t':Nat} (I:Inv X pins σ H s) (hv:Vals ys its) (hz:ys.length≤sizeLine) :
  Inv X pins σ (upd H s.heap.objs.size (.lst ys)) { s with heap:=s.heap.push { cls:=.type "list",data:=.seq its.toArray },toks:=t' } :=
 I.laid (fun _ _ q=>zbk0 _ q) (zbl3 _) ⟨hz,its,0,hv,zbl2 _ rfl⟩
theorem Inv.fresh (I:Inv X pins σ H s):H s.heap.objs.size=none:=I.hok.fresh (zbl3 _)
theorem Inv.lstM (I:Inv X pins σ H s) (hH:H l=some (.lst xs)):xs.length≤sizeLine∧∃(its:List Value) (n:Nat),Vals xs its∧xs.length=its.length∧s.heap.get? l=some { cls:=.type "list",data:=.seq its.toArray n }:=by
 obtain⟨z,its,n,r,e⟩:=I.hok l _ hH
 exact⟨z,its,n,r,r.length,e⟩
theorem notLongL {n:Nat} (h:n≤sizeLine):Builtin.List.listTooLong n=false:=by
 unfold Builtin.List.listTooLong
 exact decide_eq_false (by lia)
end
section
variable {X:Cx}
noncomputable def rAppend:V→List V→Hp→VK→Prop:=fun x vs H Q => ∃l xs y,x=.ref l∧vs=[y]∧H l=some (.lst xs)∧xs.length<sizeLine∧Q .non (upd H l (.lst (xs++[y])))
theorem zx8:MtM X "list.append" rAppend:=by
 intro pins s σ H x vs v us Q I rx rv h
 obtain⟨l,xs,y,rfl,rfl,hH,hz,q⟩:=h
 cases rx
 obtain⟨u,rfl,ru⟩:=rv.one
 obtain⟨z,its,n,r,hl,e⟩:=I.lstM hH
 refine call_meets F.slot_list_append ⟨_,e,rfl⟩ F.entry_list_append (F.args_list_append_2 _ _) (PySem.list_append l its.toArray n u (by rw [zbl6];lia)) ⟨e,?_⟩
 refine⟨.non,_,I.lset (its':=its++[u]) hH e (by simp) (r.append (.cons ru .nil)) ?_,rfl,q⟩
 rw [zbo5,zbw0]
 lia
noncomputable def rPopAt:V→List V→Hp→VK→Prop:=fun x vs H Q => ∃l xs i k y,x=.ref l∧vs=[.int i]∧H l=some (.lst xs) ∧ -(2 ^ 63)≤i∧i<2 ^ 63∧seqIndex? i xs.length=some k∧xs[k]?=some y∧Q y (upd H l (.lst (xs.eraseIdx k)))
theorem mt_popAt:MtM X "list.pop" rPopAt:=by
 intro pins s σ H x vs v us Q I rx rv h
 obtain⟨l,xs,i,k,y,rfl,rfl,hH,h1,h2,hk,hy,q⟩:=h
 cases rx
 obtain⟨u,rfl,ru⟩:=rv.one
 obtain⟨t,rfl⟩:=ru
 obtain⟨z,its,n,r,hl,e⟩:=I.lstM hH
 obtain⟨w,hw,rw'⟩:=r.get hy
 refine call_meets F.slot_list_pop ⟨_,e,rfl⟩ F.entry_list_pop (F.args_list_pop_2 _ _)
  (MeetsSeq.list_pop_at l its.toArray n i t k w (fitsIndex_both h1 h2) (by rw [zbl6, ← hl];exact hk) (by rw [← zbm1];exact hw) (by rw [zbl6];lia)) ⟨e,?_⟩
 refine⟨y,_,I.lset (its':=its.eraseIdx k) hH e ?_ (r.eraseIdx k) ?_,rw',q⟩
 ·show its.toArray.eraseIdxIfInBounds k=(its.eraseIdx k).toArray
  rw [List.eraseIdxIfInBounds_toArray]
 ·have:=zai9 xs k
  lia
noncomputable def rRep:R2:=fun x y H Q => ∃l k xs,x=.ref l∧y=.int k∧H l=some (.lst xs) ∧ -(2 ^ 63)≤k∧k<2 ^ 63∧xs.length*k.toNat≤sizeLine ∧
 ∀p,H p=none→Q (.ref p) (upd H p (.lst (zbl4 k.toNat xs).flatten))
theorem len_rep {α:Type} (xs:List α) (k:Nat):(zbl4 k xs).flatten.length=k*xs.length:=by
 induction k with
 |zero=>simp
 |succ k ih=>rw [zbp4,zbq2,zbo5,ih,Nat.succ_mul,Nat.add_comm]
theorem op_rep:OpR X (binaryOp .Mult) rRep:=by
 intro pins s σ H x y v u Q I rx ry h
 obtain⟨l,k,xs,rfl,rfl,hH,h1,h2,hz,q⟩:=h
 cases rx
 obtain⟨t,rfl⟩:=ry
 obtain⟨z,its,n,r,hl,e⟩:=I.lstM hH
 have hlen:its.toArray.size*k.toNat≤sizeLine:=by rw [zbl6, ← hl];exact hz
 have hcap : ¬ its.toArray.size*k.toNat >(2 ^ 63 - 1) / 8:=by
  have:(sizeLine:Nat)≤(2 ^ 63 - 1) / 8:=by decide
  lia
 have hfit : ¬ (!Builtin.List.listFitsIndex k)=true:=by
  rw [fitsIndex_both h1 h2]
  exact zbl9
 have hlong : ¬ Builtin.List.listTooLong (its.toArray.size*k.toNat)=true:=by
  rw [notLongL hlen]
  exact zbl9
 have hnew:zci2 (fun x1 x2=>x1++x2) #[] (zbl4 (if its.toArray.isEmpty=true then 0 else k.toNat) its.toArray)=(zbl4 k.toNat its).flatten.toArray:=by
  have f0:∀m:Nat,zci2 (fun x1 x2=>x1++x2) #[] (zbl4 m its.toArray)=(zbl4 m its).flatten.toArray:=fun m=>by
   have:=zaj5 its m []
   rw [zbv6]at this
   exact this
  rw [f0]
  cases its with
  |nil=>simp
  |cons a r'=>rw [if_neg (by simp)]
 refine wpAny_binaryOp_repeat_ref (T := "list") (U := "int") (by decide) ⟨_,e,rfl⟩ (fun s'=>typeIs_int s' k t) noFill_list_mul F.fills_int_mul F.slot_int_rmul repeat_list F.slot_int_index.lookup
  (call_meets F.slot_int_rmul (typeIs_int s k t) F.entry_int_rmul (F.args_int_rmul_2 _ _) (int___rmul___int_list k t l its.toArray n)
   ⟨e,rfl,⟨_,e,rfl⟩,call_meets F.slot_list_mul ⟨_,e,rfl⟩ F.entry_list_mul (F.args_list_mul_2 _ _) (AutoListH.list___mul___list_int_3 l its.toArray n k t hfit hcap hlong) ⟨e,?_⟩⟩)
 rw [hnew]
 exact⟨.ref _,_,I.lnew (t':=s.toks) (r.rep k.toNat) (by rw [len_rep,Nat.mul_comm];exact hz),rfl,q _ I.fresh⟩
end
end L2
namespace Att
open PySem.W PySem.Calls
theorem zy2 {P:Params}{h:Heap}:∀(ns:List Int) (vs:List Value),WellAll P h vs (ns.map WData.int)→IntsAre vs ns:=by
 intro ns
 induction ns with
 |nil =>
  intro vs w
  rw [zcb3]at w
  cases w
  exact .nil
 |cons n ns ih =>
  intro vs w
  rw [zbl8]at w
  cases w with
  |cons a b =>
   cases a
   exact .cons _ _ (ih _ b)
theorem script_of {l:OpenLaw}{n:Nat} (hn:l.most=some n) {P:Params}{h:Heap}{args:List WData}{vals:List Value}
  (hpre:l.row.toRowW.claim.pre args=true) (hwl:WellAll P h vals args) :
  ∃a vs ns,vals=[Value.ref a]∧args=[WData.list (ns.map WData.int)]∧h.get? a=some { cls:=.type "list",data:=.seq vs.toArray }∧IntsAre vs ns∧ns.length≤n:=by
 have hsh:WShape.hasAll [] args [.list .int]=true:=(pre_splitW hpre).1
 have hc:l.pre.holds [] { args:=args }=true:=(pre_splitW hpre).2
 obtain⟨d,r,rfl,h1,h2⟩:=hasAllW_cons hsh
 obtain rfl:=hasAllW_nil h2
 obtain⟨xs,rfl,h3⟩:=hasW_list h1
 obtain⟨ns,rfl⟩:=items_int h3
 have hlen:ns.length≤n:=by
  unfold OpenLaw.pre at hc
  have h4:(WTm.not (.lt (.lit (.int (n:Int))) (.len (.arg 0)))).holds [] { args:=[.list (ns.map .int)] }=true:=by
   have h4:=(holds_andW hc).1
   rw [hn]at h4
   exact h4
  have h5:=condW_of h4 (w_not (w_lt w_lit (w_len_list (w_arg rfl))))
  rw [zbm6]at h5
  refine Nat.le_of_not_lt fun q=>?_
  have q':(n:Int)<((ns.length:Nat):Int):=by lia
  first
   |(rw [decide_eq_true q']at h5;exact absurd h5 (by decide))
   |(simp at h5;lia)
 cases hwl with
 |cons w1 w2 =>
  cases w2
  cases w1 with
  |list ho hall=>exact⟨_,_,ns,rfl,rfl,ho,zy2 ns _ hall,hlen⟩
theorem post_true (l:OpenLaw) (args:List WData):l.row.toRowW.claim.post args (.bool true) args=true :=
 postW_of (r:=l.row.toRowW) (X:=(true == true))
  (show WShape.has [] (.bool true) .bool=true by first | rfl | decide | simp [WShape.has,WShape.arms,WShape.armsAll])
  (show (WTm.eq .res (.lit (.bool true))).value [] { args:=args,res:=some (.bool true),after:=args }=some (.bool (true == true)) from w_eq_bool (w_res rfl) w_lit) rfl
end Att
namespace L2
open PySem.Spec
theorem zx0:∀ {vs:List Value}{ns:List Int},IntsAre vs ns→Vals (ns.map V.int) vs
 |_,_,.nil=>.nil
 |_,_,.cons n t h=>.cons ⟨t,rfl⟩ (zx0 h)
noncomputable def zl5 (s:Stmt):Arguments:=match s with
 |.FunctionDef _ a _ _ _ _ _ _ _ _=>a
 |_=>{ posonlyargs:=[],args:=[],vararg:=none,kwonlyargs:=[],kw_defaults:=[],kwarg:=none,defaults:=[] }
noncomputable def zi5 (s:Stmt):List Stmt:=match s with
 |.FunctionDef _ _ b _ _ _ _ _ _ _=>b
 |_=>[]
noncomputable def zb8 (s:Stmt):Scope:=match s with
 |.FunctionDef _ _ _ _ _ _ sc _ _ _=>sc
 |_=>{ kind:=.function,names:=[],isGenerator:=false,isCoroutine:=false }
noncomputable abbrev CX0:CXT:=fun _ _ _ _ _ _=>False
noncomputable abbrev E0:XK:=fun _ _ _=>False
theorem pass0 {X:Cx}:zbj4 CX0 X E0:=fun _ _ _ _ _ _ _ h=>h.elim
structure Fun (K:zbj6) (x qual:Str) (st:Stmt) (f:Addr) (fd:FuncData):Prop where
 ex:∃(oc:Value) (od:Option Addr) (kV doc pm:Value) (an:Option Addr) (cdv ct:Value) (osl:Array (Option Value)),
  fd=zbr2 x qual (zl5 st) (zi5 st) (zb8 st) .none kV doc pm an cdv ct∧K.lookup f=some ⟨oc,od,.func fd,osl⟩∧zby4 K cdv qual=true
 kp:zbq7 K (.ref f)=true
section
variable {P:Program}{w:World}{K:zbj6}{mg:Str→Option Value}{base:BHeap}
theorem Fun.ok {x qual:Str}{st:Stmt}{f:Addr}{fd:FuncData}{N ps:List Str}{k:Nat}{sp:Sp} (F:Fun K x qual st f fd) (S:FnScope N ps (zb8 st)) (len:∀vs H Q E,sp vs H Q E→vs.length=ps.length)
  (hbody:∀(cdv:Value) (A:Around) (outer:List Env) (s:zbk8) (H:Hp) (vs:List V) (Q:VK) (E:XK),Room k (A.deeper (envOfC qual (zb8 st) s.heap.objs.size f cdv))→sp vs H Q E →
   ∃t,PSs (cxOf CX0 P w K mg base N qual (zb8 st) f cdv A outer s H E).nox (zi5 st) t∧t { nx:=fun _ H'=>Q .non H',rt:=Q } (start N vs) H):FnOk P w K mg base CX0 (k+1) f fd ps sp:=by
 obtain⟨oc,od,kV,doc,pm,an,cdv,ct,osl,rfl,lk,hcd⟩:=F.ex
 refine fn_of lk hcd S len fun A outer s H vs Q E hr hsp=>?_
 obtain⟨t,h,q⟩:=hbody cdv A outer s H vs Q E hr hsp
 exact⟨t,h.nox,q⟩
theorem Fun.binds {x qual:Str}{st:Stmt}{f:Addr}{fd:FuncData}{ps:List Str} (F:Fun K x qual st f fd)
  (h:∀(kV doc pm:Value) (an:Option Addr) (cdv ct:Value) (us:List Value),us.length=ps.length→bindArgs (zbr2 x qual (zl5 st) (zi5 st) (zb8 st) .none kV doc pm an cdv ct) ⟨us,[]⟩=pure (ps.zip us)):Binds K fd ps []:=by
 obtain⟨oc,od,kV,doc,pm,an,cdv,ct,osl,rfl,lk,hcd⟩:=F.ex
 exact .all (h kV doc pm an cdv ct)
theorem fun_mk {x qual:Str}{st:Stmt}{f:Addr}{oc:Value}{od an:Option Addr}{osl:Array (Option Value)}{kV doc pm cdv ct:Value} (l:K.lookup f=some ⟨oc,od,.func (zbr2 x qual (zl5 st) (zi5 st) (zb8 st) .none kV doc pm an cdv ct),osl⟩)
  (c:zby4 K cdv qual=true) (k:zbq7 K (.ref f)=true):Fun K x qual st f (zbr2 x qual (zl5 st) (zi5 st) (zb8 st) .none kV doc pm an cdv ct):=⟨⟨oc,od,kV,doc,pm,an,cdv,ct,osl,rfl,l,c⟩,k⟩
end
theorem iteF {A B:Prop} (h:B):if false=true then A else B:=by
 rw [if_neg zbl9]
 exact h
theorem iteT {A B:Prop} (h:A):if true=true then A else B:=by
 rw [if_pos rfl]
 exact h
noncomputable def Same (H H':Hp):Prop := ∀b o,H b=some o→H' b=some o
theorem Same.refl (H:Hp):Same H H:=fun _ _ h=>h
theorem Same.trans {H H1 H2:Hp} (a:Same H H1) (b:Same H1 H2):Same H H2:=fun c o h=>b c o (a c o h)
theorem Same.free {H H':Hp} (e:Same H H') {l:Addr} (h:H' l=Option.none):H l=Option.none:=by
 cases q:H l with
 |none=>rfl
 |some o =>
  rw [e l o q]at h
  cases h
theorem Same.seq {K:zbj6}{H H':Hp}{a:Addr}{xs:List V} (e:Same H H') (h:SqL K H a xs):SqL K H' a xs:=by
 rcases h with (h | ⟨o,h⟩) |h
 ·exact .inl (.inl (e _ _ h))
 ·exact .inl (.inr ⟨o,e _ _ h⟩)
 ·exact .inr h
end L2
set_option maxHeartbeats 4000000
namespace L2
open PySem.Spec
section
variable {κ:Type} [DecidableEq κ]
noncomputable def valV (kvs:List (κ×V)) (k:κ):Option V:=(kvs.find? fun kv=>decide (kv.1=k)).map (·.2)
noncomputable def putK (kvs:List (κ×V)) (k:κ) (v:V):List (κ×V) :=
 if (kvs.any fun kv=>decide (kv.1=k))=true then kvs.map (fun kv=>if kv.1=k then (kv.1,v) else kv) else kvs++[(k,v)]
noncomputable def dropK (kvs:List (κ×V)) (k:κ):List (κ×V):=kvs.filter fun kv=>decide (kv.1≠k)
theorem zac6 {p:κ×V}{r:List (κ×V)}{k:κ} (e:p.1=k):valV (p::r) k=some p.2:=by simp [valV,zbt8,e]
theorem zac7 {p:κ×V}{r:List (κ×V)}{k:κ} (e : ¬ p.1=k):valV (p::r) k=valV r k:=by simp [valV,zbt8,e]
theorem zap9 (k:κ):∀kvs:List (κ×V),(kvs.any fun kv=>decide (kv.1=k))=(valV kvs k).isSome
 |[]=>rfl
 |p::r=>by
  rw [zbs1]
  by_cases e:p.1=k
  ·simp only [zac6 e,decide_eq_true e,zby5,zcc4]
  ·rw [zac7 e,decide_eq_false e,zca1];exact zap9 k r
theorem zx9 (kvs:List (κ×V)) (k:κ) (v:V):(putK kvs k v).length≤kvs.length+1:=by
 unfold putK
 split
 ·rw [zbm6];lia
 ·rw [zbo5,zbo6,zbx4];lia
theorem RelO.isSome_eq {o:Option V}{u:Option Value} (r:RelO o u):o.isSome=u.isSome:=by
 cases o with
 |none=>cases u with
  |none=>rfl
  |some _=>exact (show False from r).elim
 |some _=>cases u with
  |none=>exact (show False from r).elim
  |some _=>rfl
theorem RelO.getD {o:Option V}{u:Option Value}{d:V}{d':Value} (r:RelO o u) (rd:RelV d d'):RelV (o.getD d) (u.getD d'):=by
 cases o with
 |none=>cases u with
  |none=>exact rd
  |some _=>exact (show False from r).elim
 |some _=>cases u with
  |none=>exact (show False from r).elim
  |some _=>exact r
theorem KV.val {kvs:List (κ×V)}{vs:List (κ×Value)} (r:KV kvs vs) (k:κ):RelO (valV kvs k) (valueAt vs k):=by
 unfold KV at r
 induction r with
 |nil=>exact True.intro
 |@cons p q ps qs h t ih =>
  obtain⟨h1,h2⟩:=h
  by_cases e:p.1=k
  ·have e':q.1=k:=h1.symm.trans e
   have b:valueAt (q::qs) k=some q.2:=by simp [valueAt,zbt8,e']
   rw [zac6 e,b];exact h2
  ·have e' : ¬ q.1=k:=fun z=>e (h1.trans z)
   have b:valueAt (q::qs) k=valueAt qs k:=by simp [valueAt,zbt8,e']
   rw [zac7 e,b];exact ih
theorem KV.any {kvs:List (κ×V)}{vs:List (κ×Value)} (r:KV kvs vs) (k:κ):(kvs.any fun kv=>decide (kv.1=k))=vs.any fun kv=>decide (kv.1=k):=by
 unfold KV at r
 induction r with
 |nil=>rfl
 |cons h t ih=>rw [zbs1,zbs1,ih,h.1]
theorem KV.repl {kvs:List (κ×V)}{vs:List (κ×Value)} (r:KV kvs vs) (k:κ) {y:V}{u:Value} (ry:RelV y u) :
  KV (kvs.map fun kv=>if kv.1=k then (kv.1,y) else kv) (vs.map fun kv=>if kv.1=k then (kv.1,u) else kv):=by
 unfold KV at r ⊢
 induction r with
 |nil=>exact .nil
 |@cons p q ps qs h t ih =>
  rw [zbl8,zbl8]
  refine .cons ?_ ih
  obtain⟨h1,h2⟩:=h
  by_cases e:p.1=k
  ·rw [if_pos e,if_pos (h1.symm.trans e)];exact⟨h1,ry⟩
  ·rw [if_neg e,if_neg (fun z=>e (h1.trans z))];exact⟨h1,h2⟩
theorem KV.put {kvs:List (κ×V)}{vs:List (κ×Value)} (r:KV kvs vs) (k:κ) {y:V}{u:Value} (ry:RelV y u):KV (putK kvs k y) (stored vs k u):=by
 unfold putK stored
 rw [r.any k]
 by_cases e:(vs.any fun kv=>decide (kv.1=k))=true
 ·rw [if_pos e,if_pos e];exact r.repl k ry
 ·rw [if_neg e,if_neg e];exact Paired.snoc r ⟨rfl,ry⟩
theorem KV.drop {kvs:List (κ×V)}{vs:List (κ×Value)} (r:KV kvs vs) (k:κ):KV (dropK kvs k) (without vs k):=by
 unfold KV at r ⊢
 unfold dropK without
 induction r with
 |nil=>exact .nil
 |@cons p q ps qs h t ih =>
  obtain⟨h1,h2⟩:=h
  rw [zcd9,zcd9]
  by_cases e:p.1=k
  ·have a : ¬ decide (p.1≠k)=true:=by simp [e]
   have b : ¬ decide (q.1≠k)=true:=by simp [h1.symm.trans e]
   rw [if_neg a,if_neg b];exact ih
  ·have e' : ¬ q.1=k:=fun z=>e (h1.trans z)
   have a:decide (p.1≠k)=true:=by simp [e]
   have b:decide (q.1≠k)=true:=by simp [e']
   rw [if_pos a,if_pos b];exact .cons ⟨h1,h2⟩ ih
theorem KV.length {kvs:List (κ×V)}{vs:List (κ×Value)} (r:KV kvs vs):kvs.length=vs.length:=Paired.length r
end
theorem kV_is {P:Program}{w:World}{k:Key}{u:Value} (r:RelV (kV k) u):(zg4 P w).is k u=true:=by
 cases k with
 |inl i=>obtain⟨t,e⟩:=(show ∃t,u=Value.int i t from r);subst e;exact zan6 P w i t
 |inr x=>obtain⟨t,e⟩:=(show ∃t,u=Value.str x t from r);subst e;exact zan5 P w x t
theorem zaj2 {P:Program}{w:World}:∀ {ks:List Key}{us:List Value},Vals (ks.map kV) us→ItemsAre (zg4 P w) ks us
 |[],_,r=>by rw [zcb3]at r;cases r;exact .nil
 |k::ks,_,r=>by
  rw [zbl8]at r
  cases r with
  |cons h t=>exact .cons (kV_is h) (zaj2 t)
noncomputable abbrev KT (H:Hp):List (List Key×V)→List (List Key×Addr×Value)→Prop:=Paired fun p q=>p.1=q.1∧H q.2.1=some (.tup (p.1.map kV))∧RelV p.2 q.2.2
theorem KT.val {H:Hp}{kvs:List (List Key×V)}{xs:List (List Key×Addr×Value)} (r:KT H kvs xs) (k:List Key):RelO (valV kvs k) ((atKey xs k).map (·.2)):=by
 induction r with
 |nil=>exact True.intro
 |@cons p q ps qs h t ih =>
  obtain⟨h1,_,h2⟩:=h
  by_cases e:p.1=k
  ·have e':q.1=k:=h1.symm.trans e
   have b:atKey (q::qs) k=some q.2:=by simp [atKey,zbt8,e']
   rw [zac6 e,b];exact h2
  ·have e' : ¬ q.1=k:=fun z=>e (h1.trans z)
   have b:atKey (q::qs) k=atKey qs k:=by simp [atKey,zbt8,e']
   rw [zac7 e,b];exact ih
theorem KT.repl {H:Hp}{kvs:List (List Key×V)}{xs:List (List Key×Addr×Value)} (r:KT H kvs xs) (k:List Key) {y:V}{u:Value} (ry:RelV y u) :
  KT H (kvs.map fun kv=>if kv.1=k then (kv.1,y) else kv) (xs.map (putAt k u)):=by
 induction r with
 |nil=>exact .nil
 |@cons p q ps qs h t ih =>
  rw [zbl8,zbl8]
  refine .cons ?_ ih
  obtain⟨h1,h2,h3⟩:=h
  unfold putAt
  by_cases e:p.1=k
  ·rw [if_pos e,if_pos (h1.symm.trans e)];exact⟨h1,h2,ry⟩
  ·rw [if_neg e,if_neg (fun z=>e (h1.trans z))];exact⟨h1,h2,h3⟩
theorem KT.put {H:Hp}{kvs:List (List Key×V)}{xs:List (List Key×Addr×Value)} (r:KT H kvs xs) (k:List Key) {b:Addr}{y:V}{u:Value} (hb:H b=some (.tup (k.map kV))) (ry:RelV y u) :
  KT H (putK kvs k y) (storedH xs k b u):=by
 have e:(kvs.any fun kv=>decide (kv.1=k))=(atKey xs k).isSome:=by
  rw [zap9,(r.val k).isSome_eq,Option.isSome_map]
 unfold putK storedH
 rw [e]
 by_cases q:(atKey xs k).isSome=true
 ·rw [if_pos q,if_pos q];exact r.repl k ry
 ·rw [if_neg q,if_neg q];exact Paired.snoc r ⟨rfl,hb,ry⟩
theorem KT.keeps {H H':Hp}{kvs:List (List Key×V)}{xs:List (List Key×Addr×Value)} (r:KT H kvs xs) (ht:∀b ys,H b=some (.tup ys)→H' b=some (.tup ys)):KT H' kvs xs :=
 Paired.mapP r fun _ _ z=>⟨z.1,ht _ _ z.2.1,z.2.2⟩
section
variable {P:Program}{w:World}{H:Hp}{h:Heap}{a:Addr}
theorem rd_of {u:HO} (ok:HOk P w H h) (e:Rd H a u):ObjOk P w H h a u:=e.ok ok
theorem dk_rd {kvs:List (Key×V)} (ok:HOk P w H h) (e:Rd H a (.dK kvs)):kvs.length≤sizeLine∧(a == sysModules)=false∧∃vs,KV kvs vs∧h.DictOf (zg4 P w) a vs :=
 show ObjOk P w H h a (.dK kvs) from rd_of ok e
theorem dk_of {kvs:List (Key×V)} (ok:HOk P w H h) (e:H a=some (.dK kvs)):kvs.length≤sizeLine∧(a == sysModules)=false∧∃vs,KV kvs vs∧h.DictOf (zg4 P w) a vs:=dk_rd ok (.inl e)
theorem key_of {ks:List Key} (ok:HOk P w H h) (e:H a=some (.tup (ks.map kV))):(tupleKind (zg4 P w)).is h ks a:=by
 obtain⟨_,its,r,o,h1,h2,n,h3⟩:=(show ObjOk P w H h a (.tup (ks.map kV)) from ok a _ e)
 exact⟨o,its.toArray,n,h1,h2,h3,by simpa using zaj2 r⟩
theorem dt_rd {kvs:List (List Key×V)} (ok:HOk P w H h) (e:Rd H a (.dT kvs)):kvs.length≤sizeLine∧(a == sysModules)=false ∧
  ∃xs,KT H kvs xs∧h.DictOfH (tupleKind (zg4 P w)) a xs:=by
 obtain⟨z,y,xs,r,o,es,ep,h1,h2,h3,h4,h5⟩:=(show ObjOk P w H h a (.dT kvs) from rd_of ok e)
 refine⟨z,y,xs,r,o,es,ep,h1,h2,h3,h4,fun x hx=>?_,h5⟩
 have all:∀ {l:List (List Key×V)}{m:List (List Key×Addr×Value)},KT H l m→∀x∈m,(tupleKind (zg4 P w)).is h x.1 x.2.1:=by
  intro l m q
  induction q with
  |nil=>intro x hx;exact nomatch hx
  |@cons p q ps qs hq t ih =>
   intro x hx
   rcases zbk5.mp hx with e | hx
   ·subst e
    exact key_of ok (by rw [← hq.1];exact hq.2.1)
   ·exact ih x hx
 exact all r x hx
theorem dt_of {kvs:List (List Key×V)} (ok:HOk P w H h) (e:H a=some (.dT kvs)):kvs.length≤sizeLine∧(a == sysModules)=false ∧
  ∃xs,KT H kvs xs∧h.DictOfH (tupleKind (zg4 P w)) a xs:=dt_rd ok (.inl e)
end
noncomputable def DPut (H:Hp) (a:Addr) (y v:V) (H':Hp):Prop :=
 (∃kvs k,H a=some (.dK kvs)∧y=kV k∧kvs.length<sizeLine∧H'=upd H a (.dK (putK kvs k v))) ∨
 ∃kvs k b,H a=some (.dT kvs)∧y=.ref b∧H b=some (.tup (k.map kV))∧kvs.length<sizeLine∧H'=upd H a (.dT (putK kvs k v))
theorem DPut.t {H:Hp}{a b:Addr}{kvs:List (List Key×V)}{k:List Key}{v:V} (e:H a=some (.dT kvs)) (eb:H b=some (.tup (k.map kV))) (hl:kvs.length<sizeLine) :
  DPut H a (.ref b) v (upd H a (.dT (putK kvs k v))):=.inr ⟨kvs,k,b,e,rfl,eb,hl,rfl⟩
section
variable {X:Cx}{pins:List (Addr×Obj)}{σ:St}{H:Hp}{s:zbk8}{a:Addr}{y v:V}{u r:Value}{o:Option V}{A:Around}{E:Value→zbk8→Prop}
theorem Inv.big (I:Inv X pins σ H s):sysModules<s.heap.objs.size:=by
 have h:mainGlobals<s.heap.objs.size:=(I.mod.glob.keeps I.bk).lt
 exact zby6 (by decide) h
theorem zbf9 {h':Heap}{t':Nat}{ob:HO} (I:Inv X pins σ H s) (mu:Mut (H a)) (hs:Heap.SameBut a s.heap h') (he:∃q,h'.get? a=some q) (new:ObjOk X.prog X.w (upd H a ob) h' a ob) :
  Inv X pins σ (upd H a ob) { s with heap:=h',toks:=t' } :=
 I.write (x:=a) (e:=a) mu (.inl rfl) (fun b q hb z=>(hs.2 b hb).trans z) he new
theorem dk_new {P:Program}{w:World}{H':Hp}{h':Heap}{kvs:List (Key×V)}{vs:List (Key×Value)} (z:kvs.length≤sizeLine) (hd:(a == sysModules)=false) (rel:KV kvs vs) (dd:h'.DictOf (zg4 P w) a vs) :
  ObjOk P w H' h' a (.dK kvs):=⟨z,hd,vs,rel,dd⟩
theorem zbg0 {H':Hp}{Q:Unit→zbk8→Prop} (hu:A.units+1<cLine) (I:Inv X pins σ H s) (g:DPut H a y v H') (ry:RelV y u) (rv:RelV v r) (h:∀s',Inv X pins σ H' s'→Q () s') :
  wpAny (model X.prog X.w) A (setItem (.ref a) u r) Q E s:=by
 rcases g with ⟨kvs,k,e,ey,l,eH⟩ | ⟨kvs,k,b,e,ey,eb,l,eH⟩
 ·subst ey eH
  obtain⟨z,hd,vs,rel,dd⟩:=dk_of I.hok e
  have hz:vs.length≤sizeLine:=by rw [← rel.length];exact z
  have hl:(putK kvs k v).length≤sizeLine:=by have:=zx9 kvs k v;lia
  refine wpAny_setItem_pairs (hsz:=hz) (kV_is ry) dd fun h' dd' hs=>h _ ?_
  have he:∃q,h'.get? a=some q:=let ⟨q,_,_,hq,_⟩:=dd';⟨q,hq⟩
  exact zbf9 I (by rw [e];exact True.intro) hs he (dk_new hl hd (rel.put k rv) dd')
 ·subst ey eH
  cases (show u=Value.ref b from ry)
  obtain⟨z,hd,xs,rel,dd⟩:=dt_of I.hok e
  have hz:xs.length≤sizeLine:=by rw [← Paired.length rel];exact z
  have hl:(putK kvs k v).length≤sizeLine:=by have:=zx9 kvs k v;lia
  refine wpAny_setItem_heap (hsz:=hz) (tupleKind_room_in1 hu) (key_of I.hok eb) dd fun h' dd' hs=>h _ ?_
  obtain⟨q,es,ep,hq,h2,h3,h4,_,h5⟩:=dd'
  refine zbf9 I (by rw [e];exact True.intro) hs ⟨q,hq⟩ ⟨hl,hd,_,(rel.put k eb rv).keeps fun c ys ec=>?_,q,es,ep,hq,h2,h3,h4,h5⟩
  rw [zc9 (ne_of ec e (fun z=>nomatch z))]
  exact ec
end
noncomputable def sDPut (td ty tv:TE):TS:=fun D σ H=>tv σ H fun v H1=>td σ H1 fun x H2=>ty σ H2 fun y H3 => ∃a H4,x=.ref a∧DPut H3 a y v H4∧D.nx σ H4
section
variable {X:Cx}{o i e value:Expr}{pos pos' tpos:Pos}{td ty tv:TE}
theorem ps_dput (hu:X.A.units+1<cLine) (ho:PE X o td) (hi:PE X i ty) (hv:PE X value tv) (hs:swapsWith value (some (.Subscript o i pos')) pos.line X.env=pure false) :
  PS X (.Assign [.Subscript o i pos'] value pos) (sDPut td ty tv):=by
 intro pins s σ H D I h
 refine wpAny_Assign_Subscript (thn (hv pins s σ H _ I h) fun r s1 ⟨v,H1,I1,rv,q1⟩=>thn (ho pins s1 σ H1 _ I1 q1) fun u s2 ⟨x,H2,I2,rx,q2⟩=>thn (hi pins s2 σ H2 _ I2 q2) fun iv s3 ⟨y,H3,I3,ry,a,H4,ex,g,q3⟩=>?_) hs
 subst ex
 obtain rfl:u=Value.ref a:=rx
 exact zbg0 hu I3 g ry rv fun s4 I4=>⟨σ,H4,I4,q3⟩
end
theorem dt_empty {P:Program}{w:World}{H:Hp} (h:Heap) (hb:sysModules<h.objs.size):ObjOk P w H (h.push { cls:=.type "dict",data:=.dict #[] }) h.objs.size (.dT []) :=
 ⟨zbq5 _,beq_eq_false_iff_ne.mpr (Ne.symm (zbn1 hb)),[],.nil,_, #[],0,zbl2 _ rfl,⟨rfl,rfl,rfl⟩,rfl,rfl,zbs3⟩
noncomputable def tDNewT:TE:=fun _ H Q => ∀p,H p=none→Q (.ref p) (upd H p (.dT []))
section
variable {X:Cx}{pos:Pos}
theorem pe_dnewT:PE X (.Dict [] [] pos) tDNewT:=fun pins s σ H Q I h =>
 wpAny_Dict_empty ⟨.ref s.heap.objs.size,_,I.laid (a:=s.heap.objs.size) (o:=.dT []) (t':=s.toks) (fun _ _ q=>zbk0 _ q) (zbl3 _) (dt_empty s.heap I.big),rfl,h _ (I.hok.fresh (zbl3 _))⟩
end
structure M1 (X:Cx) (o:Expr) (m:Str) (apos:Pos) (e:Expr) (cpos:Pos):Prop where
 base:attributeBase o m X.env (eval o X.env)=eval o X.env
 few:((zbt6 cpos (zbm0 [e] X.env)).all (fun x=>!x.1)&&(backToKw cpos (keywordEach [] X.env)).all (fun x=>x.1.isSome)
  && decide (([e]:List Expr).length+([]:List Keyword).length+(if ([]:List Keyword).isEmpty then 0 else 1)<30))=true
 line:(apos.endLine == cpos.line)=true
 trees:zbt6 cpos (zbm0 [e] X.env)=[(false,eval e X.env)]
structure M2 (X:Cx) (o:Expr) (m:Str) (apos:Pos) (e f:Expr) (cpos:Pos):Prop where
 base:attributeBase o m X.env (eval o X.env)=eval o X.env
 few:((zbt6 cpos (zbm0 [e,f] X.env)).all (fun x=>!x.1)&&(backToKw cpos (keywordEach [] X.env)).all (fun x=>x.1.isSome)
  && decide (([e,f]:List Expr).length+([]:List Keyword).length+(if ([]:List Keyword).isEmpty then 0 else 1)<30))=true
 line:(apos.endLine == cpos.line)=true
 trees:zbt6 cpos (zbm0 [e,f] X.env)=[(false,eval e X.env),(false,eval f X.env)]
end L2
namespace DL
open PySem.Spec L2
inductive D where
 |non | bl (b:Bool) |int (i:Int) |str (x:Str) |tup (xs:List D) |lst (xs:List D) |dct (ks:List Key) (ds:List D) |pdc (ps:List (Int×Int))
noncomputable def mkKV (ks:List Key) (vs:List V):List (Key×V):=ks.zip vs
noncomputable def pkv (ps:List (Int×Int)):List (List Key×V):=ps.map fun q=>([Sum.inl q.1,Sum.inl q.2],V.bl true)
mutual
inductive Rep (K:zbj6) (H:Hp):D→V→Prop
 |non:Rep K H .non .non
 |bl (b:Bool):Rep K H (.bl b) (.bl b)
 |int (i:Int):Rep K H (.int i) (.int i)
 |str (x:Str):Rep K H (.str x) (.str x)
 |tup {ds:List D}{p:Addr}{vs:List V}:SqT K H p vs→Reps K H ds vs→Rep K H (.tup ds) (.ref p)
 |lst {ds:List D}{p:Addr}{vs:List V}:SqL K H p vs→Reps K H ds vs→Rep K H (.lst ds) (.ref p)
 |dct {ks:List Key}{ds:List D}{p:Addr}{vs:List V}:ks.length=vs.length→H p=some (.dK (mkKV ks vs))→Reps K H ds vs→Rep K H (.dct ks ds) (.ref p)
 |pdc {ps:List (Int×Int)}{p:Addr}:H p=some (.dT (pkv ps))→Rep K H (.pdc ps) (.ref p)
inductive Reps (K:zbj6) (H:Hp):List D→List V→Prop
 |nil:Reps K H [] []
 |cons {d:D}{v:V}{ds:List D}{vs:List V}:Rep K H d v→Reps K H ds vs→Reps K H (d::ds) (v::vs)
end
theorem SqL.mono {K:zbj6}{H H':Hp}{a:Addr}{xs:List V} (e:Same H H') (h:SqL K H a xs):SqL K H' a xs:=e.seq h
theorem SqT.mono {K:zbj6}{H H':Hp}{a:Addr}{xs:List V} (e:Same H H') (h:SqT K H a xs):SqT K H' a xs:=by
 rcases h with (h | ⟨o,h⟩) |h
 ·exact .inl (.inl (e _ _ h))
 ·exact .inl (.inr ⟨o,e _ _ h⟩)
 ·exact .inr h
mutual
theorem Rep.mono {K:zbj6}{H H':Hp} (e:Same H H'):∀ {d:D}{v:V},Rep K H d v→Rep K H' d v
 |_,_,.non=>.non
 |_,_,.bl b=>.bl b
 |_,_,.int i=>.int i
 |_,_,.str x=>.str x
 |_,_,.tup h r=>.tup (SqT.mono e h) (Reps.mono e r)
 |_,_,.lst h r=>.lst (SqL.mono e h) (Reps.mono e r)
 |_,_,.dct l h r=>.dct l (e _ _ h) (Reps.mono e r)
 |_,_,.pdc h=>.pdc (e _ _ h)
theorem Reps.mono {K:zbj6}{H H':Hp} (e:Same H H'):∀ {ds:List D}{vs:List V},Reps K H ds vs→Reps K H' ds vs
 |_,_,.nil=>.nil
 |_,_,.cons h r=>.cons (Rep.mono e h) (Reps.mono e r)
end
theorem Reps.length {K:zbj6}{H:Hp}:∀ {ds:List D}{vs:List V},Reps K H ds vs→vs.length=ds.length
 |_,_,.nil=>rfl
 |_,_,.cons _ r=>by simp [Reps.length r]
theorem Reps.get {K:zbj6}{H:Hp}:∀ {ds:List D}{vs:List V},Reps K H ds vs→∀ {i:Nat}{d:D},ds[i]?=some d→∃v,vs[i]?=some v∧Rep K H d v
 |_,_,.nil,i,d,e=>by simp at e
 |_,_,.cons (v:=v) h r,0,d,e=>by simp at e;subst e;exact⟨v,rfl,h⟩
 |_,_,.cons h r,i+1,d,e=>by
  obtain⟨v,a,b⟩:=Reps.get r (i:=i) (d:=d) (by simpa using e)
  exact⟨v,by simpa using a,b⟩
theorem Reps.getV {K:zbj6}{H:Hp}:∀ {ds:List D}{vs:List V},Reps K H ds vs→∀ {i:Nat}{v:V},vs[i]?=some v→∃d,ds[i]?=some d∧Rep K H d v
 |_,_,.nil,i,d,e=>by simp at e
 |_,_,.cons (d:=d) h r,0,v,e=>by simp at e;subst e;exact⟨d,rfl,h⟩
 |_,_,.cons h r,i+1,v,e=>by
  obtain⟨d,a,b⟩:=Reps.getV r (i:=i) (v:=v) (by simpa using e)
  exact⟨d,by simpa using a,b⟩
theorem Reps.app {K:zbj6}{H:Hp}:∀ {ds:List D}{vs:List V}{es:List D}{us:List V},Reps K H ds vs→Reps K H es us→Reps K H (ds++es) (vs++us)
 |_,_,_,_,.nil,r=>r
 |_,_,_,_,.cons h r,q=>.cons h (Reps.app r q)
theorem Reps.set {K:zbj6}{H:Hp}{d:D}{v:V} (h:Rep K H d v):∀ {ds:List D}{vs:List V} (i:Nat),Reps K H ds vs→Reps K H (ds.set i d) (vs.set i v)
 |_,_,_,.nil=>.nil
 |_,_,0,.cons _ r=>.cons h r
 |_,_,i+1,.cons q r=>.cons q (Reps.set h i r)
theorem Reps.take {K:zbj6}{H:Hp}:∀ {ds:List D}{vs:List V} (n:Nat),Reps K H ds vs→Reps K H (ds.take n) (vs.take n)
 |_,_,0,_=>by simp;exact .nil
 |_,_,n+1,.nil=>by simp;exact .nil
 |_,_,n+1,.cons h r=>by simpa using .cons h (Reps.take n r)
theorem Reps.drop {K:zbj6}{H:Hp}:∀ {ds:List D}{vs:List V} (n:Nat),Reps K H ds vs→Reps K H (ds.drop n) (vs.drop n)
 |_,_,0,r=>by simpa using r
 |_,_,n+1,.nil=>by simp;exact .nil
 |_,_,n+1,.cons h r=>by simpa using Reps.drop n r
theorem Reps.one {K:zbj6}{H:Hp}{d:D}{v:V} (h:Rep K H d v):Reps K H [d] [v]:=.cons h .nil
theorem Reps.ints {K:zbj6}{H:Hp}:∀ns:List Int,Reps K H (ns.map D.int) (ns.map V.int)
 |[]=>.nil
 |n::ns=>.cons (.int n) (Reps.ints ns)
mutual
def flat:D→Bool
 |.lst _=>false
 |.dct _ _=>false
 |.pdc _=>false
 |.tup xs=>zg9 xs
 |_=>true
def zg9:List D→Bool
 |[]=>true
 |d::ds=>flat d&&zg9 ds
end
noncomputable def hide (P:List Addr) (H:Hp):Hp:=fun a=>if a∈P then none else H a
theorem zb0 (P:List Addr) (H:Hp):Same (hide P H) H:=fun b o e=>by
 unfold hide at e
 split at e
 ·cases e
 ·exact e
theorem zc4 {P:List Addr}{H:Hp}{a:Addr}{o:HO} (h:H a=some o) (n:a∉P):hide P H a=some o:=by
 unfold hide;rw [if_neg n];exact h
theorem zn3 {P:List Addr}{H:Hp}{a:Addr}{o:HO} (h:hide P H a=some o):a∉P∧H a=some o:=by
 unfold hide at h
 split at h
 ·cases h
 ·exact⟨by assumption,h⟩
theorem hide_nil (H:Hp):hide [] H=H:=by funext a;simp [hide]
theorem zb2 {P P':List Addr} (H:Hp) (h:∀a∈P',a∈P):Same (hide P H) (hide P' H):=fun b o e=>by
 obtain⟨n,e⟩:=zn3 e
 exact zc4 e fun z=>n (h b z)
noncomputable def mutO:HO→Bool
 |.lst _=>true
 |.dK _=>true
 |.dT _=>true
 |_=>false
noncomputable abbrev MO:={o:HO // mutO o=true}
noncomputable def mL (vs:List V):MO:=⟨.lst vs,rfl⟩
noncomputable def mD (kvs:List (Key×V)):MO:=⟨.dK kvs,rfl⟩
noncomputable def mT (kvs:List (List Key×V)):MO:=⟨.dT kvs,rfl⟩
noncomputable def Lists (H:Hp) (P:List Addr):Prop := ∀p∈P,∃o:MO,H p=some o.1
theorem Lists.mono {H H':Hp}{P:List Addr} (h:Lists H P) (e:Same H H'):Lists H' P:=fun p hp=>let ⟨vs,q⟩:=h p hp;⟨vs,e _ _ q⟩
theorem SqT.hid {K:zbj6}{H:Hp}{P:List Addr}{a:Addr}{xs:List V} (m:Lists H P) (h:SqT K H a xs):SqT K (hide P H) a xs:=by
 rcases h with (h | ⟨o,h⟩) |h
 ·exact .inl (.inl (zc4 h fun z=>by obtain⟨⟨vs,w⟩,q⟩:=m _ z;rw [q]at h;cases h;cases w))
 ·exact .inl (.inr ⟨o,zc4 h fun z=>by obtain⟨⟨vs,w⟩,q⟩:=m _ z;rw [q]at h;cases h;cases w⟩)
 ·exact .inr h
mutual
theorem Rep.hid {K:zbj6}{H:Hp}{P:List Addr} (m:Lists H P):∀ {d:D}{v:V},flat d=true→Rep K H d v→Rep K (hide P H) d v
 |_,_,_,.non=>.non
 |_,_,_,.bl b=>.bl b
 |_,_,_,.int i=>.int i
 |_,_,_,.str x=>.str x
 |_,_,f,.tup h r=>.tup (SqT.hid m h) (Reps.hid m (by simpa [flat] using f) r)
 |_,_,f,.lst h r=>by simp [flat]at f
 |_,_,f,.dct _ h r=>by simp [flat]at f
 |_,_,f,.pdc h=>by simp [flat]at f
theorem Reps.hid {K:zbj6}{H:Hp}{P:List Addr} (m:Lists H P):∀ {ds:List D}{vs:List V},zg9 ds=true→Reps K H ds vs→Reps K (hide P H) ds vs
 |_,_,_,.nil=>.nil
 |_,_,f,.cons h r=>by
  simp [zg9]at f
  exact .cons (Rep.hid m f.1 h) (Reps.hid m f.2 r)
end
mutual
inductive RepD (K:zbj6) (H0 H:Hp):D→V→List Addr→Prop
 |flat {d:D}{v:V}:flat d=true→Rep K H0 d v→RepD K H0 H d v []
 |tup {ds:List D}{p:Addr}{vs:List V}{B:List Addr}:SqT K H0 p vs→RepDs K H0 H ds vs B→RepD K H0 H (.tup ds) (.ref p) B
 |lst {ds:List D}{p:Addr}{vs:List V}{B:List Addr}:H p=some (.lst vs)→RepDs K H0 H ds vs B→RepD K H0 H (.lst ds) (.ref p) (p::B)
 |dct {ks:List Key}{ds:List D}{p:Addr}{vs:List V}{B:List Addr}:ks.length=vs.length→H p=some (.dK (mkKV ks vs))→RepDs K H0 H ds vs B→RepD K H0 H (.dct ks ds) (.ref p) (p::B)
 |pdc {ps:List (Int×Int)}{p:Addr}:H p=some (.dT (pkv ps))→RepD K H0 H (.pdc ps) (.ref p) [p]
inductive RepDs (K:zbj6) (H0 H:Hp):List D→List V→List Addr→Prop
 |nil:RepDs K H0 H [] [] []
 |cons {d:D}{v:V}{ds:List D}{vs:List V}{B C:List Addr}:RepD K H0 H d v B→RepDs K H0 H ds vs C→RepDs K H0 H (d::ds) (v::vs) (B++C)
end
mutual
theorem RepD.mono {K:zbj6}{H0 H H0' H':Hp} (e:Same H0 H0'):∀ {d:D}{v:V}{B:List Addr},RepD K H0 H d v B→(∀p∈B,∀o,H p=some o→H' p=some o)→RepD K H0' H' d v B
 |_,_,_,.flat f r,_=>.flat f (Rep.mono e r)
 |_,_,_,.tup h r,k=>.tup (SqT.mono e h) (RepDs.mono e r k)
 |_,_,_,.lst h r,k=>.lst (k _ (zbk2 ..) _ h) (RepDs.mono e r fun p hp=>k p (zbj9 _ hp))
 |_,_,_,.dct l h r,k=>.dct l (k _ (zbk2 ..) _ h) (RepDs.mono e r fun p hp=>k p (zbj9 _ hp))
 |_,_,_,.pdc h,k=>.pdc (k _ (zbk2 ..) _ h)
theorem RepDs.mono {K:zbj6}{H0 H H0' H':Hp} (e:Same H0 H0'):∀ {ds:List D}{vs:List V}{B:List Addr},RepDs K H0 H ds vs B→(∀p∈B,∀o,H p=some o→H' p=some o)→RepDs K H0' H' ds vs B
 |_,_,_,.nil,_=>.nil
 |_,_,_,.cons h r,k=>.cons (RepD.mono e h fun p hp=>k p (zbj7 _ hp)) (RepDs.mono e r fun p hp=>k p (zbj5 _ hp))
end
mutual
theorem RepD.rep {K:zbj6}{H0 H H1:Hp} (e:Same H0 H1):∀ {d:D}{v:V}{B:List Addr},RepD K H0 H d v B→(∀p∈B,∀o,H p=some o→H1 p=some o)→Rep K H1 d v
 |_,_,_,.flat f r,_=>Rep.mono e r
 |_,_,_,.tup h r,k=>.tup (SqT.mono e h) (RepDs.rep e r k)
 |_,_,_,.lst h r,k=>.lst (SqL.of (k _ (zbk2 ..) _ h)) (RepDs.rep e r fun p hp=>k p (zbj9 _ hp))
 |_,_,_,.dct l h r,k=>.dct l (k _ (zbk2 ..) _ h) (RepDs.rep e r fun p hp=>k p (zbj9 _ hp))
 |_,_,_,.pdc h,k=>.pdc (k _ (zbk2 ..) _ h)
theorem RepDs.rep {K:zbj6}{H0 H H1:Hp} (e:Same H0 H1):∀ {ds:List D}{vs:List V}{B:List Addr},RepDs K H0 H ds vs B→(∀p∈B,∀o,H p=some o→H1 p=some o)→Reps K H1 ds vs
 |_,_,_,.nil,_=>.nil
 |_,_,_,.cons h r,k=>.cons (RepD.rep e h fun p hp=>k p (zbj7 _ hp)) (RepDs.rep e r fun p hp=>k p (zbj5 _ hp))
end
mutual
theorem RepD.lists {K:zbj6}{H0 H:Hp}:∀ {d:D}{v:V}{B:List Addr},RepD K H0 H d v B→Lists H B
 |_,_,_,.flat f r=>fun p hp=>by cases hp
 |_,_,_,.tup h r=>RepDs.lists r
 |_,_,_,.lst h r=>fun p hp=>by
  rcases zbk5.mp hp with rfl | hp
  ·exact⟨mL _,h⟩
  ·exact RepDs.lists r p hp
 |_,_,_,.dct _ h r=>fun p hp=>by
  rcases zbk5.mp hp with rfl | hp
  ·exact⟨mD _,h⟩
  ·exact RepDs.lists r p hp
 |_,_,_,.pdc h=>fun p hp=>by
  rw [zbm2]at hp
  subst hp
  exact⟨mT _,h⟩
theorem RepDs.lists {K:zbj6}{H0 H:Hp}:∀ {ds:List D}{vs:List V}{B:List Addr},RepDs K H0 H ds vs B→Lists H B
 |_,_,_,.nil=>fun p hp=>by cases hp
 |_,_,_,.cons h r=>fun p hp=>(zbk1.mp hp).elim (RepD.lists h p) (RepDs.lists r p)
end
mutual
theorem RepD.hid {K:zbj6}{H0 H:Hp}{P:List Addr} (m:Lists H P) (e:Same H0 H):∀ {d:D}{v:V}{B:List Addr},RepD K H0 H d v B→RepD K (hide P H) H d v B
 |_,_,_,.flat f r=>.flat f (Rep.hid m f (Rep.mono e r))
 |_,_,_,.tup h r=>.tup (SqT.hid m (SqT.mono e h)) (RepDs.hid m e r)
 |_,_,_,.lst h r=>.lst h (RepDs.hid m e r)
 |_,_,_,.dct l h r=>.dct l h (RepDs.hid m e r)
 |_,_,_,.pdc h=>.pdc h
theorem RepDs.hid {K:zbj6}{H0 H:Hp}{P:List Addr} (m:Lists H P) (e:Same H0 H):∀ {ds:List D}{vs:List V}{B:List Addr},RepDs K H0 H ds vs B→RepDs K (hide P H) H ds vs B
 |_,_,_,.nil=>.nil
 |_,_,_,.cons h r=>.cons (RepD.hid m e h) (RepDs.hid m e r)
end
theorem RepDs.of_flat {K:zbj6}{H0 H:Hp}:∀ {ds:List D}{vs:List V},zg9 ds=true→Reps K H0 ds vs→RepDs K H0 H ds vs []
 |_,_,_,.nil=>.nil
 |_,_,f,.cons h r=>by
  simp [zg9]at f
  exact .cons (B:=[]) (C:=[]) (.flat f.1 h) (RepDs.of_flat f.2 r)
theorem Lists.app {H:Hp}{P Q:List Addr} (h:Lists H P) (k:Lists H Q):Lists H (P++Q):=fun p hp=>(zbk1.mp hp).elim (h p) (k p)
inductive Ev where
 |cl (d:D) |tm (d:D) |nw (xs:List D) |dn (d:D)
noncomputable def Ev.d:Ev→D
 |.cl d=>d
 |.tm d=>d
 |.nw xs=>.lst xs
 |.dn d=>d
noncomputable def RepEv (K:zbj6) (F A:List Addr) (H H':Hp):Ev→V→Prop
 |.cl d,v=>Rep K (hide (A++F) H') d v
 |.tm d,v=>Rep K (hide F H') d v
 |.nw xs,v => ∃p vs,v=.ref p∧H p=none∧H' p=some (.lst vs)∧Reps K (hide (p ::(A++F)) H') xs vs
 |.dn d,v => ∃B,B.Nodup∧(∀b∈B,H b=none)∧RepD K (hide (B++(A++F)) H') H' d v B
theorem zc7 {P:List Addr}{H H':Hp} (e:Same H H'):Same (hide P H) (hide P H'):=fun b o h=>by
 obtain⟨n,h⟩:=zn3 h
 exact zc4 (e _ _ h) n
theorem RepEv.mono {K:zbj6}{F A:List Addr}{H H1 H2:Hp}{r:Ev}{v:V} (h:RepEv K F A H H1 r v) (e:Same H1 H2):RepEv K F A H H2 r v:=by
 cases r with
 |cl d=>exact Rep.mono (zc7 e) h
 |tm d=>exact Rep.mono (zc7 e) h
 |nw xs =>
  obtain⟨p,vs,rfl,h1,h2,h3⟩:=h
  exact⟨p,vs,rfl,h1,e _ _ h2,Reps.mono (zc7 e) h3⟩
 |dn d =>
  obtain⟨B,h1,h2,h3⟩:=h
  exact⟨B,h1,h2,RepD.mono (zc7 e) h3 fun p _ o q=>e _ _ q⟩
theorem RepEv.back {K:zbj6}{F A:List Addr}{H0 H H1:Hp}{r:Ev}{v:V} (h:RepEv K F A H H1 r v) (e:Same H0 H):RepEv K F A H0 H1 r v:=by
 cases r with
 |cl d=>exact h
 |tm d=>exact h
 |nw xs =>
  obtain⟨p,vs,rfl,h1,h2,h3⟩:=h
  refine⟨p,vs,rfl,?_,h2,h3⟩
  cases q:H0 p with
  |none=>rfl
  |some o=>rw [e _ _ q]at h1;cases h1
 |dn d =>
  obtain⟨B,h1,h2,h3⟩:=h
  exact⟨B,h1,fun b hb=>Same.free e (h2 b hb),h3⟩
theorem RepEv.full {K:zbj6}{F A:List Addr}{H H':Hp}{r:Ev}{v:V} (h:RepEv K F A H H' r v):Rep K H' r.d v:=by
 cases r with
 |cl d=>exact Rep.mono (zb0 _ _) h
 |tm d=>exact Rep.mono (zb0 _ _) h
 |nw xs =>
  obtain⟨p,vs,rfl,h1,h2,h3⟩:=h
  exact .lst (SqL.of h2) (Reps.mono (zb0 _ _) h3)
 |dn d =>
  obtain⟨B,h1,h2,h3⟩:=h
  exact h3.rep (zb0 _ _) fun _ _ _ q=>q
theorem zd0 {H:Hp}{P:List Addr}{p:Addr} (m:Lists H P) (h:H p=none):p∉P:=fun z=>by
 obtain⟨vs,q⟩:=m _ z
 rw [q]at h;cases h
theorem RepEv.cleanF {K:zbj6}{F A:List Addr}{H H':Hp}{r:Ev}{v:V} (m:Lists H (A++F)) (h:RepEv K F A H H' r v):Rep K (hide F H') r.d v:=by
 cases r with
 |cl d=>exact Rep.mono (zb2 H' fun a z=>zbj5 _ z) h
 |tm d=>exact h
 |nw xs =>
  obtain⟨p,vs,rfl,h1,h2,h3⟩:=h
  have n:p∉F:=fun z=>zd0 m h1 (zbj5 _ z)
  exact .lst (SqL.of (zc4 h2 n)) (Reps.mono (zb2 H' fun a z=>zbj9 _ (zbj5 _ z)) h3)
 |dn d =>
  obtain⟨B,h1,h2,h3⟩:=h
  refine h3.rep (zb2 H' fun a z=>zbj5 _ (zbj5 _ z)) fun b hb o q=>zc4 q fun z=>?_
  exact zd0 m (h2 b hb) (zbj5 _ z)
noncomputable def Ev.ok:Ev→Bool
 |.cl _=>true
 |.tm d=>flat d
 |.nw _=>true
 |.dn _=>true
theorem RepEv.clean {K:zbj6}{F A:List Addr}{H H':Hp}{r:Ev}{v:V} (m:Lists H (A++F)) (e:Same H H') (h:RepEv K F A H H' r v) (c:r.ok=true):Rep K (hide (A++F) H') r.d v:=by
 cases r with
 |cl d=>exact h
 |tm d =>
  have m':Lists H' (A++F):=m.mono e
  exact Rep.hid m' c (Rep.mono (zb0 _ _) h)
 |nw xs =>
  obtain⟨p,vs,rfl,h1,h2,h3⟩:=h
  have n:p∉A++F:=zd0 m h1
  exact .lst (SqL.of (zc4 h2 n)) (Reps.mono (zb2 H' fun a z=>zbj9 _ z) h3)
 |dn d =>
  obtain⟨B,h1,h2,h3⟩:=h
  exact h3.rep (zb2 H' fun a z=>zbj5 _ z) fun b hb o q=>zc4 q fun z=>zd0 m (h2 b hb) z
inductive Sl where
 |no | val (d:D) |own (xs:List D) |dp (d:D)
noncomputable abbrev Th:=List Sl
inductive RSl (K:zbj6) (H0 H:Hp):Th→L2.St→List Addr→Prop
 |nil:RSl K H0 H [] [] []
 |no {x:Option V}{t:Th}{σ:L2.St}{A:List Addr}:RSl K H0 H t σ A→RSl K H0 H (.no::t) (x::σ) A
 |val {d:D}{v:V}{t:Th}{σ:L2.St}{A:List Addr}:Rep K H0 d v→RSl K H0 H t σ A→RSl K H0 H (.val d::t) (some v::σ) A
 |own {p:Addr}{vs:List V}{ds:List D}{t:Th}{σ:L2.St}{A:List Addr}:H p=some (.lst vs)→Reps K H0 ds vs→RSl K H0 H t σ A→RSl K H0 H (.own ds::t) (some (.ref p)::σ) (p::A)
 |dp {d:D}{v:V}{B:List Addr}{t:Th}{σ:L2.St}{A:List Addr}:RepD K H0 H d v B→RSl K H0 H t σ A→RSl K H0 H (.dp d::t) (some v::σ) (B++A)
structure RS (K:zbj6) (F:List Addr) (H:Hp) (A:List Addr) (t:Th) (σ:L2.St):Prop where
 mu:Lists H (A++F)
 nd:A.Nodup
 dj:∀p∈A,p∉F
 rel:RSl K (hide (A++F) H) H t σ A
theorem RSl.mono {K:zbj6}{H0 H H0' H':Hp} (e0:Same H0 H0'):∀ {t:Th}{σ:L2.St}{A:List Addr},RSl K H0 H t σ A→(∀p∈A,∀o,H p=some o→H' p=some o)→RSl K H0' H' t σ A:=by
 intro _ _ _ h
 induction h with
 |nil =>
  intro w0
  exact .nil
 |@no _ _ _ _ r ih =>
  intro e
  exact .no (ih e)
 |@val _ _ _ _ _ h r ih =>
  intro e
  exact .val (Rep.mono e0 h) (ih e)
 |@own _ _ _ _ _ _ h1 h2 r ih =>
  intro e
  exact .own (e _ (zbk2 ..) _ h1) (Reps.mono e0 h2) (ih fun p hp=>e p (zbj9 _ hp))
 |@dp _ _ _ _ _ _ h r ih =>
  intro e
  exact .dp (RepD.mono e0 h fun p hp=>e p (zbj7 _ hp)) (ih fun p hp=>e p (zbj5 _ hp))
theorem RS.grow {K:zbj6}{F A:List Addr}{H H':Hp}{t:Th}{σ:L2.St} (h:RS K F H A t σ) (e:Same H H'):RS K F H' A t σ :=
 ⟨h.mu.mono e,h.nd,h.dj,h.rel.mono (zc7 e) fun p _ o q=>e _ _ q⟩
theorem RSl.len {K:zbj6}{H0 H:Hp}:∀ {t:Th}{σ:L2.St}{A:List Addr},RSl K H0 H t σ A→σ.length=t.length:=by
 intro _ _ _ h
 induction h with
 |nil =>
  exact rfl
 |@no _ _ _ _ r ih =>
  simp [ih]
 |@val _ _ _ _ _ _ r ih =>
  simp [ih]
 |@own _ _ _ _ _ _ _ _ r ih =>
  simp [ih]
 |@dp _ _ _ _ _ _ _ r ih =>
  simp [ih]
theorem RSl.getVal {K:zbj6}{H0 H:Hp}:∀ {t:Th}{σ:L2.St}{A:List Addr},RSl K H0 H t σ A→∀ {i:Nat}{d:D},t[i]?=some (.val d)→∃v,σ[i]?=some (some v)∧Rep K H0 d v:=by
 intro _ _ _ h
 induction h with
 |nil =>
  intro i d e
  simp at e
 |@no _ _ _ _ r ih =>
  intro i d e
  cases i with
  |zero =>
   simp at e
  |succ i =>
   simpa using ih (i:=i) (by simpa using e)
 |@val _ v _ _ _ h r ih =>
  intro i d e
  cases i with
  |zero =>
   simp at e;subst e;exact⟨v,rfl,h⟩
  |succ i =>
   simpa using ih (i:=i) (by simpa using e)
 |@own _ _ _ _ _ _ _ _ r ih =>
  intro i d e
  cases i with
  |zero =>
   simp at e
  |succ i =>
   simpa using ih (i:=i) (by simpa using e)
 |@dp _ _ _ _ _ _ _ r ih =>
  intro i d e
  cases i with
  |zero =>
   simp at e
  |succ i =>
   simpa using ih (i:=i) (by simpa using e)
theorem RSl.getOwn {K:zbj6}{H0 H:Hp}:∀ {t:Th}{σ:L2.St}{A:List Addr},RSl K H0 H t σ A→∀ {i:Nat}{ds:List D},t[i]?=some (.own ds)→∃p vs,σ[i]?=some (some (.ref p))∧p∈A∧H p=some (.lst vs)∧Reps K H0 ds vs:=by
 intro _ _ _ h
 induction h with
 |nil =>
  intro i d e
  simp at e
 |@no _ _ _ _ r ih =>
  intro i d e
  cases i with
  |zero =>
   simp at e
  |succ i =>
   simpa using ih (i:=i) (by simpa using e)
 |@val _ v _ _ _ h r ih =>
  intro i d e
  cases i with
  |zero =>
   simp at e
  |succ i =>
   simpa using ih (i:=i) (by simpa using e)
 |@own p vs _ _ _ _ h1 h2 r ih =>
  intro i d e
  cases i with
  |zero =>
   simp at e;subst e;exact⟨p,vs,rfl,zbk2 ..,h1,h2⟩
  |succ i =>
   obtain⟨p,vs,a,b,c,f⟩:=ih (i:=i) (ds:=d) (by simpa using e)
   exact⟨p,vs,by simpa using a,zbj9 _ b,c,f⟩
 |@dp _ _ _ _ _ _ _ r ih =>
  intro i d e
  cases i with
  |zero =>
   simp at e
  |succ i =>
   obtain⟨p,vs,a,b,c,f⟩:=ih (i:=i) (ds:=d) (by simpa using e)
   exact⟨p,vs,by simpa using a,zbj5 _ b,c,f⟩
theorem RSl.getDp {K:zbj6}{H0 H:Hp}:∀ {t:Th}{σ:L2.St}{A:List Addr},RSl K H0 H t σ A→A.Nodup→∀ {i:Nat}{d:D},t[i]?=some (.dp d)→∃v B,σ[i]?=some (some v)∧(∀b∈B,b∈A)∧B.Nodup∧RepD K H0 H d v B:=by
 intro _ _ _ h
 induction h with
 |nil =>
  intro n i d e
  simp at e
 |@no _ _ _ _ r ih =>
  intro n i d e
  cases i with
  |zero =>
   simp at e
  |succ i =>
   simpa using ih n (i:=i) (by simpa using e)
 |@val _ v _ _ _ h r ih =>
  intro n i d e
  cases i with
  |zero =>
   simp at e
  |succ i =>
   simpa using ih n (i:=i) (by simpa using e)
 |@own _ _ _ _ _ _ _ _ r ih =>
  intro n i d e
  cases i with
  |zero =>
   simp at e
  |succ i =>
   obtain⟨v,B,a,b,n',c⟩:=ih (zbm9.mp n).2 (i:=i) (d:=d) (by simpa using e)
   exact⟨v,B,by simpa using a,fun x hx=>zbj9 _ (b x hx),n',c⟩
 |@dp _ v B _ _ _ h r ih =>
  intro n i d e
  cases i with
  |zero =>
   simp at e;subst e;exact⟨v,B,rfl,fun x hx=>zbj7 _ hx,(zbm8.mp n).1,h⟩
  |succ i =>
   obtain⟨v,B,a,b,n',c⟩:=ih (zbm8.mp n).2.1 (i:=i) (d:=d) (by simpa using e)
   exact⟨v,B,by simpa using a,fun x hx=>zbj5 _ (b x hx),n',c⟩
structure Gr (A:List Addr) (H:Hp) (A':List Addr) (H':Hp):Prop where
 kp:∀b o,b∉A→H b=some o→H' b=some o
 al:∀b∈A,H' b≠none
 nw:∀b∈A',b∈A∨H b=none
theorem Gr.refl {A:List Addr}{H:Hp} (m:Lists H A):Gr A H A H:=⟨fun _ _ _ h=>h,fun b hb=>by obtain⟨vs,q⟩:=m b hb;rw [q];simp,fun b h=>.inl h⟩
theorem Gr.of_same {A:List Addr}{H H':Hp} (m:Lists H A) (e:Same H H'):Gr A H A H':=⟨fun _ _ _ h=>e _ _ h,fun b hb=>by obtain⟨vs,q⟩:=m b hb;rw [e _ _ q];simp,fun b h=>.inl h⟩
theorem Gr.trans {A A1 A2:List Addr}{H H1 H2:Hp} (a:Gr A H A1 H1) (b:Gr A1 H1 A2 H2):Gr A H A2 H2 where
 kp:=fun x o n h=>b.kp x o (fun z=>by rcases a.nw x z with q | q;exact n q;rw [q]at h;cases h) (a.kp x o n h)
 al:=fun x hx=>by
  by_cases z:x∈A1
  ·exact b.al x z
  ·have:=a.al x hx
   cases q:H1 x with
   |none=>exact absurd q this
   |some o=>rw [b.kp x o z q];simp
 nw:=fun x hx=>by
  rcases b.nw x hx with q | q
  ·exact a.nw x q
  ·by_cases z:x∈A
   ·exact .inl z
   ·refine .inr ?_
    cases w:H x with
    |none=>rfl
    |some o=>rw [a.kp x o z w]at q;cases q
theorem Gr.same {F A A':List Addr}{H H':Hp} (g:Gr A H A' H'):Same (hide (A++F) H) (hide (A'++F) H'):=fun b o h=>by
 obtain⟨n,h⟩:=zn3 h
 have n1:b∉A:=fun z=>n (zbj7 _ z)
 refine zc4 (g.kp b o n1 h) fun z=>?_
 rcases zbk1.mp z with z | z
 ·rcases g.nw b z with q | q
  ·exact n1 q
  ·rw [q]at h;cases h
 ·exact n (zbj5 _ z)
end DL
namespace DL
open PySem.Spec L2
noncomputable abbrev DE:=Th→Option Ev
noncomputable def dE (K:zbj6) (F:List Addr) (f:DE):TE:=fun σ H Q => ∃A t r,RS K F H A t σ∧f t=some r∧∀v H',Same H H'→RepEv K F A H H' r v→Q v H'
theorem PE.imp {X:Cx}{e:Expr}{t t':TE} (h:PE X e t) (i:∀σ H Q,t' σ H Q→t σ H Q):PE X e t':=fun pins s σ H Q I q=>h pins s σ H Q I (i σ H Q q)
section
variable {X:Cx}{F:List Addr}{a b c:Expr}{fa fb fc:DE}{pos:Pos}
noncomputable def dVar (i:Nat):DE:=fun t=>match t[i]? with
 |some (.val d)=>some (.cl d)
 |some (.own xs)=>some (.tm (.lst xs))
 |some (.dp d)=>some (.tm d)
 |_=>none
theorem za0 (i:Nat) {x:Str} (hN:X.N[i]?=some x:=by rfl) (hv:Vis X.env.scope x:=by first | exact Or.inl rfl | exact Or.inr (Or.inl rfl) |exact Or.inr (Or.inr rfl)) (hd:(x ==("__debug__":Str))=false:=by decide)
  (hcd:(x ==("__classdict__":Str))=false:=by decide):PE X (.Name x pos) (dE X.K F (dVar i)):=by
 refine PE.imp (zr0 (i:=i) hN hv hd hcd) ?_
 rintro σ H Q ⟨A,t,r,R,e,h⟩
 unfold dVar at e
 split at e
 ·rename_i d q
  cases e
  obtain⟨v,h1,h2⟩:=R.rel.getVal q
  exact⟨v,h1,h v H (Same.refl H) h2⟩
 ·rename_i ds q
  cases e
  obtain⟨p,vs,h1,h2,h3,h4⟩:=R.rel.getOwn q
  refine⟨_,h1,h _ H (Same.refl H) ?_⟩
  exact .lst (SqL.of (zc4 h3 (R.dj p h2))) (Reps.mono (zb2 H fun a z=>zbj5 _ z) h4)
 ·rename_i d q
  cases e
  obtain⟨v,B,h1,h2,h0,h3⟩:=R.rel.getDp R.nd q
  refine⟨_,h1,h _ H (Same.refl H) ?_⟩
  exact h3.rep (zb2 H fun a z=>zbj5 _ z) fun b hb o w=>zc4 w (R.dj b (h2 b hb))
 ·cases e
noncomputable def dC (d:D):DE:=fun _=>some (.cl d)
theorem za3 {i j pos}:PE X (.Constant (.int i) j pos) (dE X.K F (dC (.int i))):=PE.imp pe_int fun σ H Q ⟨A,t,r,R,e,h⟩=>by cases e;exact h _ H (Same.refl H) (.int i)
theorem zi6 {b j pos}:PE X (.Constant (.bool b) j pos) (dE X.K F (dC (.bl b))):=PE.imp pe_bl fun σ H Q ⟨A,t,r,R,e,h⟩=>by cases e;exact h _ H (Same.refl H) (.bl b)
noncomputable def OpD (X:Cx) (F:List Addr) (f:Value→Value→Sem Value) (k:Ev→Ev→Option Ev):Prop :=
 ∀(pins:List (Addr×Obj)) (s:zbk8) (σ:L2.St) (H0 H:Hp) (A:List Addr) (x y:V) (v u:Value) (Q:VK) (r1 r2 r:Ev),Inv X pins σ H s→Lists H0 (A++F)→Same H0 H→RelV x v→RelV y u →
  RepEv X.K F A H0 H r1 x→RepEv X.K F A H0 H r2 y→k r1 r2=some r→(∀z H',Same H H'→RepEv X.K F A H0 H' r z→Q z H')→wpAny (model X.prog X.w) X.A (f v u) (EP X pins σ Q) X.xe s
noncomputable def d2 (k:Ev→Ev→Option Ev) (fa fb:DE):DE:=fun t=>(fa t).bind fun r1=>(fb t).bind fun r2=>k r1 r2
theorem two {k:Ev→Ev→Option Ev}{σ:L2.St}{H:Hp}{Q:VK} (h:dE X.K F (d2 k fa fb) σ H Q):∃A t r1 r2 r,RS X.K F H A t σ∧fa t=some r1∧fb t=some r2∧k r1 r2=some r ∧
  (∀v H',Same H H'→RepEv X.K F A H H' r v→Q v H')∧dE X.K F fa σ H fun x H1=>dE X.K F fb σ H1 fun y H2=>Same H H2∧RepEv X.K F A H H2 r1 x∧RepEv X.K F A H H2 r2 y:=by
 obtain⟨A,t,r,R,e,h⟩:=h
 unfold d2 at e
 cases e1:fa t with
 |none=>rw [e1]at e;cases e
 |some r1 =>
  cases e2:fb t with
  |none=>rw [e1,e2]at e;cases e
  |some r2 =>
   rw [e1,e2]at e
   exact⟨A,t,r1,r2,r,R,e1,e2,e,h,A,t,r1,R,e1,fun x H1 g1 q1=>⟨A,t,r2,R.grow g1,e2,fun y H2 g2 q2=>⟨g1.trans g2,q1.mono g2,q2.back g1⟩⟩⟩
theorem za7 {op:Operator}{k:Ev→Ev→Option Ev} (ho:OpD X F (binaryOp op) k) (ha:PE X a (dE X.K F fa)) (hb:PE X b (dE X.K F fb)):PE X (.BinOp a op b pos) (dE X.K F (d2 k fa fb)):=by
 intro pins s σ H Q I h
 obtain⟨A,t,r1,r2,r,R,e1,e2,e,h,w⟩:=two h
 refine wpAny_BinOp (bin ha hb I w fun v u s2 x y H2 I2 rx ry q=>?_)
 obtain⟨g,q1,q2⟩:=q
 exact ho pins s2 σ H H2 A x y v u Q r1 r2 r I2 R.mu g rx ry q1 q2 e fun z H' g'=>h z H' (g.trans g')
theorem zn2 {op:CmpOp}{k:Ev→Ev→Option Ev} (ho:OpD X F (compareOp op) k) (ha:PE X a (dE X.K F fa)) (hb:PE X b (dE X.K F fb)) (hm:behindInMarks op b=false:=by first | exact nomark _ | (with_unfolding_all rfl)) :
  PE X (.Compare a [op] [b] pos) (dE X.K F (d2 k fa fb)):=by
 intro pins s σ H Q I h
 obtain⟨A,t,r1,r2,r,R,e1,e2,e,h,w⟩:=two h
 refine wpAny_Compare1 (bin ha hb I w fun v u s2 x y H2 I2 rx ry q=>?_) hm
 obtain⟨g,q1,q2⟩:=q
 exact ho pins s2 σ H H2 A x y v u Q r1 r2 r I2 R.mu g rx ry q1 q2 e fun z H' g'=>h z H' (g.trans g')
noncomputable def kI (C:Int→Int→Bool) (g:Int→Int→D):Ev→Ev→Option Ev:=fun r1 r2=>match r1.d,r2.d with
 |.int i,.int j=>if C i j then some (.cl (g i j)) else none
 |_,_=>none
theorem zd4 {K:zbj6}{H:Hp}{i:Int}{v:V} (h:Rep K H (.int i) v):v=.int i:=by cases h;rfl
theorem zaa2 {f:Value→Value→Sem Value}{C:Int→Int→Prop}{g:Int→Int→V}{C':Int→Int→Bool}{g':Int→Int→D} (h:OpR X f (rI C g)) (hc:∀i j,C' i j=true→C i j)
  (hg:∀H i j,Rep X.K H (g' i j) (g i j)):OpD X F f (kI C' g'):=by
 intro pins s σ H0 H A x y v u Q r1 r2 r I m g0 rx ry q1 q2 e hq
 have p1:=q1.full
 have p2:=q2.full
 unfold kI at e
 split at e
 ·rename_i i j d1 d2
  split at e
  ·rename_i c
   cases e
   rw [d1]at p1;rw [d2]at p2
   cases zd4 p1;cases zd4 p2
   exact h pins s σ H _ _ v u Q I rx ry ⟨i,j,rfl,rfl,hc i j c,hq _ H (Same.refl H) (hg _ i j)⟩
  ·cases e
 ·cases e
theorem zav3 {f:Value→Value→Sem Value}{g:Int→Int→V} (h:OpR X f (rI0 g)):OpR X f (rI (fun _ _=>True) g):=fun pins s σ H x y v u Q I rx ry ⟨i,j,e1,e2,_,q⟩=>h pins s σ H x y v u Q I rx ry ⟨i,j,e1,e2,q⟩
noncomputable def tt2:Int→Int→Bool:=fun _ _=>true
theorem od_add:OpD X F (binaryOp .Add) (kI tt2 fun i j=>.int (i+j)):=zaa2 (zav3 op_add) (fun _ _ _=>trivial) fun _ _ _=>.int _
theorem zx6:OpD X F (binaryOp .Sub) (kI tt2 fun i j=>.int (i - j)):=zaa2 (zav3 op_sub) (fun _ _ _=>trivial) fun _ _ _=>.int _
noncomputable def bnd:Nat:=2 ^ 4096
noncomputable def sm (i:Int):Bool:=decide (i.natAbs<bnd)
noncomputable def cMul (i j:Int):Bool:=sm i&&sm j
noncomputable def cDiv (_ j:Int):Bool:=sm j&&decide (j≠0)
theorem zbd1 {n k:Nat} (h:n<2 ^ k):n.log2≤k:=by
 by_cases z:n=0
 ·subst z;simp
 ·exact zbv1 ((Nat.log2_lt z).mpr h)
theorem cMul.ok {i j:Int} (h:cMul i j=true):IntMulOk i j:=by
 simp only [cMul,sm,zbk7,decide_eq_true_eq]at h
 refine mulOk_of_bits (m:=4097) (n:=4097) ?_ ?_ (by decide)
 ·exact intBits_le (zbm4 h.1 (by unfold bnd;exact zbu1 (by decide) (by decide)))
 ·exact intBits_le (zbm4 h.2 (by unfold bnd;exact zbu1 (by decide) (by decide)))
theorem od_mul:OpD X F (binaryOp .Mult) (kI cMul fun i j=>.int (i*j)):=zaa2 (C:=IntMulOk) (opI fun _ _ _ _ _ _ _ hc q=>mul_int q hc) (fun _ _ h=>cMul.ok h) fun _ _ _=>.int _
theorem cDiv.ok {i j:Int} (h:cDiv i j=true):j≠0∧j.natAbs.log2<9000:=by
 simp only [cDiv,sm,zbk7,decide_eq_true_eq]at h
 have:=zbd1 h.1
 exact⟨h.2,by lia⟩
theorem zh5:OpD X F (binaryOp .FloorDiv) (kI cDiv fun i j=>.int (i.fdiv j)):=zaa2 (C:=fun _ j=>j≠0∧j.natAbs.log2<9000) (opI fun _ _ _ _ _ _ _ hc q=>floordiv_int hc.1 q (.inl (PyProof.noPylong_of_log2 hc.2))) (fun _ _ h=>cDiv.ok h) fun _ _ _=>.int _
noncomputable def cMod (_ j:Int):Bool:=decide (j≠0)
theorem ze8:OpD X F (binaryOp .Mod) (kI cMod fun i j=>.int (i.fmod j)):=zaa2 op_modN (fun i j h=>by simpa [cMod] using h) fun _ _ _=>.int _
noncomputable def cPow (i j:Int):Bool:=decide (0≤j∧j≤1000∧i.natAbs<18446744073709551616)
theorem zai0:OpD X F (binaryOp .Pow) (kI cPow fun i j=>.int (i ^ j.toNat)):=zaa2 op_pow (fun i j h=>by
 simp only [cPow,decide_eq_true_eq]at h
 exact⟨h.1,by lia,by show i.natAbs<2 ^ 64;lia⟩) fun _ _ _=>.int _
theorem zx7:OpD X F (compareOp .Lt) (kI tt2 fun i j=>.bl (decide (i<j))):=zaa2 (zav3 op_lt) (fun _ _ _=>trivial) fun _ _ _=>.bl _
theorem zbc4:OpD X F (compareOp .LtE) (kI tt2 fun i j=>.bl (decide (i≤j))):=zaa2 (zav3 op_le) (fun _ _ _=>trivial) fun _ _ _=>.bl _
theorem od_gt:OpD X F (compareOp .Gt) (kI tt2 fun i j=>.bl (decide (j<i))):=zaa2 (zav3 op_gt) (fun _ _ _=>trivial) fun _ _ _=>.bl _
theorem od_ge:OpD X F (compareOp .GtE) (kI tt2 fun i j=>.bl (decide (j≤i))):=zaa2 (zav3 op_ge) (fun _ _ _=>trivial) fun _ _ _=>.bl _
noncomputable def kOr (k k':Ev→Ev→Option Ev):Ev→Ev→Option Ev:=fun r1 r2=>match k r1 r2 with
 |some r=>some r
 |none=>k' r1 r2
theorem OpD.or {f:Value→Value→Sem Value}{k k':Ev→Ev→Option Ev} (h:OpD X F f k) (h':OpD X F f k'):OpD X F f (kOr k k'):=by
 intro pins s σ H0 H A x y v u Q r1 r2 r I m g0 rx ry q1 q2 e hq
 unfold kOr at e
 split at e
 ·rename_i z
  cases e
  exact h pins s σ H0 H A x y v u Q r1 r2 _ I m g0 rx ry q1 q2 z hq
 ·exact h' pins s σ H0 H A x y v u Q r1 r2 _ I m g0 rx ry q1 q2 e hq
noncomputable def d1 (k:Ev→Option Ev) (fa:DE):DE:=fun t=>(fa t).bind k
noncomputable def kNeg:Ev→Option Ev:=fun r=>match r.d with
 |.int i=>some (.cl (.int (-i)))
 |_=>none
theorem zv0 (ha:PE X a (dE X.K F fa)):PE X (.UnaryOp .USub a pos) (dE X.K F (d1 kNeg fa)):=by
 refine PE.imp (pe_un un_neg ha) ?_
 rintro σ H Q ⟨A,t,r,R,e,h⟩
 unfold d1 at e
 cases e1:fa t with
 |none=>rw [e1]at e;cases e
 |some r1 =>
  rw [e1]at e
  refine⟨A,t,r1,R,e1,fun x H1 g1 q1=>?_⟩
  have e:kNeg r1=some r:=e
  unfold kNeg at e
  split at e
  ·rename_i i z
   cases e
   have p:=q1.full
   rw [z]at p
   exact⟨i,zd4 p,h _ H1 g1 (.int _)⟩
  ·cases e
end
end DL
namespace DL
open PySem.Spec L2
inductive RepEvs (K:zbj6) (F A:List Addr) (H H':Hp):List Ev→List V→Prop
 |nil:RepEvs K F A H H' [] []
 |cons {r:Ev}{v:V}{rs:List Ev}{vs:List V}:RepEv K F A H H' r v→RepEvs K F A H H' rs vs→RepEvs K F A H H' (r::rs) (v::vs)
theorem RepEvs.back {K:zbj6}{F A:List Addr}{H0 H H1:Hp} (e:Same H0 H):∀ {rs:List Ev}{vs:List V},RepEvs K F A H H1 rs vs→RepEvs K F A H0 H1 rs vs
 |_,_,.nil=>.nil
 |_,_,.cons h r=>.cons (h.back e) (RepEvs.back e r)
theorem RepEvs.full {K:zbj6}{F A:List Addr}{H H':Hp}:∀ {rs:List Ev}{vs:List V},RepEvs K F A H H' rs vs→Reps K H' (rs.map Ev.d) vs
 |_,_,.nil=>.nil
 |_,_,.cons h r=>.cons h.full (RepEvs.full r)
theorem RepEvs.cleanF {K:zbj6}{F A:List Addr}{H H':Hp} (m:Lists H (A++F)):∀ {rs:List Ev}{vs:List V},RepEvs K F A H H' rs vs→Reps K (hide F H') (rs.map Ev.d) vs
 |_,_,.nil=>.nil
 |_,_,.cons h r=>.cons (h.cleanF m) (RepEvs.cleanF m r)
theorem RepEvs.clean {K:zbj6}{F A:List Addr}{H H':Hp} (m:Lists H (A++F)) (e:Same H H'):∀ {rs:List Ev}{vs:List V},RepEvs K F A H H' rs vs→rs.all Ev.ok=true→Reps K (hide (A++F) H') (rs.map Ev.d) vs
 |_,_,.nil,_=>.nil
 |_,_,.cons h r,c=>by
  simp only [zbo7,zbk7]at c
  exact .cons (h.clean m e c.1) (RepEvs.clean m e r c.2)
noncomputable abbrev DA:=Th→Option (List Ev)
noncomputable def dA (K:zbj6) (F:List Addr) (f:DA):TA:=fun σ H Q => ∃A t rs,RS K F H A t σ∧f t=some rs∧∀vs H',Same H H'→RepEvs K F A H H' rs vs→Q vs H'
theorem PA.imp {X:Cx}{e:List Expr}{t t':TA} (h:PA X e t) (i:∀σ H Q,t' σ H Q→t σ H Q):PA X e t':=fun pos pins s σ H Q I q=>h pos pins s σ H Q I (i σ H Q q)
noncomputable def dNil:DA:=fun _=>some []
noncomputable def za2 (f:DE) (g:DA):DA:=fun t=>(f t).bind fun r=>(g t).bind fun rs=>some (r::rs)
section
variable {X:Cx}{F:List Addr}{a b c:Expr}{es:List Expr}{fa fb fc:DE}{g:DA}{pos:Pos}
theorem za4:PA X [] (dA X.K F dNil):=PA.imp zr1 fun σ H Q ⟨A,t,rs,R,e,h⟩=>by cases e;exact h [] H (Same.refl H) .nil
theorem za1 (ha:PE X a (dE X.K F fa)) (hr:PA X es (dA X.K F g)) (hs:zbm0 (a::es) X.env=(false,eval a X.env)::zbm0 es X.env:=by rfl):PA X (a::es) (dA X.K F (za2 fa g)):=by
 refine PA.imp (zh2 ha hr hs) ?_
 rintro σ H Q ⟨A,t,rs,R,e,h⟩
 unfold za2 at e
 cases e1:fa t with
 |none=>rw [e1]at e;cases e
 |some r1 =>
  cases e2:g t with
  |none=>rw [e1,e2]at e;cases e
  |some rs2 =>
   rw [e1,e2]at e
   cases e
   exact⟨A,t,r1,R,e1,fun x H1 g1 q1=>⟨A,t,rs2,R.grow g1,e2,fun xs H2 g2 q2=>h _ _ (g1.trans g2) (.cons (q1.mono g2) (q2.back g1))⟩⟩
noncomputable def kTup:List Ev→Option Ev:=fun rs=>if rs.length≤1000 then (if rs.all Ev.ok then some (.cl (.tup (rs.map Ev.d))) else some (.tm (.tup (rs.map Ev.d)))) else none
noncomputable def dT1 (k:List Ev→Option Ev) (g:DA):DE:=fun t=>(g t).bind k
theorem RepEvs.length {K:zbj6}{F A:List Addr}{H H':Hp}:∀ {rs:List Ev}{vs:List V},RepEvs K F A H H' rs vs→vs.length=rs.length
 |_,_,.nil=>rfl
 |_,_,.cons _ r=>by simp [RepEvs.length r]
theorem le_line {n:Nat} (h:n≤100000):n≤sizeLine:=zbq4 h (by rw [sizeLine_eq];decide)
theorem zd2 {H:Hp}{p:Addr}{o:HO} (h:H p=none):Same H (upd H p o):=fun b u e=>by rw [zc9 (fun z=>by rw [z,h]at e;cases e)];exact e
theorem zf7 {x1} (h:PA X es (dA X.K F g)):PE X (.Tuple es x1 pos) (dE X.K F (dT1 kTup g)):=by
 refine PE.imp (pe_tup h) ?_
 rintro σ H Q ⟨A,t,r,R,e,h⟩
 unfold dT1 at e
 cases e1:g t with
 |none=>rw [e1]at e;cases e
 |some rs =>
  rw [e1]at e
  have e:kTup rs=some r:=e
  unfold kTup at e
  split at e
  case isFalse=>cases e
  rename_i hl
  refine⟨A,t,rs,R,e1,fun vs H1 g1 q1=>⟨by rw [q1.length];exact le_line (by lia),fun p hp=>?_⟩⟩
  have s1:=zd2 (o:=HO.tup vs) hp
  refine h _ _ (g1.trans s1) ?_
  have np:p∉A++F:=zd0 (R.mu.mono g1) hp
  split at e
  ·rename_i c
   cases e
   exact .tup (SqT.of (zc4 zc3 np)) (Reps.mono (zc7 s1) (q1.clean R.mu g1 c))
  ·cases e
   exact .tup (SqT.of (zc4 zc3 fun z=>np (zbj5 _ z))) (Reps.mono (zc7 s1) (q1.cleanF R.mu))
noncomputable def kLst:List Ev→Option Ev:=fun rs=>if rs.length≤1000∧rs.all Ev.ok then some (.nw (rs.map Ev.d)) else none
theorem zl3 {P:List Addr}{H:Hp}{p:Addr}{o:HO} (h:H p=none):Same (hide P H) (hide (p::P) (upd H p o)):=fun b u e=>by
 obtain⟨n,e⟩:=zn3 e
 have nb:b≠p:=fun z=>by rw [z,h]at e;cases e
 refine zc4 (by rw [zc9 nb];exact e) fun z=>?_
 rcases zbk5.mp z with z | z
 ·exact nb z
 ·exact n z
theorem zf1 (h:PA X es (dA X.K F g)):PE X (.List es pos) (dE X.K F (dT1 kLst g)):=by
 refine PE.imp (pe_lst h) ?_
 rintro σ H Q ⟨A,t,r,R,e,h⟩
 unfold dT1 at e
 cases e1:g t with
 |none=>rw [e1]at e;cases e
 |some rs =>
  rw [e1]at e
  have e:kLst rs=some r:=e
  unfold kLst at e
  split at e
  case isFalse=>cases e
  rename_i hl
  cases e
  refine⟨A,t,rs,R,e1,fun vs H1 g1 q1=>⟨by rw [q1.length];exact le_line (by lia),fun p hp=>?_⟩⟩
  have s1:=zd2 (o:=HO.lst vs) hp
  refine h _ _ (g1.trans s1) ⟨p,vs,rfl,?_,zc3,Reps.mono (zl3 hp) (q1.clean R.mu g1 hl.2)⟩
  exact Same.free g1 hp
noncomputable def spD (K:zbj6) (G:List D→Option Ev):Sp:=fun vs H Q _ => ∃Fo ds r,Lists H Fo∧Reps K (hide Fo H) ds vs∧G ds=some r∧∀v H',Same H H'→RepEv K Fo [] H H' r v→Q v H'
noncomputable def upEv (ok:Bool) (r:Ev):Ev:=if ok then (match r with
  |.cl d=>.cl d
  |.tm d=>.cl d
  |.nw xs=>.nw xs
  |.dn d=>.dn d) else match r with
  |.cl d=>if flat d then .cl d else .tm d
  |.tm d=>if flat d then .cl d else .tm d
  |.nw xs=>if zg9 xs then .nw xs else .tm (.lst xs)
  |.dn d=>.dn d
noncomputable def zd3 (G:List D→Option Ev):List Ev→Option Ev:=fun rs=>(G (rs.map Ev.d)).map (upEv (rs.all Ev.ok))
theorem call_up {K:zbj6}{A:List Addr}{G:List D→Option Ev}{H0 H:Hp}{rs:List Ev}{r:Ev}{vs:List V}{Q:VK}{E:XK} (m:Lists H0 (A++F)) (g:Same H0 H) (q:RepEvs K F A H0 H rs vs) (e:zd3 G rs=some r)
  (h:∀v H',Same H H'→RepEv K F A H0 H' r v→Q v H'):spD K G vs H Q E:=by
 unfold zd3 at e
 cases e1:G (rs.map Ev.d) with
 |none=>rw [e1]at e;cases e
 |some r0 =>
  rw [e1]at e
  have e:upEv (rs.all Ev.ok) r0=r:=by simpa using e
  have mH:=m.mono g
  by_cases c:rs.all Ev.ok=true
  ·refine⟨A++F,rs.map Ev.d,r0,mH,q.clean m g c,e1,fun v H' g' w=>h v H' g' ?_⟩
   rw [c]at e
   subst e
   cases r0 with
   |cl d=>exact w
   |tm d=>exact w
   |nw xs =>
    obtain⟨p,us,rfl,h1,h2,h3⟩:=w
    exact⟨p,us,rfl,Same.free g h1,h2,h3⟩
   |dn d =>
    obtain⟨B,h1,h2,h3⟩:=w
    exact⟨B,h1,fun b hb=>Same.free g (h2 b hb),h3⟩
  ·refine⟨F,rs.map Ev.d,r0,fun p hp=>mH p (zbj5 _ hp),q.cleanF m,e1,fun v H' g' w=>h v H' g' ?_⟩
   have c:rs.all Ev.ok=false:=by simpa using c
   rw [c]at e
   subst e
   have m':=mH.mono g'
   cases r0 with
   |cl d =>
    show RepEv K F A H0 H' (if flat d then .cl d else .tm d) v
    split
    ·rename_i f;exact Rep.hid m' f (Rep.mono (zb0 _ _) w)
    ·exact w
   |tm d =>
    show RepEv K F A H0 H' (if flat d then .cl d else .tm d) v
    split
    ·rename_i f;exact Rep.hid m' f (Rep.mono (zb0 _ _) w)
    ·exact w
   |nw xs =>
    obtain⟨p,us,rfl,h1,h2,h3⟩:=w
    have np:p∉A++F:=zd0 mH h1
    show RepEv K F A H0 H' (if zg9 xs then .nw xs else .tm (.lst xs)) _
    split
    ·rename_i f
     refine⟨p,us,rfl,Same.free g h1,h2,Reps.hid (P:=p ::(A++F)) (fun b hb=>?_) f (Reps.mono (zb0 _ _) h3)⟩
     rcases zbk5.mp hb with rfl | hb
     ·exact⟨mL us,h2⟩
     ·exact m' b hb
    ·exact .lst (SqL.of (zc4 h2 fun z=>np (zbj5 _ z))) (Reps.mono (zb2 H' fun b z=>zbj9 _ z) h3)
   |dn d =>
    obtain⟨B,h1,h2,h3⟩:=w
    exact⟨B,h1,fun b hb=>Same.free g (h2 b hb),h3.hid (h3.lists.app m') (zb0 _ _)⟩
theorem ped_call {k:Nat}{f:Addr}{fd:FuncData}{ps:List Str}{G:List D→Option Ev}{x:Str}{p:Pos} (Fn:FnOk X.prog X.w X.K X.mg X.base CX0 k f fd ps (spD X.K G)) (hr:Room k X.A) (hg:Gl X x) (hm:X.mg x=some (.ref f)) (hk:zbq7 X.K (.ref f)=true)
  (hb:Binds X.K fd ps []) (ha:PA X (a::es) (dA X.K F g)) (hdb:(x ==("__debug__":Str))=false:=by decide) (he:zbm0 (a::es) X.env=(false,eval a X.env)::zbm0 es X.env:=by rfl)
  (hpl:(zbt6 pos (zbm0 es X.env)).any (·.1)=false:=by rfl):PE X (.Call (.Name x p) (a::es) [] pos) (dE X.K F (dT1 (zd3 G) g)):=by
 refine PE.imp (zbc0 Fn hr hg hm hk hb .nil (E:=E0) pass0 ha hdb he hpl) ?_
 rintro σ H Q ⟨A,t,r,R,e,h⟩
 unfold dT1 at e
 cases e1:g t with
 |none=>rw [e1]at e;cases e
 |some rs =>
  rw [e1]at e
  refine⟨A,t,rs,R,e1,fun vs H1 g1 q1=>?_⟩
  show spD X.K G (vs++[]) H1 Q E0
  rw [zbr1]
  exact call_up R.mu g1 q1 e fun v H' g' w=>h v H' (g1.trans g') w
noncomputable def CallD (X:Cx) (F:List Addr) (f:Value) (k:List Ev→Option Ev):Prop :=
 ∀(pins:List (Addr×Obj)) (s:zbk8) (σ:L2.St) (H0 H:Hp) (A:List Addr) (xs:List V) (us:List Value) (Q:VK) (rs:List Ev) (r:Ev),Inv X pins σ H s→Lists H0 (A++F)→Same H0 H→Vals xs us→RepEvs X.K F A H0 H rs xs→k rs=some r →
  (∀z H',Same H H'→RepEv X.K F A H0 H' r z→Q z H')→wpAny (model X.prog X.w) X.A (call f us) (EP X pins σ Q) X.xe s
theorem PA.run (ha:PA X es (dA X.K F g)) {k:List Ev→Option Ev}{f:Value} (hc:CallD X F f k) {pins:List (Addr×Obj)}{s:zbk8}{σ:L2.St}{H:Hp}{Q:VK} (p:Pos) (I:Inv X pins σ H s) (h:dE X.K F (dT1 k g) σ H Q) :
  wpAny (model X.prog X.w) X.A (spliced (zbt6 p (zbm0 es X.env))) (fun us s1=>wpAny (model X.prog X.w) X.A (call f us) (EP X pins σ Q) X.xe s1) X.xe s:=by
 obtain⟨A,t,r,R,e,h⟩:=h
 unfold dT1 at e
 cases e1:g t with
 |none=>rw [e1]at e;cases e
 |some rs =>
  rw [e1]at e
  refine thn (ha p pins s σ H (fun vs H1=>Same H H1∧RepEvs X.K F A H H1 rs vs) I ⟨A,t,rs,R,e1,fun vs H1 g1 q1=>⟨g1,q1⟩⟩) fun us s1 ⟨vs,H1,I1,r1,g1,q1⟩=>?_
  exact hc pins s1 σ H H1 A vs us Q rs r I1 R.mu g1 r1 q1 e fun z H' g'=>h z H' (g1.trans g')
theorem zb4 {k:List Ev→Option Ev}{x:Str}{p:Pos}{id:String} (hc:CallD X F (.builtin id) k) (hg:Gl X x) (hm:X.mg x=none) (hv:bootBuiltins x=some (.builtin id)) (ha:PA X (a::es) (dA X.K F g)) (hn:x≠"__name__":=by decide) (hdb:(x ==("__debug__":Str))=false:=by decide)
  (he:zbm0 (a::es) X.env=(false,eval a X.env)::zbm0 es X.env:=by rfl) (hpl:(zbt6 pos (zbm0 es X.env)).any (·.1)=false:=by rfl):PE X (.Call (.Name x p) (a::es) [] pos) (dE X.K F (dT1 k g)):=by
 intro pins s σ H Q I h
 refine wpAny_Call_Name_kw (zn7 I hg hm hv ?_ hn hdb)
 exact PyProof.Rows.callWith_builtin1 (PA.run ha hc pos I h) he hpl
theorem zh1 {k:List Ev→Option Ev}{x:Str}{p:Pos}{T:String} (hc:CallD X F (.type T) k) (hg:Gl X x) (hm:X.mg x=none) (hv:bootBuiltins x=some (.type T)) (ha:PA X (a::es) (dA X.K F g)) (hn:x≠"__name__":=by decide) (hdb:(x ==("__debug__":Str))=false:=by decide)
  (he:zbm0 (a::es) X.env=(false,eval a X.env)::zbm0 es X.env:=by rfl) (hpl:(zbt6 pos (zbm0 es X.env)).any (·.1)=false:=by rfl):PE X (.Call (.Name x p) (a::es) [] pos) (dE X.K F (dT1 k g)):=by
 intro pins s σ H Q I h
 refine wpAny_Call_Name_kw (zn7 I hg hm hv ?_ hn hdb)
 exact PyProof.Rows.callWith_type1 (PA.run ha hc pos I h) he hpl
theorem CallD.of {f:Value}{r:List V→Hp→VK→Prop}{k:List Ev→Option Ev} (h:zq7 X f r)
  (i:∀(H0 H:Hp) (A:List Addr) (xs:List V) (rs:List Ev) (e:Ev) (Q:VK),Lists H0 (A++F)→Same H0 H→RepEvs X.K F A H0 H rs xs→k rs=some e→(∀z H',Same H H'→RepEv X.K F A H0 H' e z→Q z H')→r xs H Q):CallD X F f k :=
 fun pins s σ H0 H A xs us Q rs e I m g v q ek hq=>h pins s σ H xs us Q I v (i H0 H A xs rs e Q m g q ek hq)
noncomputable def kLen:List Ev→Option Ev:=fun rs=>match rs with
 |[r]=>(match r.d with
  |.lst xs=>some (.cl (.int xs.length))
  |.tup xs=>some (.cl (.int xs.length))
  |_=>none)
 |_=>none
theorem zk1:CallD X F (.builtin "len") kLen:=CallD.of zak3 fun H0 H A xs rs e Q m g q ek hq=>by
 unfold kLen at ek
 split at ek
 ·rename_i r
  cases q with
  |cons q1 q2 =>
   cases q2
   have p:=q1.full
   split at ek
   ·rename_i ds z
    cases ek
    rw [z]at p
    cases p with
    |lst h1 h2=>exact⟨_,_,rfl,.inl h1,by rw [h2.length];exact hq _ H (Same.refl H) (.int _)⟩
   ·rename_i ds z
    cases ek
    rw [z]at p
    cases p with
    |tup h1 h2=>exact⟨_,_,rfl,.inr h1,by rw [h2.length];exact hq _ H (Same.refl H) (.int _)⟩
   ·cases ek
 ·cases ek
end
end DL
namespace DL
open PySem.Spec L2
noncomputable abbrev DT:=Th→Option Bool
noncomputable def dT (K:zbj6) (F:List Addr) (f:DT):TT:=fun σ H Q => ∃A t b,RS K F H A t σ∧f t=some b∧∀H',Same H H'→Q b H'
theorem PT.imp {X:Cx}{e:Expr}{t t':TT} (h:PT X e t) (i:∀σ H Q,t' σ H Q→t σ H Q):PT X e t':=fun pins s σ H Q I q=>h pins s σ H Q I (i σ H Q q)
theorem PW.imp {X:Cx}{e:Expr}{t t':TT} (h:PW X e t) (i:∀σ H Q,t' σ H Q→t σ H Q):PW X e t':=fun w pins s σ H Q I q=>h w pins s σ H Q I (i σ H Q q)
noncomputable def truD:D→Option Bool
 |.non=>some false
 |.bl b=>some b
 |.int i=>some (i != 0)
 |.tup xs=>some (!xs.isEmpty)
 |.lst xs=>some (!xs.isEmpty)
 |.dct ks _=>some (!ks.isEmpty)
 |.pdc _=>none
 |.str y=>if y.length≤100000 then some ((y.length:Int) != 0) else none
theorem zr5 {α β:Type}{xs:List α}{ys:List β} (h:xs.length=ys.length):xs.isEmpty=ys.isEmpty:=by
 cases xs<;>cases ys<;>simp_all
theorem truV_of {K:zbj6}{H:Hp}{d:D}{v:V}{b:Bool} (r:Rep K H d v) (e:truD d=some b):TruV K v H b:=by
 cases r with
 |non=>cases e;rfl
 |bl b=>cases e;rfl
 |int i=>cases e;rfl
 |str x =>
  simp only [truD]at e
  split at e
  ·cases e;exact⟨le_line (by assumption),rfl⟩
  ·cases e
 |tup h1 h2=>cases e;exact .inr (.inl ⟨_,h1,by rw [zr5 h2.length]⟩)
 |lst h1 h2=>cases e;exact .inl ⟨_,h1,by rw [zr5 h2.length]⟩
 |@dct ks ds p vs l h1 h2 =>
  cases e
  have e1:(mkKV ks vs).length=ks.length:=by unfold mkKV;rw [List.length_zip];lia
  exact .inr (.inr ⟨_,h1,by rw [zr5 e1]⟩)
 |pdc h=>cases e
noncomputable def dTr (f:DE):DT:=fun t=>(f t).bind fun r=>truD r.d
noncomputable def dBo (f:DE):DT:=fun t=>(f t).bind fun r=>match r.d with
 |.bl b=>some b
 |_=>none
noncomputable def dAnd (f g:DT):DT:=fun t=>(f t).bind fun b=>if b then g t else some false
noncomputable def dOr (f g:DT):DT:=fun t=>(f t).bind fun b=>if b then some true else g t
noncomputable def dNot (f:DT):DT:=fun t=>(f t).bind fun b=>some (!b)
section
variable {X:Cx}{F:List Addr}{a b c:Expr}{es:List Expr}{fa fb fc:DE}{g g':DA}{ft fu:DT}{pos:Pos}{rest:List Expr}
theorem zo0 (ha:PE X a (dE X.K F fa)) (he:∀whole,isTrue a X.env whole=(do let v ← whole;standAt a.pos;holding [v] (truthy v)):=by intro _;rfl):PT X a (dT X.K F (dTr fa)):=by
 refine PT.imp (pt_truth ha he) ?_
 rintro σ H Q ⟨A,t,r,R,e,h⟩
 unfold dTr at e
 cases e1:fa t with
 |none=>rw [e1]at e;cases e
 |some r1 =>
  rw [e1]at e
  exact⟨A,t,r1,R,e1,fun v H' g' q=>⟨r,truV_of q.full e,h H' g'⟩⟩
theorem zc8 {op:CmpOp}{k:Ev→Ev→Option Ev} (ho:OpD X F (compareOp op) k) (ha:PE X a (dE X.K F fa)) (hb:PE X b (dE X.K F fb)) (hm:behindInMarks op b=false:=by first | exact nomark _ | (with_unfolding_all rfl)) :
  PT X (.Compare a [op] [b] pos) (dT X.K F (dBo (d2 k fa fb))):=by
 intro pins s σ H Q I h
 obtain⟨A,t,b',R,e,h⟩:=h
 unfold dBo at e
 cases e1:d2 k fa fb t with
 |none=>rw [e1]at e;cases e
 |some r0 =>
  rw [e1]at e
  have w0:dE X.K F (d2 k fa fb) σ H (fun z H'=>Same H H'∧Rep X.K H' r0.d z):=⟨A,t,r0,R,e1,fun v H' g q=>⟨g,q.full⟩⟩
  obtain⟨A2,t2,r1,r2,r,R2,e1',e2',e3,h3,w⟩:=two w0
  refine wpAny_isTrue_Compare1 (bin ha hb I w fun v u s2 x y H2 I2 rx ry q=>?_) hm
  obtain⟨g,q1,q2⟩:=q
  refine thn (ho pins s2 σ H H2 A2 x y v u (fun z H'=>Same H H'∧Rep X.K H' r0.d z) r1 r2 r I2 R2.mu g rx ry q1 q2 e3 fun z H' g'=>h3 z H' (g.trans g')) fun cc s3 ⟨z,H3,I3,r3,g3,q3⟩=>?_
  have e:(match r0.d with | .bl b=>some b | _=>none)=some b':=e
  split at e
  ·rename_i b2 z2
   cases e
   rw [z2]at q3
   cases q3
   cases r3
   exact wpAny_truthy_bool ⟨H3,I3,h H3 g3⟩
  ·cases e
theorem zl0 (ha:PT X a (dT X.K F ft)):PW X (.BoolOp .And [a] pos) (dT X.K F ft):=pw_and1 ha
theorem zx2 (ha:PT X a (dT X.K F ft)):PW X (.BoolOp .Or [a] pos) (dT X.K F ft):=pw_or1 ha
theorem zn9 (ha:PT X a (dT X.K F ft)) (hb:PW X (.BoolOp .And (b::rest) pos) (dT X.K F fu)):PW X (.BoolOp .And (a::b::rest) pos) (dT X.K F (dAnd ft fu)):=by
 refine PW.imp (pw_and ha hb) ?_
 rintro σ H Q ⟨A,t,r,R,e,h⟩
 unfold dAnd at e
 cases e1:ft t with
 |none=>rw [e1]at e;cases e
 |some r1 =>
  rw [e1]at e
  refine⟨A,t,r1,R,e1,fun H1 g1=>?_⟩
  cases r1 with
  |true=>exact⟨A,t,r,R.grow g1,e,fun H2 g2=>h H2 (g1.trans g2)⟩
  |false=>cases e;exact h H1 g1
theorem zag9 (ha:PT X a (dT X.K F ft)) (hb:PW X (.BoolOp .Or (b::rest) pos) (dT X.K F fu)):PW X (.BoolOp .Or (a::b::rest) pos) (dT X.K F (dOr ft fu)):=by
 refine PW.imp (pw_or ha hb) ?_
 rintro σ H Q ⟨A,t,r,R,e,h⟩
 unfold dOr at e
 cases e1:ft t with
 |none=>rw [e1]at e;cases e
 |some r1 =>
  rw [e1]at e
  refine⟨A,t,r1,R,e1,fun H1 g1=>?_⟩
  cases r1 with
  |true=>cases e;exact h H1 g1
  |false=>exact⟨A,t,r,R.grow g1,e,fun H2 g2=>h H2 (g1.trans g2)⟩
theorem zu8 (ha:PT X a (dT X.K F ft)):PT X (.UnaryOp .Not a pos) (dT X.K F (dNot ft)):=by
 refine PT.imp (pt_not ha) ?_
 rintro σ H Q ⟨A,t,r,R,e,h⟩
 unfold dNot at e
 cases e1:ft t with
 |none=>rw [e1]at e;cases e
 |some r1 =>
  rw [e1]at e
  cases e
  exact⟨A,t,r1,R,e1,fun H1 g1=>h H1 g1⟩
noncomputable def dOrV (f g:DE):DE:=fun t=>(f t).bind fun r=>match r.d with
 |.bl b=>if b then some (.cl (.bl true)) else g t
 |_=>none
theorem ped_one {op} (h:PE X a (dE X.K F fa)):PE X (.BoolOp op [a] pos) (dE X.K F fa):=pe_one h
theorem ped_or (ha:PE X a (dE X.K F fa)) (hb:PE X (.BoolOp .Or (b::rest) pos) (dE X.K F fb)):PE X (.BoolOp .Or (a::b::rest) pos) (dE X.K F (dOrV fa fb)):=by
 refine PE.imp (pe_or ha hb) ?_
 rintro σ H Q ⟨A,t,r,R,e,h⟩
 unfold dOrV at e
 cases e1:fa t with
 |none=>rw [e1]at e;cases e
 |some r1 =>
  rw [e1]at e
  refine⟨A,t,r1,R,e1,fun v H1 g1 q1=>?_⟩
  have p:=q1.full
  have e:(match r1.d with | .bl b=>if b then some (.cl (.bl true)) else fb t | _=>none)=some r:=e
  split at e
  ·rename_i b2 z
   rw [z]at p
   cases p
   refine⟨b2,rfl,?_⟩
   cases b2 with
   |false=>exact⟨A,t,r,R.grow g1,e,fun v2 H2 g2 q2=>h v2 H2 (g1.trans g2) (q2.back g1)⟩
   |true=>cases e;exact h _ H1 g1 (.bl true)
  ·cases e
end
inductive Out where
 |nx (t:Th) |rt (r:Ev) |bk (t:Th) |ct (t:Th)
noncomputable abbrev DS:=Th→Option Out
noncomputable def After (K:zbj6) (F A:List Addr) (H:Hp) (N:L2.St→Hp→Prop) (t:Th):Prop := ∀σ' H' A',Gr A H A' H'→RS K F H' A' t σ'→N σ' H'
noncomputable def RetEv (K:zbj6) (F A:List Addr) (H H':Hp):Ev→V→Prop
 |.cl d,v=>Rep K (hide F H') d v
 |.tm d,v=>Rep K (hide F H') d v
 |.nw xs,v => ∃p vs,v=.ref p∧(p∈A∨H p=none)∧p∉F∧H' p=some (.lst vs)∧Reps K (hide (p::F) H') xs vs
 |.dn d,v => ∃B,B.Nodup∧(∀b∈B,(b∈A∨H b=none)∧b∉F)∧RepD K (hide (B++F) H') H' d v B
noncomputable def Back (K:zbj6) (F A:List Addr) (H:Hp) (N:VK) (r:Ev):Prop := ∀v H' A',Gr A H A' H'→RetEv K F A H H' r v→N v H'
noncomputable def dS (K:zbj6) (F:List Addr) (g:DS):TS:=fun E σ H => ∃A t o,RS K F H A t σ∧g t=some o∧match o with
 |.nx t'=>After K F A H E.nx t'
 |.bk t'=>After K F A H E.bk t'
 |.ct t'=>After K F A H E.ct t'
 |.rt r=>Back K F A H E.rt r
end DL
namespace DL
open PySem.Spec L2
theorem RetEv.back {K:zbj6}{F A A1:List Addr}{H H1 H':Hp}{r:Ev}{v:V} (g:Gr A H A1 H1) (h:RetEv K F A1 H1 H' r v):RetEv K F A H H' r v:=by
 cases r with
 |cl d=>exact h
 |tm d=>exact h
 |nw xs =>
  obtain⟨p,vs,rfl,h1,h2,h3,h4⟩:=h
  refine⟨p,vs,rfl,?_,h2,h3,h4⟩
  rcases h1 with h1 | h1
  ·exact g.nw p h1
  ·by_cases z:p∈A
   ·exact .inl z
   ·refine .inr ?_
    cases w:H p with
    |none=>rfl
    |some o=>rw [g.kp p o z w]at h1;cases h1
 |dn d =>
  obtain⟨B,h0,h1,h2⟩:=h
  refine⟨B,h0,fun p hp=>⟨?_,(h1 p hp).2⟩,h2⟩
  rcases (h1 p hp).1 with h1 | h1
  ·exact g.nw p h1
  ·by_cases z:p∈A
   ·exact .inl z
   ·refine .inr ?_
    cases w:H p with
    |none=>rfl
    |some o=>rw [g.kp p o z w]at h1;cases h1
theorem After.back {K:zbj6}{F A A1:List Addr}{H H1:Hp}{N:L2.St→Hp→Prop}{t:Th} (h:After K F A H N t) (g:Gr A H A1 H1):After K F A1 H1 N t:=fun σ' H' A' g' R=>h σ' H' A' (g.trans g') R
theorem Back.back {K:zbj6}{F A A1:List Addr}{H H1:Hp}{N:VK}{r:Ev} (h:Back K F A H N r) (g:Gr A H A1 H1):Back K F A1 H1 N r:=fun v H' A' g' R=>h v H' A' (g.trans g') (R.back g)
theorem PS.imp {X:Cx}{e:Stmt}{t t':TS} (h:PS X e t) (i:∀E σ H,t' E σ H→t E σ H):PS X e t':=fun pins s σ H D I q=>h pins s σ H D I (i D σ H q)
theorem PSs.imp {X:Cx}{e:List Stmt}{t t':TS} (h:PSs X e t) (i:∀E σ H,t' E σ H→t E σ H):PSs X e t':=fun pins s σ H D I q=>h pins s σ H D I (i D σ H q)
theorem Lists.left {H:Hp}{A F:List Addr} (h:Lists H (A++F)):Lists H A:=fun p hp=>h p (zbj7 _ hp)
noncomputable def zk6:DS:=fun t=>some (.nx t)
noncomputable def dSeq (g1 g2:DS):DS:=fun t=>(g1 t).bind fun o=>match o with
 |.nx t'=>g2 t'
 |.rt r=>some (.rt r)
 |.bk t'=>some (.bk t')
 |.ct t'=>some (.ct t')
section
variable {X:Cx}{F:List Addr}{a b c:Expr}{es:List Expr}{fa fb fc:DE}{g g1 g2:DS}{ft fu:DT}{pos:Pos}{st:Stmt}{rest:List Stmt}
theorem zh7:PSs X [] (dS X.K F zk6):=PSs.imp zam0 fun E σ H ⟨A,t,o,R,e,h⟩=>by cases e;exact h σ H A (Gr.refl R.mu.left) R
theorem za6 (h1:PS X st (dS X.K F g1)) (h2:PSs X rest (dS X.K F g2)):PSs X (st::rest) (dS X.K F (dSeq g1 g2)):=by
 refine PSs.imp (zp7 h1 h2) ?_
 rintro E σ H ⟨A,t,o,R,e,h⟩
 unfold dSeq at e
 cases e1:g1 t with
 |none=>rw [e1]at e;cases e
 |some o1 =>
  rw [e1]at e
  refine⟨A,t,o1,R,e1,?_⟩
  cases o1 with
  |nx t' =>
   intro σ' H' A' g' R'
   refine⟨A',t',o,R',e,?_⟩
   cases o with
   |nx t2=>exact After.back h g'
   |bk t2=>exact After.back h g'
   |ct t2=>exact After.back h g'
   |rt r=>exact Back.back h g'
  |rt r=>cases e;exact h
  |bk t2=>cases e;exact h
  |ct t2=>cases e;exact h
theorem zb5 (h1:PS X st (dS X.K F g1)):PSs X [st] (dS X.K F g1):=zad4 h1
noncomputable def dIfS (c:DT) (g1 g2:DS):DS:=fun t=>(c t).bind fun b=>if b then g1 t else g2 t
theorem zj7 {s1 s2:List Stmt} (hc:PT X c (dT X.K F ft)) (ha:PSs X s1 (dS X.K F g1)) (hb:PSs X s2 (dS X.K F g2)):PS X (.If c s1 s2 pos) (dS X.K F (dIfS ft g1 g2)):=by
 refine PS.imp (ps_if hc ha hb) ?_
 rintro E σ H ⟨A,t,o,R,e,h⟩
 unfold dIfS at e
 cases e1:ft t with
 |none=>rw [e1]at e;cases e
 |some r1 =>
  rw [e1]at e
  refine⟨A,t,r1,R,e1,fun H1 gs=>?_⟩
  have gr:Gr A H A H1:=Gr.of_same R.mu.left gs
  cases r1 with
  |true =>
   refine⟨A,t,o,R.grow gs,e,?_⟩
   cases o with
   |nx t2=>exact After.back h gr
   |bk t2=>exact After.back h gr
   |ct t2=>exact After.back h gr
   |rt r=>exact Back.back h gr
  |false =>
   refine⟨A,t,o,R.grow gs,e,?_⟩
   cases o with
   |nx t2=>exact After.back h gr
   |bk t2=>exact After.back h gr
   |ct t2=>exact After.back h gr
   |rt r=>exact Back.back h gr
noncomputable def dRet (f:DE):DS:=fun t=>(f t).bind fun r=>some (.rt r)
theorem RetEv.of {K:zbj6}{F A:List Addr}{H H':Hp}{r:Ev}{v:V} (m:Lists H (A++F)) (h:RepEv K F A H H' r v):RetEv K F A H H' r v:=by
 cases r with
 |cl d=>exact Rep.mono (zb2 H' fun a z=>zbj5 _ z) h
 |tm d=>exact h
 |nw xs =>
  obtain⟨p,vs,rfl,h1,h2,h3⟩:=h
  have np:p∉A++F:=zd0 m h1
  refine⟨p,vs,rfl,.inr h1,fun z=>np (zbj5 _ z),h2,Reps.mono (zb2 H' fun a z=>?_) h3⟩
  rcases zbk5.mp z with z | z
  ·rw [z];exact zbk2 ..
  ·exact zbj9 _ (zbj5 _ z)
 |dn d =>
  obtain⟨B,h1,h2,h3⟩:=h
  refine⟨B,h1,fun b hb=>⟨.inr (h2 b hb),fun z=>zd0 m (h2 b hb) (zbj5 _ z)⟩,RepD.mono (zb2 H' fun a z=>?_) h3 fun _ _ _ q=>q⟩
  rcases zbk1.mp z with z | z
  ·exact zbj7 _ z
  ·exact zbj5 _ (zbj5 _ z)
theorem zd5 (ha:PE X a (dE X.K F fa)):PS X (.Return (some a) pos) (dS X.K F (dRet fa)):=by
 refine PS.imp (ps_ret ha) ?_
 rintro E σ H ⟨A,t,o,R,e,h⟩
 unfold dRet at e
 cases e1:fa t with
 |none=>rw [e1]at e;cases e
 |some r1 =>
  rw [e1]at e
  cases e
  exact⟨A,t,r1,R,e1,fun v H' gs q=>h v H' A (Gr.of_same R.mu.left gs) (RetEv.of R.mu q)⟩
noncomputable def dRetO (i:Nat):DS:=fun t=>match t[i]? with
 |some (.own xs)=>some (.rt (.nw xs))
 |some (.val d)=>some (.rt (.cl d))
 |some (.dp d)=>some (.rt (.dn d))
 |_=>none
theorem psd_retO (i:Nat) {x:Str}{pos':Pos} (hN:X.N[i]?=some x:=by rfl) (hv:Vis X.env.scope x:=by first | exact Or.inl rfl | exact Or.inr (Or.inl rfl) |exact Or.inr (Or.inr rfl)) (hd:(x ==("__debug__":Str))=false:=by decide)
  (hcd:(x ==("__classdict__":Str))=false:=by decide):PS X (.Return (some (.Name x pos')) pos) (dS X.K F (dRetO i)):=by
 refine PS.imp (ps_ret (zr0 (i:=i) hN hv hd hcd)) ?_
 rintro E σ H ⟨A,t,o,R,e,h⟩
 unfold dRetO at e
 split at e
 ·rename_i ds q
  cases e
  obtain⟨p,vs,h1,h2,h3,h4⟩:=R.rel.getOwn q
  refine⟨_,h1,h _ H A (Gr.refl R.mu.left) ⟨p,vs,rfl,.inl h2,R.dj p h2,h3,Reps.mono (zb2 H fun a z=>?_) h4⟩⟩
  rcases zbk5.mp z with z | z
  ·rw [z];exact zbj7 _ h2
  ·exact zbj5 _ z
 ·rename_i d q
  cases e
  obtain⟨v,h1,h2⟩:=R.rel.getVal q
  exact⟨v,h1,h v H A (Gr.refl R.mu.left) (Rep.mono (zb2 H fun a z=>zbj5 _ z) h2)⟩
 ·rename_i d q
  cases e
  obtain⟨v,B,h1,h2,h0,h3⟩:=R.rel.getDp R.nd q
  refine⟨v,h1,h v H A (Gr.refl R.mu.left) ⟨B,h0,fun b hb=>⟨.inl (h2 b hb),R.dj b (h2 b hb)⟩,RepD.mono (zb2 H fun a z=>?_) h3 fun _ _ _ q=>q⟩⟩
  rcases zbk1.mp z with z | z
  ·exact zbj7 _ (h2 a z)
  ·exact zbj5 _ z
 ·cases e
end
theorem RSl.setVal {K:zbj6}{H0 H:Hp}{d:D}{v:V} (h:Rep K H0 d v):∀ {t:Th}{σ:L2.St}{A:List Addr} (i:Nat),RSl K H0 H t σ A→i<t.length→∃A',RSl K H0 H (t.set i (.val d)) (σ.set i (some v)) A'∧List.Sublist A' A
 |_,_,_,_,.nil,l=>by simp at l
 |_,_,_,0,.no r,_=>⟨_,.val h r,List.Sublist.refl _⟩
 |_,_,_,0,.val _ r,_=>⟨_,.val h r,List.Sublist.refl _⟩
 |_,_,_,0,.own _ _ r,_=>⟨_,.val h r,zca2 _ _⟩
 |_,_,_,0,.dp _ r,_=>⟨_,.val h r,zby0 _ _⟩
 |_,_,_,i+1,.no r,l=>let ⟨A',a,b⟩:=RSl.setVal h i r (by simpa using l);⟨A',.no a,b⟩
 |_,_,_,i+1,.val q r,l=>let ⟨A',a,b⟩:=RSl.setVal h i r (by simpa using l);⟨A',.val q a,b⟩
 |_,_,_,i+1,.own q1 q2 r,l=>let ⟨A',a,b⟩:=RSl.setVal h i r (by simpa using l);⟨_,.own q1 q2 a,b.cons₂ _⟩
 |_,_,_,i+1,.dp q r,l=>let ⟨A',a,b⟩:=RSl.setVal h i r (by simpa using l);⟨_,.dp q a,List.Sublist.append (List.Sublist.refl _) b⟩
theorem RSl.setAny {K:zbj6}{H0 H:Hp}{s:Sl}{v:V}{B:List Addr} (h:∀ {t:Th}{σ:L2.St}{A:List Addr},RSl K H0 H t σ A→RSl K H0 H (s::t) (some v::σ) (B++A)):∀ {t:Th}{σ:L2.St}{A:List Addr} (i:Nat),RSl K H0 H t σ A→i<t.length →
  ∃A',RSl K H0 H (t.set i s) (σ.set i (some v)) A'∧(∀x∈A',x∈B∨x∈A)∧(A.Nodup→B.Nodup→(∀b∈B,b∉A)→A'.Nodup)
 |_,_,_,_,.nil,l=>by simp at l
 |_,_,A,0,.no r,_=>⟨_,h r,fun x hx=>zbk1.mp hx,fun n1 n2 d=>zbm8.mpr ⟨n2,n1,fun a ha b hb e=>d a ha (e ▸ hb)⟩⟩
 |_,_,A,0,.val _ r,_=>⟨_,h r,fun x hx=>zbk1.mp hx,fun n1 n2 d=>zbm8.mpr ⟨n2,n1,fun a ha b hb e=>d a ha (e ▸ hb)⟩⟩
 |_,_,_,0,.own _ _ r,_=>⟨_,h r,fun x hx=>(zbk1.mp hx).imp id (zbj9 _),fun n1 n2 d=>zbm8.mpr ⟨n2,(zbm9.mp n1).2,fun a ha b hb e=>d a ha (e ▸ zbj9 _ hb)⟩⟩
 |_,_,_,0,.dp _ r,_=>⟨_,h r,fun x hx=>(zbk1.mp hx).imp id (zbj5 _),fun n1 n2 d=>zbm8.mpr ⟨n2,(zbm8.mp n1).2.1,fun a ha b hb e=>d a ha (e ▸ zbj5 _ hb)⟩⟩
 |_,_,_,i+1,.no r,l=>let ⟨A',a,b,c⟩:=RSl.setAny h i r (by simpa using l);⟨A',.no a,b,c⟩
 |_,_,_,i+1,.val q r,l=>let ⟨A',a,b,c⟩:=RSl.setAny h i r (by simpa using l);⟨A',.val q a,b,c⟩
 |_,_,_,i+1,.own (p:=p2) q1 q2 r,l=>by
  obtain⟨A',a,b,c⟩:=RSl.setAny h i r (by simpa using l)
  refine⟨_,.own q1 q2 a,fun x hx=>?_,fun nd nb np=>?_⟩
  ·rcases zbk5.mp hx with z | z
   ·exact .inr (z ▸ zbk2 ..)
   ·exact (b x z).imp id (zbj9 _)
  ·have n1:=zbm9.mp nd
   refine zbm9.mpr ⟨fun z=>?_,c n1.2 nb fun x hx z=>np x hx (zbj9 _ z)⟩
   rcases b _ z with z | z
   ·exact np _ z (zbk2 ..)
   ·exact n1.1 z
 |_,_,_,i+1,.dp (B:=C) q r,l=>by
  obtain⟨A',a,b,c⟩:=RSl.setAny h i r (by simpa using l)
  refine⟨_,.dp q a,fun x hx=>?_,fun nd nb np=>?_⟩
  ·rcases zbk1.mp hx with z | z
   ·exact .inr (zbj7 _ z)
   ·exact (b x z).imp id (zbj5 _)
  ·have n1:=zbm8.mp nd
   refine zbm8.mpr ⟨n1.1,c n1.2.1 nb fun x hx z=>np x hx (zbj5 _ z),fun x hx y hy e=>?_⟩
   subst e
   rcases b _ hy with z | z
   ·exact np _ z (zbj7 _ hx)
   ·exact n1.2.2 _ hx _ z rfl
theorem RS.putAny {K:zbj6}{F A:List Addr}{H H':Hp}{t:Th}{σ:L2.St}{i:Nat}{s:Sl}{v:V}{B:List Addr} (R:RS K F H A t σ) (g:Same H H') (fr:∀b∈B,H b=none) (nb:B.Nodup) (lb:Lists H' B)
  (mk:∀ {t:Th}{σ:L2.St}{A':List Addr},RSl K (hide (B++(A++F)) H') H' t σ A'→RSl K (hide (B++(A++F)) H') H' (s::t) (some v::σ) (B++A')) (hi:i<t.length) :
  ∃A',Gr A H A' H'∧RS K F H' A' (t.set i s) (σ.set i (some v)):=by
 have R':=R.grow g
 have np:∀b∈B,b∉A++F:=fun b hb=>zd0 R.mu (fr b hb)
 have r0:RSl K (hide (B++(A++F)) H') H' t σ A:=RSl.mono (fun b o h=>by
  obtain⟨n,h⟩:=zn3 h
  refine zc4 (g _ _ h) fun z=>?_
  rcases zbk1.mp z with z | z
  ·rw [fr b z]at h;cases h
  ·exact n z) R.rel fun b _ o h=>g _ _ h
 obtain⟨A',r1,sub,nd⟩:=RSl.setAny mk i r0 hi
 refine⟨A',⟨fun b o _ h=>g b o h,fun b hb=>by obtain⟨ws,z⟩:=R.mu b (zbj7 _ hb);rw [g _ _ z];simp,fun b hb=>?_⟩,?_,nd R.nd nb fun b hb z=>np b hb (zbj7 _ z),fun b hb=>?_,?_⟩
 ·rcases sub b hb with z | z
  ·exact .inr (fr b z)
  ·exact .inl z
 ·intro b hb
  rcases zbk1.mp hb with z | z
  ·rcases sub b z with z | z
   ·exact lb b z
   ·exact R'.mu b (zbj7 _ z)
  ·exact R'.mu b (zbj5 _ z)
 ·rcases sub b hb with z | z
  ·exact fun w=>np b z (zbj5 _ w)
  ·exact R.dj b z
 ·refine RSl.mono (zb2 H' fun b z=>?_) r1 fun _ _ _ h=>h
  rcases zbk1.mp z with z | z
  ·rcases sub b z with z | z
   ·exact zbj7 _ z
   ·exact zbj5 _ (zbj7 _ z)
  ·exact zbj5 _ (zbj5 _ z)
noncomputable def zs3 (t:Th) (i:Nat) (r:Ev):Option Th:=if i<t.length then (match r with
 |.cl d=>some (t.set i (.val d))
 |.tm d=>if flat d then some (t.set i (.val d)) else none
 |.nw xs=>some (t.set i (.own xs))
 |.dn d=>some (t.set i (.dp d))) else none
theorem RS.put {K:zbj6}{F A:List Addr}{H H':Hp}{t t':Th}{σ:L2.St}{i:Nat}{r:Ev}{v:V} (R:RS K F H A t σ) (g:Same H H') (q:RepEv K F A H H' r v) (e:zs3 t i r=some t') :
  ∃A',Gr A H A' H'∧RS K F H' A' t' (σ.set i (some v)):=by
 have R':=R.grow g
 have val:∀d,Rep K (hide (A++F) H') d v→i<t.length→∃A',Gr A H A' H'∧RS K F H' A' (t.set i (.val d)) (σ.set i (some v)):=fun d hd hi=>by
  obtain⟨A',r1,sub⟩:=RSl.setVal hd i R'.rel hi
  have sub':∀x∈A',x∈A:=fun x hx=>sub.subset hx
  refine⟨A',⟨fun b o _ h=>g b o h,fun b hb=>by obtain⟨vs,z⟩:=R.mu b (zbj7 _ hb);rw [g _ _ z];simp,fun b hb=>.inl (sub' b hb)⟩,?_,R.nd.sublist sub,fun p hp=>R.dj p (sub' p hp),?_⟩
  ·intro p hp
   rcases zbk1.mp hp with z | z
   ·exact R'.mu p (zbj7 _ (sub' p z))
   ·exact R'.mu p (zbj5 _ z)
  ·refine RSl.mono (zb2 H' fun a z=>?_) r1 fun _ _ _ h=>h
   rcases zbk1.mp z with z | z
   ·exact zbj7 _ (sub' a z)
   ·exact zbj5 _ z
 unfold zs3 at e
 split at e
 case isFalse=>cases e
 rename_i hi
 cases r with
 |cl d=>cases e;exact val d q hi
 |tm d =>
  simp only at e
  split at e
  ·rename_i f
   cases e
   exact val d (Rep.hid R'.mu f (Rep.mono (zb0 _ _) q)) hi
  ·cases e
 |nw xs =>
  cases e
  obtain⟨p,vs,rfl,h1,h2,h3⟩:=q
  exact R.putAny (B:=[p]) g (fun b hb=>by simp at hb;subst hb;exact h1) (by simp) (fun b hb=>by simp at hb;subst hb;exact⟨mL vs,h2⟩) (fun r=>.own h2 h3 r) hi
 |dn d =>
  cases e
  obtain⟨B,h1,h2,h3⟩:=q
  exact R.putAny (B:=B) g h2 h1 h3.lists (fun r=>.dp h3 r) hi
section
variable {X:Cx}{F:List Addr}{a b c:Expr}{es:List Expr}{fa fb fc:DE}{g g1 g2:DS}{ft fu:DT}{pos:Pos}{st:Stmt}{rest:List Stmt}
noncomputable def dAsg (i:Nat) (f:DE):DS:=fun t=>(f t).bind fun r=>(zs3 t i r).map Out.nx
theorem zb9 {i:Nat}{x:Str}{pos':Pos} (hN:X.N.Nodup) (hi:X.N[i]?=some x) (hx:Loc X.env.scope x) (he:PE X a (dE X.K F fa)) (hs:swapsWith a (some (.Name x pos')) pos.line X.env=pure false:=by rfl) (hf:X.fn x=true∨X.env.scope.names.lookup x=some .local:=by first | exact .inl rfl | exact .inr rfl | assumption) :
  PS X (.Assign [.Name x pos'] a pos) (dS X.K F (dAsg i fa)):=by
 refine PS.imp (zah1 hN hi hx he hs hf) ?_
 rintro E σ H ⟨A,t,o,R,e,h⟩
 unfold dAsg at e
 cases e1:fa t with
 |none=>rw [e1]at e;cases e
 |some r1 =>
  rw [e1]at e
  have e:(zs3 t i r1).map Out.nx=some o:=e
  cases e2:zs3 t i r1 with
  |none=>rw [e2]at e;cases e
  |some t' =>
   rw [e2]at e
   cases e
   refine⟨A,t,r1,R,e1,fun v H' gs q=>?_⟩
   obtain⟨A',g',R'⟩:=R.put gs q e2
   exact h _ _ _ g' R'
end
end DL
namespace DL
open PySem.Spec L2
noncomputable def TgOk (K:zbj6) (F:List Addr) (g:TG) (k:D→Th→Option Th):Prop :=
 ∀σ H A t t' d x (Q:L2.St→Hp→Prop),RS K F H A t σ→Rep K (hide (A++F) H) d x→k d t=some t'→(∀σ2 A2,Gr A H A2 H→RS K F H A2 t' σ2→Q σ2 H)→g x σ H Q
noncomputable def TgsOk (K:zbj6) (F:List Addr) (g:TGs) (k:List D→Th→Option Th):Prop :=
 ∀σ H A t t' ds xs (Q:L2.St→Hp→Prop),RS K F H A t σ→Reps K (hide (A++F) H) ds xs→k ds t=some t'→(∀σ2 A2,Gr A H A2 H→RS K F H A2 t' σ2→Q σ2 H)→g xs σ H Q
noncomputable def za5 (i:Nat):D→Th→Option Th:=fun d t=>zs3 t i (.cl d)
noncomputable def zg5:List D→Th→Option Th:=fun ds t=>match ds with
 |[]=>some t
 |_=>none
noncomputable def zb3 (k:D→Th→Option Th) (k':List D→Th→Option Th):List D→Th→Option Th:=fun ds t=>match ds with
 |d::r=>(k d t).bind (k' r)
 |[]=>none
noncomputable def zg1 (n:Nat) (k:List D→Th→Option Th):D→Th→Option Th:=fun d t=>match d with
 |.tup ds=>if ds.length=n then k ds t else none
 |_=>none
theorem zb6 {K:zbj6}{F:List Addr} (i:Nat):TgOk K F (zbe8 i) (za5 i):=by
 intro σ H A t t' d x Q R r e h
 obtain⟨A',g,R'⟩:=R.put (i:=i) (r:=.cl d) (Same.refl H) r e
 exact h _ _ g R'
theorem zh6 {K:zbj6}{F:List Addr}:TgsOk K F gNil zg5:=by
 intro σ H A t t' ds xs Q R r e h
 cases r with
 |nil=>cases e;exact⟨rfl,h σ A (Gr.refl R.mu.left) R⟩
 |cons _ _=>cases e
theorem zc5 {K:zbj6}{F:List Addr}{g:TG}{g':TGs}{k:D→Th→Option Th}{k':List D→Th→Option Th} (h1:TgOk K F g k) (h2:TgsOk K F g' k'):TgsOk K F (gCons g g') (zb3 k k'):=by
 intro σ H A t t' ds xs Q R r e h
 cases r with
 |nil=>cases e
 |@cons d v ds vs r1 r2 =>
  unfold zb3 at e
  cases e1:k d t with
  |none=>simp only [e1]at e;cases e
  |some t1 =>
   simp only [e1]at e
   refine⟨v,vs,rfl,h1 σ H A t t1 d v _ R r1 e1 fun σ2 A2 g2 R2=>?_⟩
   exact h2 σ2 H A2 t1 t' ds vs Q R2 (Reps.mono g2.same r2) e fun σ3 A3 g3 R3=>h σ3 A3 (g2.trans g3) R3
theorem zl7 {K:zbj6}{F:List Addr}{n:Nat}{g':TGs}{k':List D→Th→Option Th} (h2:TgsOk K F g' k'):TgOk K F (gTup K n g') (zg1 n k'):=by
 intro σ H A t t' d x Q R r e h
 unfold zg1 at e
 split at e
 ·rename_i ds
  split at e
  ·rename_i hl
   cases r with
   |@tup _ p vs h1 hr=>exact⟨p,vs,rfl,SqT.mono (zb0 _ _) h1,by rw [hr.length];exact hl,h2 σ H A t t' ds vs Q R hr e h⟩
  ·cases e
 ·cases e
noncomputable def zaf0 (k:D→Th→Option Th) (f:DE):DS:=fun t=>(f t).bind fun r=>if r.ok then (k r.d t).map Out.nx else none
section
variable {X:Cx}{F:List Addr}{a b c:Expr}{es:List Expr}{fa fb fc:DE}{g g1 g2:DS}{ft fu:DT}{pos:Pos}{st:Stmt}{rest:List Stmt}{tg:Expr}{gt:TG}{kt:D→Th→Option Th}
theorem zam1 (he:PE X a (dE X.K F fa)) (hg:PG X tg gt) (ht:TgOk X.K F gt kt) (hs:swapsWithSole [tg] a pos.line X.env=pure false:=by rfl) (hw:swappedStores [tg] a X.env=pure none:=by rfl)
  (h1:(assignEach [tg] X.env).map (·.2)=[assign tg X.env]:=by rfl):PS X (.Assign [tg] a pos) (dS X.K F (zaf0 kt fa)):=by
 refine PS.imp (zba7 he hg hs hw h1) ?_
 rintro E σ H ⟨A,t,o,R,e,h⟩
 unfold zaf0 at e
 cases e1:fa t with
 |none=>rw [e1]at e;cases e
 |some r1 =>
  rw [e1]at e
  have e:(if r1.ok then (kt r1.d t).map Out.nx else none)=some o:=e
  split at e
  case isFalse=>cases e
  rename_i ok
  cases e2:kt r1.d t with
  |none=>rw [e2]at e;cases e
  |some t' =>
   rw [e2]at e
   cases e
   refine⟨A,t,r1,R,e1,fun v H' gs q=>?_⟩
   exact ht σ H' A t t' r1.d v E.nx (R.grow gs) (q.clean R.mu gs ok) e2 fun σ2 A2 g2 R2=>h σ2 H' A2 ((Gr.of_same R.mu.left gs).trans g2) R2
end
noncomputable def forD (k:D→Th→Option Th) (body:DS):List D→Th→Option Out
 |[],t=>some (.nx t)
 |d::ds,t=>(k d t).bind fun t1=>(body t1).bind fun o=>match o with
  |.nx t'=>forD k body ds t'
  |.ct t'=>forD k body ds t'
  |.bk t'=>some (.nx t')
  |.rt r=>some (.rt r)
noncomputable def Post (K:zbj6) (F A:List Addr) (H:Hp) (E:Ends):Out→Prop
 |.nx t'=>After K F A H E.nx t'
 |.bk t'=>After K F A H E.bk t'
 |.ct t'=>After K F A H E.ct t'
 |.rt r=>Back K F A H E.rt r
theorem Post.back {K:zbj6}{F A A1:List Addr}{H H1:Hp}{E:Ends}{o:Out} (h:Post K F A H E o) (g:Gr A H A1 H1):Post K F A1 H1 E o:=by
 cases o with
 |nx t2=>exact After.back h g
 |bk t2=>exact After.back h g
 |ct t2=>exact After.back h g
 |rt r=>exact Back.back h g
theorem dS_mk {K:zbj6}{F A:List Addr}{g:DS}{E:Ends}{σ:L2.St}{H:Hp}{t:Th}{o:Out} (R:RS K F H A t σ) (e:g t=some o) (p:Post K F A H E o):dS K F g E σ H:=⟨A,t,o,R,e,by cases o<;>exact p⟩
theorem zbg1 {K:zbj6}{F:List Addr}{g:DS}{E:Ends}{σ:L2.St}{H:Hp} (h:dS K F g E σ H):∃A t o,RS K F H A t σ∧g t=some o∧Post K F A H E o:=by
 obtain⟨A,t,o,R,e,h⟩:=h
 exact⟨A,t,o,R,e,by cases o<;>exact h⟩
section
variable {X:Cx}{F:List Addr}{a b c:Expr}{es:List Expr}{fa fb fc:DE}{g g1 g2:DS}{ft fu:DT}{pos:Pos}{st:Stmt}{rest:List Stmt}{tg:Expr}{gt:TG}{kt:D→Th→Option Th}
theorem zae6 {K:zbj6}{J:It}{ds:List D}{E:Ends}{σ:L2.St}{H:Hp}{A:List Addr}{t:Th}{o:Out} (Good:List Addr→Hp→Prop) (ht:TgOk K F gt kt) (R:RS K F H A t σ) (e:forD kt g ds t=some o) (h:Post K F A H E o) (g0:Good A H)
  (keep:∀A H A' H',Good A H→Gr A H A' H'→Good A' H') (stop:∀A H,Good A H→J.stop ds.length H) (go:∀A H i,Good A H→i<ds.length→J.go i H)
  (yld:∀A H i x H',Good A H→Lists H (A++F)→J.yld i H x H'→i<ds.length→Same H H'∧∃d,ds[i]?=some d∧Rep K (hide (A++F) H') d x) :
  ∃W:Nat→Nat→L2.St→Hp→Prop,(∃m,W 0 m σ H)∧∀i m σ H,W i m σ H →
   (J.stop i H∧E.nx σ H)∨(J.go i H∧∃N:L2.St→Hp→Prop,(∀σ' H',N σ' H'→∃m',m' < m∧W (i+1) m' σ' H')∧∀x H',J.yld i H x H'→gt x σ H' fun σ2 H2=>dS K F g { E with nx:=N,ct:=N,bk:=E.nx } σ2 H2):=by
 refine⟨fun i m σ H=>i+m=ds.length∧∃A t o,forD kt g (ds.drop i) t=some o∧RS K F H A t σ∧Post K F A H E o∧Good A H,⟨ds.length,by lia,A,t,o,by simpa using e,R,h,g0⟩,?_⟩
 rintro i m σ H ⟨hm,A,t,o,e,R,h,gd⟩
 cases m with
 |zero =>
  have z:i=ds.length:=by lia
  subst z
  rw [zce0]at e
  cases e
  exact .inl ⟨stop A H gd,h σ H A (Gr.refl R.mu.left) R⟩
 |succ m =>
  have hi:i<ds.length:=by lia
  refine .inr ⟨go A H i gd hi,fun σ' H'=>i+1+m=ds.length∧∃A t o,forD kt g (ds.drop (i+1)) t=some o∧RS K F H' A t σ'∧Post K F A H' E o∧Good A H',fun σ' H' q=>⟨m,zbu6 m,q⟩,fun x H' y=>?_⟩
  obtain⟨gs,d,hd,rd⟩:=yld A H i x H' gd R.mu y hi
  have ed:ds.drop i=d::ds.drop (i+1):=by
   have hd':ds[i]=d:=by
    rw [zbk4 hi]at hd
    exact Option.some.inj hd
   rw [← hd']
   exact zbu3 hi
  rw [ed]at e
  simp only [forD]at e
  cases e1:kt d t with
  |none=>rw [e1]at e;cases e
  |some t1 =>
   rw [e1]at e
   refine ht σ H' A t t1 d x _ (R.grow gs) rd e1 fun σ2 A2 gr3 R2=>?_
   have gr2:Gr A H A2 H':=(Gr.of_same R.mu.left gs).trans gr3
   have e:((g t1).bind fun o=>match o with
     |.nx t'=>forD kt g (ds.drop (i+1)) t'
     |.ct t'=>forD kt g (ds.drop (i+1)) t'
     |.bk t'=>some (.nx t')
     |.rt r=>some (.rt r))=some o:=e
   cases e2:g t1 with
   |none=>rw [e2]at e;cases e
   |some o2 =>
    rw [e2]at e
    refine dS_mk R2 e2 ?_
    cases o2 with
    |nx t'=>exact fun σ' H' A' g' R'=>⟨by lia,A',t',o,e,R',h.back (gr2.trans g'),keep _ _ _ _ gd (gr2.trans g')⟩
    |ct t'=>exact fun σ' H' A' g' R'=>⟨by lia,A',t',o,e,R',h.back (gr2.trans g'),keep _ _ _ _ gd (gr2.trans g')⟩
    |bk t'=>cases e;exact fun σ' H' A' g' R'=>h σ' H' A' (gr2.trans g') R'
    |rt r=>cases e;exact Back.back h gr2
noncomputable def dFor (k:D→Th→Option Th) (f:DE) (body:DS):DS:=fun t=>(f t).bind fun r=>match r.d with
 |.lst ds=>if r.ok then forD k body ds t else none
 |_=>none
theorem zad6 {body:List Stmt} (hp:PassesOwn (model X.prog X.w) X.A X.env X.xe) (hc:X.calm=true) (hl:PE X a (dE X.K F fa)) (hg:PG X tg gt) (ht:TgOk X.K F gt kt) (hb:PSs X body (dS X.K F g))
  (hs:∀x,foldedSetIterable a X.env x=pure x:=by intro _;rfl):PS X (.For tg a body [] pos) (dS X.K F (dFor kt fa g)):=by
 refine PS.imp (zar4 hp hc (zbb6 hl) hg hb hs) ?_
 intro E σ H hh
 obtain⟨A,t,o,R,e,h⟩:=zbg1 hh
 unfold dFor at e
 cases e1:fa t with
 |none=>rw [e1]at e;cases e
 |some r =>
  rw [e1]at e
  refine⟨A,t,r,R,e1,fun v H1 gs q=>?_⟩
  have e:(match r.d with
   |.lst ds=>if r.ok then forD kt g ds t else none
   |_=>none)=some o:=e
  split at e
  case h_2=>cases e
  rename_i ds z
  split at e
  case isFalse=>cases e
  rename_i ok
  have cl:=q.clean R.mu gs ok
  rw [z]at cl
  cases cl with
  |@lst _ p vs h1 h2 =>
   refine⟨p,rfl,⟨vs,SqL.mono (zb0 _ _) h1⟩,?_⟩
   refine zae6 (fun A H=>SqL X.K (hide (A++F) H) p vs∧Reps X.K (hide (A++F) H) ds vs) ht (R.grow gs) e (h.back (Gr.of_same R.mu.left gs)) ⟨h1,h2⟩ (fun A H A' H' q gr=>⟨SqL.mono gr.same q.1,Reps.mono gr.same q.2⟩)
    (fun A H q=>⟨vs,SqL.mono (zb0 _ _) q.1,by rw [h2.length];exact zbl3 _⟩) (fun A H i q hi=>?_) (fun A H i x H' q _ y hi=>?_)
   ·have hi':i<vs.length:=by rw [h2.length];exact hi
    exact⟨vs,vs[i],SqL.mono (zb0 _ _) q.1,zbk4 hi'⟩
   ·obtain⟨e1,e2⟩:=y
    have z:=e2 vs (SqL.mono (zb0 _ _) q.1)
    subst e1
    exact⟨Same.refl _,q.2.getV z⟩
noncomputable def rngD (lo:Int) (n:Nat):List D:=(zbo3 n).map fun (i:Nat)=>D.int (lo+(i:Int))
noncomputable def bigI (i:Int):Bool:=decide (-1000000000000≤i∧i≤1000000000000)
noncomputable def zz3 (k:D→Th→Option Th) (f:DE) (body:DS):DS:=fun t=>(f t).bind fun r=>match r.d with
 |.int n=>if bigI n then forD k body (rngD 0 n.toNat) t else none
 |_=>none
noncomputable def zbg2 (k:D→Th→Option Th) (f f':DE) (body:DS):DS:=fun t=>(f t).bind fun r=>(f' t).bind fun r'=>match r.d,r'.d with
 |.int lo,.int n=>if bigI n&&bigI lo then forD k body (rngD lo (n - lo).toNat) t else none
 |_,_=>none
theorem zu6 (lo:Int) (n:Nat):(rngD lo n).length=n:=by simp [rngD]
theorem zaq9 {K:zbj6}{lo:Int}{n:Nat}{E:Ends}{σ:L2.St}{H:Hp}{A:List Addr}{t:Th}{o:Out} (ht:TgOk K F gt kt) (R:RS K F H A t σ) (e:forD kt g (rngD lo n) t=some o) (h:Post K F A H E o) :
  ∃W:Nat→Nat→L2.St→Hp→Prop,(∃m,W 0 m σ H)∧∀i m σ H,W i m σ H →
   ((Itr lo n).stop i H∧E.nx σ H)∨((Itr lo n).go i H∧∃N:L2.St→Hp→Prop,(∀σ' H',N σ' H'→∃m',m' < m∧W (i+1) m' σ' H')∧∀x H',(Itr lo n).yld i H x H'→gt x σ H' fun σ2 H2=>dS K F g { E with nx:=N,ct:=N,bk:=E.nx } σ2 H2):=by
 refine zae6 (fun _ _=>True) ht R e h trivial (fun _ _ _ _ _ _=>trivial) (fun A H _=>?_) (fun A H i _ hi=>?_) (fun A H i x H' _ _ y hi=>?_)
 ·rw [zu6];exact zbl3 n
 ·rw [zu6]at hi;exact hi
 ·rw [zu6]at hi
  obtain⟨e1,e2⟩:=y
  subst e1
  refine⟨Same.refl _,.int (lo+i),by simp [rngD,hi],?_⟩
  rw [e2];exact .int _
theorem zp8 {body:List Stmt}{p1 p2:Pos} (hp:PassesOwn (model X.prog X.w) X.A X.env X.xe) (hc:X.calm=true) (hgr:Gl X "range") (hm:X.mg "range"=none) (ha:PE X a (dE X.K F fa)) (hg:PG X tg gt) (ht:TgOk X.K F gt kt) (hb:PSs X body (dS X.K F g))
  (hst:zbm0 [a] X.env=[(false,eval a X.env)]:=by rfl) (hs:∀x,foldedSetIterable (.Call (.Name "range" p1) [a] [] p2) X.env x=pure x:=by intro _;rfl):PS X (.For tg (.Call (.Name "range" p1) [a] [] p2) body [] pos) (dS X.K F (zz3 kt fa g)):=by
 refine PS.imp (zar4 hp hc (zah4 hgr hm (zh2 ha zr1 hst) hst) hg hb hs) ?_
 intro E σ H hh
 obtain⟨A,t,o,R,e,h⟩:=zbg1 hh
 unfold zz3 at e
 cases e1:fa t with
 |none=>rw [e1]at e;cases e
 |some r =>
  rw [e1]at e
  refine⟨A,t,r,R,e1,fun v H1 gs q=>?_⟩
  have e:(match r.d with
   |.int n=>if bigI n then forD kt g (rngD 0 n.toNat) t else none
   |_=>none)=some o:=e
  split at e
  case h_2=>cases e
  rename_i n z
  split at e
  case isFalse=>cases e
  rename_i ok
  simp only [bigI,decide_eq_true_eq]at ok
  have p:=q.full
  rw [z]at p
  cases zd4 p
  exact⟨n,rfl,by lia,by lia,zaq9 ht (R.grow gs) e (h.back (Gr.of_same R.mu.left gs))⟩
theorem psd_rng2 {body:List Stmt}{p1 p2:Pos} (hp:PassesOwn (model X.prog X.w) X.A X.env X.xe) (hc:X.calm=true) (hgr:Gl X "range") (hm:X.mg "range"=none) (ha:PE X a (dE X.K F fa)) (hb':PE X b (dE X.K F fb)) (hg:PG X tg gt) (ht:TgOk X.K F gt kt) (hb:PSs X body (dS X.K F g))
  (hst:zbm0 [a,b] X.env=[(false,eval a X.env),(false,eval b X.env)]:=by rfl) (hst2:zbm0 [b] X.env=[(false,eval b X.env)]:=by rfl) (hs:∀x,foldedSetIterable (.Call (.Name "range" p1) [a,b] [] p2) X.env x=pure x:=by intro _;rfl) :
  PS X (.For tg (.Call (.Name "range" p1) [a,b] [] p2) body [] pos) (dS X.K F (zbg2 kt fa fb g)):=by
 refine PS.imp (zar4 hp hc (zbb5 hgr hm (zh2 ha (zh2 hb' zr1 hst2) (by rw [hst,hst2])) hst hst2) hg hb hs) ?_
 intro E σ H hh
 obtain⟨A,t,o,R,e,h⟩:=zbg1 hh
 unfold zbg2 at e
 cases e1:fa t with
 |none=>rw [e1]at e;cases e
 |some r =>
  cases e2:fb t with
  |none=>rw [e1,e2]at e;cases e
  |some r' =>
   rw [e1,e2]at e
   refine⟨A,t,r,R,e1,fun v H1 gs q=>⟨A,t,r',R.grow gs,e2,fun v2 H2 gs2 q2=>?_⟩⟩
   have e:(match r.d,r'.d with
    |.int lo,.int n=>if bigI n&&bigI lo then forD kt g (rngD lo (n - lo).toNat) t else none
    |_,_=>none)=some o:=e
   split at e
   case h_2=>cases e
   rename_i lo n z1 z2
   split at e
   case isFalse=>cases e
   rename_i ok
   simp only [bigI,zbk7,decide_eq_true_eq]at ok
   have p:=q.full
   rw [z1]at p
   cases zd4 p
   have p':=q2.full
   rw [z2]at p'
   cases zd4 p'
   exact⟨lo,n,rfl,⟨by lia,by lia,by lia,by lia⟩,zaq9 ht (R.grow (gs.trans gs2)) e (h.back (Gr.of_same R.mu.left (gs.trans gs2)))⟩
end
end DL
namespace DL
open PySem.Spec L2
theorem RSl.upd {K:zbj6}{H0 H H':Hp}{ds es:List D}{ws:List V}{p:Addr} (hp:H' p=some (.lst ws)) (he:Reps K H0 es ws):∀ {t:Th}{σ:L2.St}{A:List Addr} (i:Nat),RSl K H0 H t σ A→A.Nodup→t[i]?=some (.own ds)→σ[i]?=some (some (.ref p)) →
  (∀q∈A,q≠p→H' q=H q)→RSl K H0 H' (t.set i (.own es)) σ A
 |_,_,_,i,.nil,_,e,_,_=>by simp at e
 |_,_,_,0,.no r,_,e,_,_=>by simp at e
 |_,_,_,0,.val _ r,_,e,_,_=>by simp at e
 |_,_,_,0,.dp _ r,_,e,_,_=>by simp at e
 |_,_,_,i+1,.dp (B:=B) h1 r,nd,e,e2,k=>by
  have n:=zbm8.mp nd
  obtain⟨p3,vs3,a1,a2,_⟩:=RSl.getOwn r (i:=i) (ds:=ds) (by simpa using e)
  have:p3=p:=by simpa [a1] using e2
  subst this
  refine .dp (RepD.mono (Same.refl _) h1 fun q hq o w=>?_) (RSl.upd hp he i r n.2.1 (by simpa using e) (by simpa using e2) fun q hq=>k q (zbj5 _ hq))
  rw [k q (zbj7 _ hq) (fun z=>n.2.2 q hq p3 a2 z)];exact w
 |_,_,_,0,.own (p:=p2) (A:=A) h1 h2 r,nd,e,e2,k=>by
  simp at e2
  subst e2
  exact .own hp he (RSl.mono (Same.refl _) r fun q hq o h=>by
   have n:q≠p2:=fun z=>(zbm9.mp nd).1 (z ▸ hq)
   rw [k q (zbj9 _ hq) n];exact h)
 |_,_,_,i+1,.no r,nd,e,e2,k=>.no (RSl.upd hp he i r nd (by simpa using e) (by simpa using e2) k)
 |_,_,_,i+1,.val h r,nd,e,e2,k=>.val h (RSl.upd hp he i r nd (by simpa using e) (by simpa using e2) k)
 |_,_,_,i+1,.own (p:=p2) h1 h2 r,nd,e,e2,k=>by
  have n:=zbm9.mp nd
  have e2':=(show _ from e2)
  obtain⟨p3,vs3,a1,a2,_⟩:=RSl.getOwn r (i:=i) (ds:=ds) (by simpa using e)
  have:p3=p:=by simpa [a1] using e2
  subst this
  have np:p2≠p3:=fun z=>n.1 (z ▸ a2)
  refine .own (by rw [k p2 (zbk2 ..) np];exact h1) h2 (RSl.upd hp he i r n.2 (by simpa using e) (by simpa using e2) fun q hq=>k q (zbj9 _ hq))
theorem RS.write {K:zbj6}{F A:List Addr}{H:Hp}{t:Th}{σ:L2.St}{i:Nat}{ds es:List D}{ws:List V}{p:Addr} (R:RS K F H A t σ) (e:t[i]?=some (.own ds)) (e2:σ[i]?=some (some (.ref p))) (h:Reps K (hide (A++F) H) es ws) :
  RS K F (L2.upd H p (.lst ws)) A (t.set i (.own es)) σ∧Gr A H A (L2.upd H p (.lst ws)):=by
 obtain⟨p',vs,a1,a2,a3,a4⟩:=R.rel.getOwn e
 have:p'=p:=by simpa [a1] using e2
 subst this
 have hh:Same (hide (A++F) H) (hide (A++F) (L2.upd H p' (.lst ws))):=fun b o q=>by
  obtain⟨n,q⟩:=zn3 q
  have nb:b≠p':=fun z=>n (zbj7 _ (z ▸ a2))
  exact zc4 (by rw [zc9 nb];exact q) n
 have mu:Lists (L2.upd H p' (.lst ws)) (A++F):=fun q hq=>by
  by_cases z:q=p'
  ·exact⟨mL ws,by rw [z];exact zc3⟩
  ·obtain⟨us,w⟩:=R.mu q hq
   exact⟨us,by rw [zc9 z];exact w⟩
 refine⟨⟨mu,R.nd,R.dj,RSl.upd zc3 (Reps.mono hh h) i (RSl.mono hh R.rel (H':=H) fun _ _ _ h=>h) R.nd e e2 fun q _ n=>zc9 n⟩,?_⟩
 refine⟨fun b o n q=>?_,fun b hb=>?_,fun b hb=>.inl hb⟩
 ·rw [zc9 (fun z=>n (by rw [z];exact a2))];exact q
 ·obtain⟨us,w⟩:=mu b (zbj7 _ hb)
  rw [w];simp
noncomputable def kApp (t:Th) (i:Nat) (r:Ev):Option Out:=match t[i]? with
 |some (.own xs)=>if r.ok&&decide (xs.length<100000) then some (.nx (t.set i (.own (xs++[r.d])))) else none
 |_=>none
noncomputable def dApp (i:Nat) (f:DE):DS:=fun t=>(f t).bind (kApp t i)
section
variable {X:Cx}{F:List Addr}{a b c:Expr}{es:List Expr}{fa fb fc:DE}{g g1 g2:DS}{ft fu:DT}{pos:Pos}{st:Stmt}{rest:List Stmt}{tg:Expr}{gt:TG}{kt:D→Th→Option Th}
theorem zu9 (i:Nat) {x:Str}{p0 apos cpos:Pos} (he:PE X a (dE X.K F fa)) (hN:X.N[i]?=some x:=by rfl) (hv:Vis X.env.scope x:=by first | exact Or.inl rfl | exact Or.inr (Or.inl rfl) |exact Or.inr (Or.inr rfl)) (hd:(x ==("__debug__":Str))=false:=by decide)
  (hcd:(x ==("__classdict__":Str))=false:=by decide) (hst:zbm0 [a] X.env=[(false,eval a X.env)]:=by rfl)
  (hbase:attributeBase (.Name x p0) "append" X.env (eval (.Name x p0) X.env)=eval (.Name x p0) X.env:=by rfl)
  (hfew:((zbt6 cpos (zbm0 [a] X.env)).all (fun x=>!x.1)&&(backToKw cpos (keywordEach [] X.env)).all (fun x=>x.1.isSome)
   && decide ([a].length+([]:List Keyword).length+(if ([]:List Keyword).isEmpty then 0 else 1)<30))=true:=by rfl)
  (hline:(apos.endLine == cpos.line)=true:=by rfl) (hplain:(zbt6 cpos (zbm0 [] X.env)).any (·.1)=false:=by rfl)
  (hsw:swapsWith (.Call (.Attribute (.Name x p0) "append" apos) [a] [] cpos) none pos.line X.env=pure false:=by rfl) :
  PS X (.Expr (.Call (.Attribute (.Name x p0) "append" apos) [a] [] cpos) pos) (dS X.K F (dApp i fa)):=by
 refine PS.imp (zad7 (pe_bm zbu9 PySem.F.slot_list_append PySem.F.type_list_append zx8 (zr0 (i:=i) hN hv hd hcd) (zh2 he zr1 hst) hbase hfew hline hst hplain) hsw) ?_
 rintro E σ H ⟨A,t,o,R,e,h⟩
 unfold dApp at e
 cases e1:fa t with
 |none=>rw [e1]at e;cases e
 |some r =>
  rw [e1]at e
  have e:kApp t i r=some o:=e
  unfold kApp at e
  split at e
  case h_2=>cases e
  rename_i xs z
  split at e
  case isFalse=>cases e
  rename_i ok
  simp only [zbk7,decide_eq_true_eq]at ok
  cases e
  obtain⟨p,vs,a1,a2,a3,a4⟩:=R.rel.getOwn z
  refine⟨_,a1,.inl ⟨rfl,vs,SqL.of a3⟩,A,t,r,R,e1,fun y H1 gs q=>⟨p,vs,y,rfl,rfl,gs _ _ a3,?_,?_⟩⟩
  ·have:vs.length<100000:=by rw [a4.length];exact ok.2
   exact zbm4 this (by rw [sizeLine_eq];decide)
  ·obtain⟨R',g'⟩:=(R.grow gs).write (es:=xs++[r.d]) (ws:=vs++[y]) z a1 ((Reps.mono (zc7 gs) a4).app (Reps.one (q.clean R.mu gs ok.1)))
   exact h _ _ _ ((Gr.of_same R.mu.left gs).trans g') R'
noncomputable def kIx:Ev→Ev→Option Ev:=fun r1 r2=>match r1.d,r2.d with
 |.lst ds,.int i=>(atI ds i).map fun d=>if r1.ok||flat d then .cl d else .tm d
 |.tup ds,.int i=>(atI ds i).map fun d=>if r1.ok||flat d then .cl d else .tm d
 |_,_=>none
theorem Reps.atI {K:zbj6}{H:Hp}{ds:List D}{vs:List V} (r:Reps K H ds vs) {i:Int}{d:D} (e:L2.atI ds i=some d):∃v,L2.atI vs i=some v∧Rep K H d v:=by
 unfold L2.atI at e ⊢
 rw [r.length]
 cases e1:ixN ds.length i with
 |none=>rw [e1]at e;cases e
 |some j=>rw [e1]at e;exact r.get e
theorem zb1 (ha:PE X a (dE X.K F fa)) (hb:PE X b (dE X.K F fb)) (hs:zap2 b:=by intro _ _;rfl):PE X (.Subscript a b pos) (dE X.K F (d2 kIx fa fb)):=by
 refine PE.imp (pe_ix (ix_list.or ix_tup) ha hb hs) ?_
 intro σ H Q h
 obtain⟨A,t,r1,r2,r,R,e1,e2,e,h,w⟩:=two h
 refine⟨A,t,r1,R,e1,fun x H1 gs1 q1=>⟨A,t,r2,R.grow gs1,e2,fun y H2 gs2 q2=>?_⟩⟩
 have q1:=q1.mono gs2
 have gs:=gs1.trans gs2
 have p2:=q2.full
 have m2:=R.mu.mono gs
 have key:∀(P:List Addr),Rep X.K (hide P H2) r1.d x→(∀d v,Rep X.K (hide P H2) d v→RepEv X.K F A H H2 (if r1.ok||flat d then Ev.cl d else Ev.tm d) v)→rIxL X.K x y H2 Q∨rIxT X.K x y H2 Q:=fun P hP fin=>by
  unfold kIx at e
  split at e
  ·rename_i ds i z1 z2
   rw [z2]at p2
   cases zd4 p2
   rw [z1]at hP
   cases hP with
   |@lst _ p vs h1 h2 =>
    cases e4:atI ds i with
    |none=>rw [e4]at e;cases e
    |some d =>
     rw [e4]at e
     have e:(if r1.ok||flat d then Ev.cl d else Ev.tm d)=r:=by simpa using e
     obtain⟨v,e5,rv⟩:=Reps.atI h2 e4
     exact .inl ⟨p,vs,i,v,rfl,rfl,SqL.mono (zb0 _ _) h1,e5,h v H2 gs (e ▸ fin d v rv)⟩
  ·rename_i ds i z1 z2
   rw [z2]at p2
   cases zd4 p2
   rw [z1]at hP
   cases hP with
   |@tup _ p vs h1 h2 =>
    cases e4:atI ds i with
    |none=>rw [e4]at e;cases e
    |some d =>
     rw [e4]at e
     have e:(if r1.ok||flat d then Ev.cl d else Ev.tm d)=r:=by simpa using e
     obtain⟨v,e5,rv⟩:=Reps.atI h2 e4
     exact .inr ⟨p,vs,i,v,rfl,rfl,SqT.mono (zb0 _ _) h1,e5,h v H2 gs (e ▸ fin d v rv)⟩
  ·cases e
 by_cases c:r1.ok=true
 ·refine key (A++F) (q1.clean R.mu gs c) fun d v rv=>?_
  rw [c,zby5,if_pos rfl]
  exact rv
 ·refine key F (q1.cleanF R.mu) fun d v rv=>?_
  have c:r1.ok=false:=by simpa using c
  rw [c,zca1]
  split
  ·rename_i f;exact Rep.hid m2 f (Rep.mono (zb0 _ _) rv)
  ·exact rv
noncomputable def dSl (lo hi:DE) (f:DE):DE:=fun t=>(f t).bind fun r=>(lo t).bind fun l=>(hi t).bind fun h=>match r.d,l.d,h.d with
 |.lst ds,.int i,.int j=>if r.ok||zg9 ds then some (.nw ((ds.drop (HT.sIx ds.length 0 (some i))).take (HT.sIx ds.length ds.length (some j) - HT.sIx ds.length 0 (some i)))) else none
 |_,_,_=>none
noncomputable def kCat:Ev→Ev→Option Ev:=fun r1 r2=>match r1.d,r2.d with
 |.lst ds,.lst es=>if (r1.ok||zg9 ds)&&(r2.ok||zg9 es)&&decide (ds.length+es.length≤100000) then some (.nw (ds++es)) else none
 |_,_=>none
theorem RepEv.items {K:zbj6}{F A:List Addr}{H H':Hp}{r:Ev}{v:V}{ds:List D} (m:Lists H (A++F)) (gs:Same H H') (q:RepEv K F A H H' r v) (z:r.d=.lst ds) (c:(r.ok||zg9 ds)=true) :
  ∃p vs,v=.ref p∧SqL K H' p vs∧Reps K (hide (A++F) H') ds vs:=by
 rcases zbx5 _ _ ▸ c with c | c
 ·have w:=q.clean m gs c
  rw [z]at w
  cases w with
  |@lst _ p vs h1 h2=>exact⟨p,vs,rfl,SqL.mono (zb0 _ _) h1,h2⟩
 ·have w:=q.full
  rw [z]at w
  cases w with
  |@lst _ p vs h1 h2=>exact⟨p,vs,rfl,h1,Reps.hid (m.mono gs) c h2⟩
theorem zbb8 {p2:Pos} (ha:PE X a (dE X.K F fa)) (hb:PE X b (dE X.K F fb)) (hc:PE X c (dE X.K F fc)):PE X (.Subscript a (.Slice (some b) (some c) none p2) pos) (dE X.K F (dSl fb fc fa)):=by
 refine PE.imp (zar9 zaz4 ha (zam3 hb) (zam3 hc)) ?_
 rintro σ H Q ⟨A,t,r,R,e,h⟩
 unfold dSl at e
 cases e1:fa t with
 |none=>rw [e1]at e;cases e
 |some r1 =>
  cases e2:fb t with
  |none=>rw [e1,e2]at e;cases e
  |some r2 =>
   cases e3:fc t with
   |none=>rw [e1,e2,e3]at e;cases e
   |some r3 =>
    rw [e1,e2,e3]at e
    refine⟨A,t,r1,R,e1,fun x H1 gs1 q1=>⟨A,t,r2,R.grow gs1,e2,fun y H2 gs2 q2=>?_⟩⟩
    have e:(match r1.d,r2.d,r3.d with
     |.lst ds,.int i,.int j=>if r1.ok||zg9 ds then some (Ev.nw ((ds.drop (HT.sIx ds.length 0 (some i))).take (HT.sIx ds.length ds.length (some j) - HT.sIx ds.length 0 (some i)))) else none
     |_,_,_=>none)=some r:=e
    split at e
    case h_2=>cases e
    rename_i ds i j z1 z2 z3
    split at e
    case isFalse=>cases e
    rename_i c
    cases e
    have p2':=q2.full
    rw [z2]at p2'
    cases zd4 p2'
    refine⟨i,rfl,A,t,r3,(R.grow gs1).grow gs2,e3,fun w H3 gs3 q3=>?_⟩
    have p3':=q3.full
    rw [z3]at p3'
    cases zd4 p3'
    have gs:=(gs1.trans gs2).trans gs3
    obtain⟨p,vs,rfl,h1,h2⟩:=(q1.mono (gs2.trans gs3)).items R.mu gs z1 c
    refine⟨j,rfl,p,vs,rfl,h1,fun l hl=>h _ _ (gs.trans (zd2 hl)) ⟨l,_,rfl,Same.free gs hl,zc3,Reps.mono (zl3 hl) ?_⟩⟩
    unfold cutV
    rw [h2.length]
    exact (h2.drop _).take _
theorem cat_any {E:Value→zbk8→Prop}{A:Around}{prog:Program}{w:World}{s:zbk8}{l b:Addr}{vs ws:List Value}{Q:Value→zbk8→Prop} (hl:PlainL s.heap l vs.toArray) (hb:PlainL s.heap b ws.toArray)
  (h:Q (.ref s.heap.objs.size) { s with heap:=s.heap.push { cls:=.type "list",data:=.seq (vs++ws).toArray } }) (hsz:vs.length+ws.length≤sizeLine) :
  wpAny (model prog w) A (binaryOp .Add (.ref l) (.ref b)) Q E s:=by
 obtain⟨⟨cls,dd,data,sl⟩,n,ho,hc,hdd,hd⟩:=id hl
 obtain⟨⟨cls2,dd2,data2,sl2⟩,n2,ho2,hc2,hdd2,hd2⟩:=id hb
 simp only at hc hd hc2 hd2
 subst hc hd hc2 hd2
 have e:vs.toArray++ws.toArray=(vs++ws).toArray:=by simp
 refine concat_meets ⟨_,ho,rfl⟩ ⟨_,ho2,rfl⟩ noFill_list_add seq_list_add PySem.F.slot_list_add PySem.F.entry_list_add (PySem.F.args_list_add_2 _ _) (list_addW l b vs.toArray ws.toArray n n2 dd dd2 sl sl2 (by simpa using hsz)) ⟨ho,ho2,?_⟩
 rw [e]
 exact h
theorem zd9:OpD X F (binaryOp .Add) kCat:=by
 intro pins s σ H0 H A x y v u Q r1 r2 r I m g0 rx ry q1 q2 e hq
 unfold kCat at e
 split at e
 case h_2=>cases e
 rename_i ds es' z1 z2
 split at e
 case isFalse=>cases e
 rename_i c
 simp only [zbk7,decide_eq_true_eq]at c
 cases e
 obtain⟨p,vs,rfl,h1,h2⟩:=q1.items m g0 z1 c.1.1
 obtain⟨p',ws,rfl,h1',h2'⟩:=q2.items m g0 z2 c.1.2
 cases rx
 cases ry
 obtain⟨its,w1,w2,w3⟩:=I.list h1
 obtain⟨its',w1',w2',w3'⟩:=I.list h1'
 have l1:=h2.length
 have l2:=h2'.length
 have l3:=w1.length
 have l4:=w1'.length
 have hz:vs.length+ws.length≤sizeLine:=le_line (by lia)
 refine cat_any w2 w2' ⟨.ref _,_,I.lnew (t':=s.toks) (w1.append w1') (by rw [zbo5];exact hz),rfl,?_⟩ (by lia)
 refine hq _ _ (zd2 I.fresh) ⟨_,_,rfl,Same.free g0 I.fresh,zc3,Reps.mono (zl3 I.fresh) (h2.app h2')⟩
mutual
def eqD:D→D→Bool
 |.non,.non=>true
 |.bl a,.bl b=>decide (a=b)
 |.int a,.int b=>decide (a=b)
 |.str a,.str b=>decide (a=b)
 |.tup a,.tup b=>eqDs a b
 |.lst a,.lst b=>eqDs a b
 |.dct ks a,.dct ks' b=>decide (ks=ks')&&eqDs a b
 |.pdc a,.pdc b=>decide (a=b)
 |_,_=>false
def eqDs:List D→List D→Bool
 |[],[]=>true
 |a::as,b::bs=>eqD a b&&eqDs as bs
 |_,_=>false
end
noncomputable def eqOk:Nat→D→D→Bool
 |_,.non,.non=>true
 |_,.bl _,.bl _=>true
 |_,.int _,.int _=>true
 |_,.str _,.str _=>true
 |_,.non,.int _=>true
 |_,.int _,.non=>true
 |_,.non,.str _=>true
 |_,.str _,.non=>true
 |_,.non,.bl _=>true
 |_,.bl _,.non=>true
 |_,.int _,.str _=>true
 |_,.str _,.int _=>true
 |n+1,.tup xs,.tup ys=>(xs.zip ys).all fun p=>eqOk n p.1 p.2
 |n+1,.lst xs,.lst ys=>(xs.zip ys).all fun p=>eqOk n p.1 p.2
 |_,_,_=>false
theorem zz2 {pins:List (Addr×Obj)}{s:zbk8}{σ:L2.St}{H:Hp}{p:Addr}{kvs:List (Key×V)} (I:Inv X pins σ H s) (h:H p=some (.dK kvs)):∃o,s.heap.get? p=some o∧o.cls=.type "dict":=by
 obtain⟨_,_,vs,_,m⟩:kvs.length≤sizeLine∧(p == sysModules)=false∧∃vs,KV kvs vs∧s.heap.DictOf (zg4 X.prog X.w) p vs:=I.hok p _ h
 exact m.typeIs
theorem zx5 {pins:List (Addr×Obj)}{s:zbk8}{σ:L2.St}{H:Hp}{p:Addr}{kvs:List (List Key×V)} (I:Inv X pins σ H s) (h:H p=some (.dT kvs)):∃o,s.heap.get? p=some o∧o.cls=.type "dict":=by
 obtain⟨_,_,xs,_,o,es,ep,h1,h2,_⟩:=(show ObjOk X.prog X.w H s.heap p (.dT kvs) from I.hok p _ h)
 exact⟨o,h1,h2.1⟩
theorem zbb2:∀ {a b:List (Int×Int)},pkv a=pkv b→a=b
 |[],[],_=>rfl
 |[],_::_,h=>by simp [pkv]at h
 |_::_,[],h=>by simp [pkv]at h
 |(x,y)::a,(z,w)::b,h=>by
  simp only [pkv,zbl8,List.cons.injEq,Prod.mk.injEq,Sum.inl.injEq,and_true]at h
  rw [h.1.1,h.1.2,zbb2 (a:=a) (b:=b) h.2]
theorem zip_inj {ks ks':List Key}{vs vs':List V} (l:ks.length=vs.length) (l':ks'.length=vs'.length) (h:mkKV ks vs=mkKV ks' vs'):ks=ks'∧vs=vs':=by
 unfold mkKV at h
 have h1:=congrArg (List.map Prod.fst) h
 have h2:=congrArg (List.map Prod.snd) h
 rw [zce1 (by lia),zce1 (by lia)]at h1
 rw [zce2 (by lia),zce2 (by lia)]at h2
 exact⟨h1,h2⟩
theorem Rep.injR {pins:List (Addr×Obj)}{s:zbk8}{σ:L2.St}{H:Hp} (I:Inv X pins σ H s):(∀ {d:D}{v:V},Rep X.K H d v→∀e,Rep X.K H e v→d=e)∧∀ {ds:List D}{vs:List V},Reps X.K H ds vs→∀es,Reps X.K H es vs→ds=es:=by
 have cl:∀ {p:Addr}{A B:String},(∃o,s.heap.get? p=some o∧o.cls=.type A)→(∃o,s.heap.get? p=some o∧o.cls=.type B)→A≠B→False:=fun ⟨o,e,c⟩ ⟨o',e',c'⟩ n=>by
  rw [e]at e';cases e'
  rw [c]at c';injection c' with c';exact n c'
 have ct:∀ {p:Addr}{vs:List V},SqT X.K H p vs→∃o,s.heap.get? p=some o∧o.cls=.type "tuple":=fun h=>by
  obtain⟨its,_,⟨o,e,c,_⟩,_⟩:=I.tuple h
  exact⟨o,e,c⟩
 have cL:∀ {p:Addr}{vs:List V},SqL X.K H p vs→∃o,s.heap.get? p=some o∧o.cls=.type "list":=fun h=>by
  obtain⟨its,_,⟨o,n,e,c,_⟩,_⟩:=I.list h
  exact⟨o,e,c⟩
 have key:∀ {d:D}{v:V},Rep X.K H d v→∀e,Rep X.K H e v→d=e:=fun h=>by
  refine Rep.rec (motive_1:=fun d v _ => ∀e,Rep X.K H e v→d=e) (motive_2:=fun ds vs _ => ∀es,Reps X.K H es vs→ds=es) ?_ ?_ ?_ ?_ ?_ ?_ ?_ ?_ ?_ ?_ h
  ·intro e h';cases h';rfl
  ·intro b e h';cases h';rfl
  ·intro b e h';cases h';rfl
  ·intro b e h';cases h';rfl
  ·intro ds p vs h1 r1 ih e h'
   cases h' with
   |tup h2 r2 =>
    have ev:=I.tuple_inj h1 h2
    subst ev
    rw [ih _ r2]
   |lst h2 r2=>exact (cl (ct h1) (cL h2) (by decide +kernel)).elim
   |dct _ h2 r2=>exact (cl (ct h1) (zz2 I h2) (by decide +kernel)).elim
   |pdc h2=>exact (cl (ct h1) (zx5 I h2) (by decide +kernel)).elim
  ·intro ds p vs h1 r1 ih e h'
   cases h' with
   |tup h2 r2=>exact (cl (cL h1) (ct h2) (by decide +kernel)).elim
   |lst h2 r2 =>
    have ev:=I.list_inj h1 h2
    subst ev
    rw [ih _ r2]
   |dct _ h2 r2=>exact (cl (cL h1) (zz2 I h2) (by decide +kernel)).elim
   |pdc h2=>exact (cl (cL h1) (zx5 I h2) (by decide +kernel)).elim
  ·intro ks ds p vs l1 h1 r1 ih e h'
   cases h' with
   |tup h2 r2=>exact (cl (zz2 I h1) (ct h2) (by decide +kernel)).elim
   |lst h2 r2=>exact (cl (zz2 I h1) (cL h2) (by decide +kernel)).elim
   |dct l2 h2 r2 =>
    rw [h1]at h2
    obtain⟨e1,e2⟩:=zip_inj l1 l2 (by injection h2 with h2;injection h2)
    subst e1 e2
    rw [ih _ r2]
   |pdc h2=>rw [h1]at h2;cases h2
  ·intro ps p h1 e h'
   cases h' with
   |tup h2 r2=>exact (cl (zx5 I h1) (ct h2) (by decide +kernel)).elim
   |lst h2 r2=>exact (cl (zx5 I h1) (cL h2) (by decide +kernel)).elim
   |dct _ h2 r2=>rw [h1]at h2;cases h2
   |pdc h2 =>
    rw [h1]at h2
    injection h2 with h2
    injection h2 with h2
    rw [zbb2 h2]
  ·intro es h';cases h';rfl
  ·intro d v ds vs h r ih1 ih2 es h'
   cases h' with
   |cons h' r'=>rw [ih1 _ h',ih2 _ r']
 refine⟨key,fun {ds vs} h=>?_⟩
 induction ds generalizing vs with
 |nil=>intro es h';cases h;cases h';rfl
 |cons d ds ih =>
  intro es h'
  cases h with
  |cons h r =>
   cases h' with
   |cons h' r'=>rw [key h _ h',ih r _ r']
theorem Rep.inj {pins:List (Addr×Obj)}{s:zbk8}{σ:L2.St}{H:Hp} (I:Inv X pins σ H s) {d e:D}{v:V} (h:Rep X.K H d v) (h':Rep X.K H e v):d=e:=(Rep.injR I).1 h e h'
mutual
theorem zbf3:∀ {a b:D},eqD a b=true↔a=b
 |.non,b=>by cases b<;>simp [eqD]
 |.bl _,b=>by cases b<;>simp [eqD]
 |.int _,b=>by cases b<;>simp [eqD]
 |.str _,b=>by cases b<;>simp [eqD]
 |.tup xs,b=>by
  cases b with
  |tup ys=>simp only [eqD,D.tup.injEq];exact zw8
  |_=>simp [eqD]
 |.lst xs,b=>by
  cases b with
  |lst ys=>simp only [eqD,D.lst.injEq];exact zw8
  |_=>simp [eqD]
 |.dct ks xs,b=>by
  cases b with
  |dct ks' ys=>simp only [eqD,D.dct.injEq,zbk7,decide_eq_true_eq];rw [zw8 (a:=xs) (b:=ys)]
  |_=>simp [eqD]
 |.pdc a,b=>by cases b<;>simp [eqD]
theorem zw8:∀ {a b:List D},eqDs a b=true↔a=b
 |[],b=>by cases b<;>simp [eqDs]
 |x::xs,b=>by
  cases b with
  |nil=>simp [eqDs]
  |cons y ys =>
   simp only [eqDs,zbk7,List.cons.injEq]
   rw [zbf3 (a:=x) (b:=y),zw8 (a:=xs) (b:=ys)]
end
theorem eqD_true {a b:D}:eqD a b=true↔a=b:=zbf3
theorem eqD_false {a b:D}:eqD a b=false↔¬ a=b:=by rw [← eqD_true];simp
noncomputable def eAt (xs ys:List D) (j:Nat):Bool:=match xs[j]?,ys[j]? with
 |some a,some b=>eqD a b
 |_,_=>true
end
end DL
namespace DL
open PySem.Spec L2
theorem PlainL.isL {h:Heap}{a:Addr}{its:Array Value} (p:PlainL h a its):h.IsList a its:=by
 obtain⟨o,n,e,c,_,d⟩:=p
 exact⟨o,e,c,n,d⟩
section
variable {X:Cx}{F:List Addr}{a b c:Expr}{es:List Expr}{fa fb fc:DE}{g g1 g2:DS}{ft fu:DT}{pos:Pos}{st:Stmt}{rest:List Stmt}{tg:Expr}{gt:TG}{kt:D→Th→Option Th}
noncomputable def scD:D→Bool
 |.tup _=>false
 |.lst _=>false
 |.dct _ _=>false
 |.pdc _=>false
 |_=>true
theorem eqV_D {K:zbj6}{H:Hp}{n:Nat}{d e:D}{v u:V} (r:Rep K H d v) (q:Rep K H e u) (s1:scD d=true) (s2:scD e=true) (ok:eqOk n d e=true):zt9 v=true∧zt9 u=true∧eqV v u=eqD d e:=by
 cases r<;>cases q<;>simp_all [scD,eqOk,zt9,eqV,eqD]
 all_goals (rw [zbq6];simp)
theorem zaf7 {xs ys:List D} (h:xs.length=ys.length):(zbo3 xs.length).all (eAt xs ys)=eqD (.lst xs) (.lst ys):=by
 rw [zbq6,eqD_true,zbq0]
 constructor
 ·intro hh
  congr 1
  apply zbw4 h
  intro i h1 h2
  have:=hh i (zbq9.mpr h1)
  simp only [eAt,zbk4 h1,zbk4 h2]at this
  exact eqD_true.mp this
 ·intro hh i hi
  injection hh with hh
  subst hh
  simp only [eAt]
  split
  ·rename_i a b z1 z2
   rw [z1]at z2;cases z2
   exact eqD_true.mpr rfl
  ·rfl
theorem zaf6 {xs ys:List D}:((zbo3 (min xs.length ys.length)).all (eAt xs ys)&&xs.length == ys.length)=eqD (.tup xs) (.tup ys):=by
 by_cases h:xs.length=ys.length
 ·have e:min xs.length ys.length=xs.length:=by lia
  rw [e,zaf7 h,beq_iff_eq.mpr h,zbx2]
  rw [zbq6,eqD_true,eqD_true]
  simp
 ·have e:(xs.length == ys.length)=false:=by simpa using h
  rw [e,Bool.and_false]
  symm
  rw [eqD_false]
  intro z
  injection z with z
  exact h (by rw [z])
theorem zal0 {n:Nat}{xs ys:List D} (h:((xs.zip ys).all fun p=>eqOk n p.1 p.2)=true) {j:Nat}{x y:D} (hx:xs[j]?=some x) (hy:ys[j]?=some y):eqOk n x y=true:=by
 rw [zbq0]at h
 refine h (x,y) (zbn6 (i:=j) ?_)
 rw [List.getElem?_zip_eq_some]
 exact⟨hx,hy⟩
theorem zaj3 {A:Around}:A.in1.units=A.units+1:=rfl
theorem Vals.getL {vs:List V}{us:List Value} (h:Vals vs us) {j:Nat} (hj:j<us.toArray.size):∃v,vs[j]?=some v∧RelV v us.toArray[j]:=by
 have hj':j<vs.length:=by rw [h.length];simpa using hj
 obtain⟨u,e,r⟩:=Vals.get h (zbk4 hj')
 refine⟨_,zbk4 hj',?_⟩
 have:us.toArray[j]=u:=by
  have hj2:j<us.length:=by simpa using hj
  have:=zbk4 hj2
  rw [e]at this
  simpa using (Option.some.inj this).symm
 rw [this];exact r
theorem eqAt_D {pins:List (Addr×Obj)}{s:zbk8}{σ:L2.St}{H:Hp} (I:Inv X pins σ H s):∀(n:Nat) (A:Around) (d e:D) (v u:V) (y z:Value),A.units+n<cLine→eqOk n d e=true→Rep X.K H d v→Rep X.K H e u→RelV v y→RelV u z→SeqAt.EqAt A s y z (eqD d e):=by
 intro n
 induction n with
 |zero =>
  intro A d e v u y z hu ok r q ry rz
  have s1:scD d=true:=by cases d<;>cases e<;>simp_all [scD,eqOk]
  have s2:scD e=true:=by cases d<;>cases e<;>simp_all [scD,eqOk]
  obtain⟨f1,f2,ee⟩:=eqV_D r q s1 s2 ok
  rw [← ee]
  exact zbf4 ry rz f1 f2
 |succ n ih =>
  intro A d e v u y z hu ok r q ry rz
  by_cases s1:scD d=true
  ·have s2:scD e=true:=by cases d<;>cases e<;>simp_all [scD,eqOk]
   obtain⟨f1,f2,ee⟩:=eqV_D r q s1 s2 ok
   rw [← ee]
   exact zbf4 ry rz f1 f2
  ·have hu':A.in1.units+n<cLine:=by rw [zaj3];lia
   have hu0:A.units<cLine:=by lia
   cases r with
   |@tup xs p vs h1 h2 =>
    cases q with
    |@tup ys p' ws h1' h2' =>
     cases ry;cases rz
     by_cases z:p=p'
     ·subst z
      have e:=Rep.inj I (.tup h1 h2) (.tup h1' h2')
      rw [eqD_true.mpr e]
      exact SeqAt.EqAt.same _
     ·obtain⟨its,w1,w2,_⟩:=I.tuple h1
      obtain⟨its',w1',w2',_⟩:=I.tuple h1'
      refine SeqAt.EqAt.of_refs z ?_
      have k:=SeqAt.RcAt.tuples (A:=A) (e:=eAt xs ys) w2 w2' hu0 (fun j g1 g2=>by
       obtain⟨v1,a1,a2⟩:=Vals.getL w1 g1
       obtain⟨v2,b1,b2⟩:=Vals.getL w1' g2
       obtain⟨x1,c1,c2⟩:=h2.getV a1
       obtain⟨x2,d1,d2⟩:=h2'.getV b1
       have:=ih A.in1 x1 x2 v1 v2 _ _ hu' (zal0 (by simpa [eqOk] using ok) c1 d1) c2 d2 a2 b2
       have ee:eAt xs ys j=eqD x1 x2:=by simp only [eAt,c1,d1]
       rw [ee];exact this)
      have l1:its.toArray.size=xs.length:=by have:=w1.length;have:=h2.length;simp;lia
      have l2:its'.toArray.size=ys.length:=by have:=w1'.length;have:=h2'.length;simp;lia
      rw [l1,l2,zaf6]at k
      exact k
    |_=>simp_all [eqOk]
   |@lst xs p vs h1 h2 =>
    cases q with
    |@lst ys p' ws h1' h2' =>
     cases ry;cases rz
     by_cases z:p=p'
     ·subst z
      have e:=Rep.inj I (.lst h1 h2) (.lst h1' h2')
      rw [eqD_true.mpr e]
      exact SeqAt.EqAt.same _
     ·obtain⟨its,w1,w2,_⟩:=I.list h1
      obtain⟨its',w1',w2',_⟩:=I.list h1'
      refine SeqAt.EqAt.of_refs z ?_
      have l1:its.toArray.size=xs.length:=by have:=w1.length;have:=h2.length;simp;lia
      have l2:its'.toArray.size=ys.length:=by have:=w1'.length;have:=h2'.length;simp;lia
      by_cases hl:xs.length=ys.length
      ·have k:=SeqAt.RcAt.lists (A:=A) (e:=eAt xs ys) (PlainL.isL w2) (PlainL.isL w2') (by rw [l1,l2];exact hl) hu0 (fun j g1 g2=>by
        obtain⟨v1,a1,a2⟩:=Vals.getL w1 g1
        obtain⟨v2,b1,b2⟩:=Vals.getL w1' g2
        obtain⟨x1,c1,c2⟩:=h2.getV a1
        obtain⟨x2,d1,d2⟩:=h2'.getV b1
        have:=ih A.in1 x1 x2 v1 v2 _ _ hu' (zal0 (by simpa [eqOk] using ok) c1 d1) c2 d2 a2 b2
        have ee:eAt xs ys j=eqD x1 x2:=by simp only [eAt,c1,d1]
        rw [ee];exact this)
       rw [l1,zaf7 hl]at k
       exact k
      ·have ee:eqD (.lst xs) (.lst ys)=false:=eqD_false.mpr fun z=>hl (by injection z with z;rw [z])
       rw [ee]
       exact SeqAt.RcAt.lists_lengths (PlainL.isL w2) (PlainL.isL w2') (by rw [l1,l2];simpa using hl) hu0
    |_=>simp_all [eqOk]
   |dct=>exact absurd ok (by cases e<;>simp [eqOk])
   |pdc=>exact absurd ok (by cases e<;>simp [eqOk])
   |_=>simp_all [scD]
theorem zaq6 {pins:List (Addr×Obj)}{s:zbk8}{σ:L2.St}{H:Hp} (I:Inv X pins σ H s) {n:Nat}{A:Around}{xs ys:List D}{vs ws:List V}{its its':List Value} (hu:A.units+n+1<cLine) (ok:((xs.zip ys).all fun p=>eqOk n p.1 p.2)=true)
  (h2:Reps X.K H xs vs) (h2':Reps X.K H ys ws) (w1:Vals vs its) (w1':Vals ws its'):∀j (g1:j<its.toArray.size) (g2:j<its'.toArray.size),SeqAt.EqAt A.in1 s its.toArray[j] its'.toArray[j] (eAt xs ys j):=fun j g1 g2=>by
 obtain⟨v1,a1,a2⟩:=Vals.getL w1 g1
 obtain⟨v2,b1,b2⟩:=Vals.getL w1' g2
 obtain⟨x1,c1,c2⟩:=h2.getV a1
 obtain⟨x2,d1,d2⟩:=h2'.getV b1
 have:=eqAt_D I n A.in1 x1 x2 v1 v2 _ _ (by rw [zaj3];lia) (zal0 ok c1 d1) c2 d2 a2 b2
 have ee:eAt xs ys j=eqD x1 x2:=by simp only [eAt,c1,d1]
 rw [ee];exact this
noncomputable def kEq:Ev→Ev→Option Ev:=fun r1 r2=>if eqOk 6 r1.d r2.d then some (.cl (.bl (eqD r1.d r2.d))) else none
noncomputable def kNe:Ev→Ev→Option Ev:=fun r1 r2=>if eqOk 6 r1.d r2.d then some (.cl (.bl (!eqD r1.d r2.d))) else none
theorem scal_D {K:zbj6}{H:Hp}{n:Nat}{d e:D}{v u:V} (r:Rep K H d v) (q:Rep K H e u) (s1:scD d=true) (ok:eqOk n d e=true):scal v u=true∧decide (v=u)=eqD d e:=by
 cases r<;>cases q<;>simp_all [scD,eqOk,scal,eqD]
theorem zan3 (hu:X.A.units+64<cLine):OpD X F (compareOp .Eq) kEq:=by
 intro pins s σ H0 H A x y v u Q r1 r2 r I m g0 rx ry q1 q2 e hq
 unfold kEq at e
 split at e
 case isFalse=>cases e
 rename_i ok
 cases e
 have p1:=q1.full
 have p2:=q2.full
 by_cases s1:scD r1.d=true
 ·obtain⟨a1,a2⟩:=scal_D p1 p2 s1 ok
  exact op_eq pins s σ H x y v u Q I rx ry ⟨a1,by rw [a2];exact hq _ H (Same.refl H) (.bl _)⟩
 ·generalize r1.d=d1 at *
  generalize r2.d=d2 at *
  have hu0:X.A.units<cLine:=by lia
  cases p1 with
  |@tup xs p vs h1 h2 =>
   cases p2 with
   |@tup ys p' ws h1' h2' =>
    cases rx;cases ry
    obtain⟨its,w1,w2,_⟩:=I.tuple h1
    obtain⟨its',w1',w2',_⟩:=I.tuple h1'
    have l1:its.toArray.size=xs.length:=by have:=w1.length;have:=h2.length;simp;lia
    have l2:its'.toArray.size=ys.length:=by have:=w1'.length;have:=h2'.length;simp;lia
    refine SeqAt.eq_tupleAt w2 w2' hu0 (zaq6 I (n:=5) (by lia) (by simpa [eqOk] using ok) h2 h2' w1 w1') ?_
    rw [l1,l2,zaf6]
    exact⟨.bl _,H,I,rfl,hq _ H (Same.refl H) (.bl _)⟩
   |_=>simp_all [eqOk]
  |@lst xs p vs h1 h2 =>
   cases p2 with
   |@lst ys p' ws h1' h2' =>
    cases rx;cases ry
    obtain⟨its,w1,w2,_⟩:=I.list h1
    obtain⟨its',w1',w2',_⟩:=I.list h1'
    have l1:its.toArray.size=xs.length:=by have:=w1.length;have:=h2.length;simp;lia
    have l2:its'.toArray.size=ys.length:=by have:=w1'.length;have:=h2'.length;simp;lia
    by_cases hl:xs.length=ys.length
    ·refine SeqAt.eq_listAt (PlainL.isL w2) (PlainL.isL w2') (by rw [l1,l2];exact hl) hu0 (zaq6 I (n:=5) (by lia) (by simpa [eqOk] using ok) h2 h2' w1 w1') ?_
     rw [l1,zaf7 hl]
     exact⟨.bl _,H,I,rfl,hq _ H (Same.refl H) (.bl _)⟩
    ·have ee:eqD (.lst xs) (.lst ys)=false:=eqD_false.mpr fun z=>hl (by injection z with z;rw [z])
     rw [ee]at hq
     exact SeqAt.eq_list_lengthsAt (PlainL.isL w2) (PlainL.isL w2') (by rw [l1,l2];simpa using hl) hu0 ⟨.bl _,H,I,rfl,hq _ H (Same.refl H) (.bl _)⟩
   |_=>simp_all [eqOk]
  |dct=>exact absurd ok (by cases d2<;>simp [eqOk])
  |pdc=>exact absurd ok (by cases d2<;>simp [eqOk])
  |_=>simp_all [scD]
theorem zaw1 (hu:X.A.units+64<cLine):OpD X F (compareOp .NotEq) kNe:=by
 intro pins s σ H0 H A x y v u Q r1 r2 r I m g0 rx ry q1 q2 e hq
 unfold kNe at e
 split at e
 case isFalse=>cases e
 rename_i ok
 cases e
 have p1:=q1.full
 have p2:=q2.full
 by_cases s1:scD r1.d=true
 ·obtain⟨a1,a2⟩:=scal_D p1 p2 s1 ok
  exact op_ne pins s σ H x y v u Q I rx ry ⟨a1,by rw [a2];exact hq _ H (Same.refl H) (.bl _)⟩
 ·generalize r1.d=d1 at *
  generalize r2.d=d2 at *
  have hu0:X.A.units<cLine:=by lia
  cases p1 with
  |@tup xs p vs h1 h2 =>
   cases p2 with
   |@tup ys p' ws h1' h2' =>
    cases rx;cases ry
    obtain⟨its,w1,w2,_⟩:=I.tuple h1
    obtain⟨its',w1',w2',_⟩:=I.tuple h1'
    have l1:its.toArray.size=xs.length:=by have:=w1.length;have:=h2.length;simp;lia
    have l2:its'.toArray.size=ys.length:=by have:=w1'.length;have:=h2'.length;simp;lia
    have k:=SeqAt.RcNeAt.tuples (A:=X.A) w2 w2' hu0 (zaq6 I (n:=5) (by lia) (by simpa [eqOk] using ok) h2 h2' w1 w1')
    rw [l1,l2,zaf6]at k
    exact k _ _ _ _ ⟨.bl _,H,I,rfl,hq _ H (Same.refl H) (.bl _)⟩
   |_=>simp_all [eqOk]
  |@lst xs p vs h1 h2 =>
   cases p2 with
   |@lst ys p' ws h1' h2' =>
    cases rx;cases ry
    obtain⟨its,w1,w2,_⟩:=I.list h1
    obtain⟨its',w1',w2',_⟩:=I.list h1'
    have l1:its.toArray.size=xs.length:=by have:=w1.length;have:=h2.length;simp;lia
    have l2:its'.toArray.size=ys.length:=by have:=w1'.length;have:=h2'.length;simp;lia
    by_cases hl:xs.length=ys.length
    ·have k:=SeqAt.RcNeAt.lists (A:=X.A) (PlainL.isL w2) (PlainL.isL w2') (by rw [l1,l2];exact hl) hu0 (zaq6 I (n:=5) (by lia) (by simpa [eqOk] using ok) h2 h2' w1 w1')
     rw [l1,zaf7 hl]at k
     exact k _ _ _ _ ⟨.bl _,H,I,rfl,hq _ H (Same.refl H) (.bl _)⟩
    ·have ee:eqD (.lst xs) (.lst ys)=false:=eqD_false.mpr fun z=>hl (by injection z with z;rw [z])
     rw [ee]at hq
     exact SeqAt.RcNeAt.lists_lengths (A:=X.A) (PlainL.isL w2) (PlainL.isL w2') (by rw [l1,l2];simpa using hl) hu0 _ _ _ _ ⟨.bl _,H,I,rfl,hq _ H (Same.refl H) (.bl _)⟩
   |_=>simp_all [eqOk]
  |dct=>exact absurd ok (by cases d2<;>simp [eqOk])
  |pdc=>exact absurd ok (by cases d2<;>simp [eqOk])
  |_=>simp_all [scD]
noncomputable def tyD:D→String
 |.non => "NoneType"
 |.bl _ => "bool"
 |.int _ => "int"
 |.str _ => "str"
 |.tup _ => "tuple"
 |.lst _ => "list"
 |.dct _ _ => "dict"
 |.pdc _ => "dict"
noncomputable def isiT (d:D) (T:String):Bool:=tyD d == T||(tyD d == "bool"&&T == "int")
noncomputable def dIsi (T:String) (f:DE):DE:=fun t=>(f t).bind fun r=>some (.cl (.bl (isiT r.d T)))
noncomputable def IsiOk (K:zbj6) (T:String):Prop := ∀d:D,PySem.W.kitOne K (.type (tyD d)) (.type T)=some (isiT d T)
theorem ped_isi {T:String}{x:Str}{p p2:Pos} (ok:IsiOk X.K T) (ha:PE X a (dE X.K F fa)) (hg:Gl X "isinstance") (hm:X.mg "isinstance"=none) (hgT:Gl X x) (hmT:X.mg x=none) (hvT:bootBuiltins x=some (.type T)) (hnT:x≠"__name__":=by decide) (hdT:(x ==("__debug__":Str))=false:=by decide)
  (he:zbm0 (a::[Expr.Name x p2]) X.env=(false,eval a X.env)::zbm0 [.Name x p2] X.env:=by rfl) (he2:zbm0 [Expr.Name x p2] X.env=[(false,eval (.Name x p2) X.env)]:=by rfl) (hpl:(zbt6 pos (zbm0 [Expr.Name x p2] X.env)).any (·.1)=false:=by rfl) :
  PE X (.Call (.Name "isinstance" p) [a,.Name x p2] [] pos) (dE X.K F (dIsi T fa)):=by
 have rule:zq7 X (.builtin "isinstance") (fun xs H Q => ∃v d,xs=[v,.ty T]∧Rep X.K H d v∧Q (.bl (isiT d T)) H):=by
  intro pins s σ H xs us Q I r h
  obtain⟨v,d,rfl,rp,hq⟩:=h
  obtain⟨u,w',rfl,r1,r2⟩:=vals2 r
  cases (show w'=Value.type T from r2)
  have fin:∀tk,EP X pins σ Q (.bool (isiT d T)) { s with toks:=tk }:=fun tk=>⟨.bl _,H,I.tok tk,rfl,hq⟩
  have e:=ok d
  cases rp with
  |non=>cases (show u=Value.none from r1);exact zbr7 PySem.W.kitx_none I.kIn True.intro e (fun z=>nomatch z) fin
  |bl y=>cases (show u=Value.bool y from r1);exact zbr7 PySem.W.kitx_bool I.kIn True.intro e (fun z=>nomatch z) fin
  |int i=>obtain⟨t,q⟩:=(show ∃t,u=Value.int i t from r1);cases q;exact zbr7 PySem.W.kitx_int I.kIn True.intro e (fun z=>nomatch z) fin
  |str y=>obtain⟨t,q⟩:=(show ∃t,u=Value.str y t from r1);cases q;exact zbr7 PySem.W.kitx_str I.kIn True.intro e (fun z=>nomatch z) fin
  |@tup _ p _ h1 h2 =>
   cases (show u=Value.ref p from r1)
   obtain⟨its,_,⟨o,e1,c1,_⟩,_⟩:=I.tuple h1
   exact zbr7 PySem.W.kitx_tuple I.kIn ⟨o,e1,c1⟩ e (fun z=>nomatch z) fin
  |@lst _ p _ h1 h2 =>
   cases (show u=Value.ref p from r1)
   obtain⟨its,_,⟨o,n,e1,c1,_⟩,_⟩:=I.list h1
   exact zbr7 PySem.W.kitx_list I.kIn ⟨o,e1,c1⟩ e (fun z=>nomatch z) fin
  |@dct _ _ p _ _ h1 h2 =>
   cases (show u=Value.ref p from r1)
   exact zbr7 zcd2 I.kIn (zz2 I h1) e (fun z=>nomatch z) fin
  |@pdc _ p h1 =>
   cases (show u=Value.ref p from r1)
   exact zbr7 zcd2 I.kIn (zx5 I h1) e (fun z=>nomatch z) fin
 refine PE.imp (pe_callB rule hg hm boot_isinstance (zh2 ha (zh2 (pe_bltn (v:=.ty T) hgT hmT hvT rfl hnT hdT) zr1 he2) he) (by decide) (by decide) he hpl) ?_
 rintro σ H Q ⟨A,t,r,R,e,h⟩
 unfold dIsi at e
 cases e1:fa t with
 |none=>rw [e1]at e;cases e
 |some r1 =>
  rw [e1]at e
  cases e
  exact⟨A,t,r1,R,e1,fun v H' gs q=>⟨v,r1.d,rfl,q.full,h _ H' gs (.bl _)⟩⟩
end
noncomputable def zab1 (N:List Str) (ds:List D):Th:=ds.map Sl.val++zbl4 (N.length - ds.length) Sl.no
theorem RSl.no_all {K:zbj6}{H0 H:Hp}:∀n,RSl K H0 H (zbl4 n Sl.no) (zbl4 n none) []
 |0=>.nil
 |n+1=>.no (RSl.no_all n)
theorem RSl.start {K:zbj6}{H0 H:Hp}{t:Th}{σ:L2.St} (r0:RSl K H0 H t σ []):∀ {ds:List D}{vs:List V},Reps K H0 ds vs→RSl K H0 H (ds.map Sl.val++t) (vs.map some++σ) []
 |_,_,.nil=>r0
 |_,_,.cons h r=>.val h (RSl.start r0 r)
noncomputable def zj2:Out→Option Ev
 |.rt r=>some r
 |.nx _=>some (.cl .non)
 |_=>none
theorem zi8 {P:Program}{w:World}{K:zbj6}{mg:Str→Option Value}{base:BHeap}{x qual:Str}{st:Stmt}{f:Addr}{fd:FuncData}{N ps:List Str}{k:Nat}{G:List D→Option Ev} (Fn:L2.Fun K x qual st f fd) (S:FnScope N ps (zb8 st))
  (hlen:∀ds r,G ds=some r→ds.length=ps.length) (g:DS) (hG:∀ds r,G ds=some r→∃o,g (zab1 N ds)=some o∧zj2 o=some r)
  (hbody:∀(cdv:Value) (A:Around) (outer:List Env) (s:zbk8) (H:Hp) (E:XK) (F:List Addr),Room k (A.deeper (envOfC qual (zb8 st) s.heap.objs.size f cdv)) →
   PSs (cxOf CX0 P w K mg base N qual (zb8 st) f cdv A outer s H E).nox (zi5 st) (dS K F g)):FnOk P w K mg base CX0 (k+1) f fd ps (spD K G):=by
 refine Fn.ok S (fun vs H Q E h=>?_) (fun cdv A outer s H vs Q E hr h=>?_)
 ·obtain⟨Fo,ds,r,_,hr,hg,_⟩:=h
  rw [hr.length];exact hlen ds r hg
 ·obtain⟨Fo,ds,r,hl,hr',hg,cont⟩:=h
  obtain⟨o,ho,hoe⟩:=hG ds r hg
  refine⟨_,hbody cdv A outer s H E Fo hr,dS_mk (A:=[]) (t:=zab1 N ds) ⟨hl,zbs3,fun p hp=>(by cases hp),?_⟩ ho ?_⟩
  ·unfold zab1 L2.start
   rw [hr'.length]
   exact RSl.start (RSl.no_all _) hr'
  ·have sm:∀ {A' H'},Gr [] H A' H'→Same H H':=fun g b o q=>g.kp b o (by simp) q
   cases o with
   |nx t' =>
    cases hoe
    exact fun σ' H' A' g' R'=>cont .non H' (sm g') .non
   |bk t'=>cases hoe
   |ct t'=>cases hoe
   |rt r' =>
    cases hoe
    intro v H' A' g' q
    refine cont v H' (sm g') ?_
    cases r with
    |cl d=>exact q
    |tm d=>exact q
    |nw xs =>
     obtain⟨p,vs',rfl,h1,h2,h3,h4⟩:=q
     rcases h1 with h1 | h1
     ·cases h1
     ·exact⟨p,vs',rfl,h1,h3,h4⟩
    |dn d =>
     obtain⟨B,h1,h2,h3⟩:=q
     exact⟨B,h1,fun b hb=>by rcases (h2 b hb).1 with z | z;cases z;exact z,h3⟩
end DL
namespace DL
open PySem.Spec L2
structure Cal (P:Program) (w:World) (K:zbj6) (mg:Str→Option Value) (base:BHeap) (x:Str) (k:Nat) (G:List D→Option Ev):Prop where
 ex:∃(a:Addr) (fd:FuncData) (ps:List Str),mg x=some (.ref a)∧zbq7 K (.ref a)=true∧L2.Binds K fd ps []∧FnOk P w K mg base CX0 k a fd ps (spD K G)
section
variable {X:Cx}{F:List Addr}{a b c:Expr}{es:List Expr}{fa fb fc:DE}{ga:DA}{pos:Pos}
theorem zc0 {k:Nat}{G:List D→Option Ev}{x:Str}{p:Pos} (c:Cal X.prog X.w X.K X.mg X.base x k G) (hr:Room k X.A) (ha:PA X (a::es) (dA X.K F ga)) (hg:Gl X x:=by rfl) (hdb:(x ==("__debug__":Str))=false:=by decide)
  (he:zbm0 (a::es) X.env=(false,eval a X.env)::zbm0 es X.env:=by rfl) (hpl:(zbt6 pos (zbm0 es X.env)).any (·.1)=false:=by rfl):PE X (.Call (.Name x p) (a::es) [] pos) (dE X.K F (dT1 (zd3 G) ga)):=by
 obtain⟨f,fd,ps,h1,h2,h3,h4⟩:=c.ex
 exact ped_call h4 hr hg h1 h2 h3 ha hdb he hpl
end
structure Df (K:zbj6) (mg:Str→Option Value) (x:Str) (st:Stmt) (ps:List Str) (a:Addr) (fd:FuncData):Prop where
 fn:L2.Fun K x x st a fd
 mgx:mg x=some (.ref a)
 bd:L2.Binds K fd ps []
theorem Df.cal {P:Program}{w:World}{K:zbj6}{mg:Str→Option Value}{base:BHeap}{x:Str}{st:Stmt}{ps:List Str}{a:Addr}{fd:FuncData}{k:Nat}{G:List D→Option Ev} (d:Df K mg x st ps a fd) (h:FnOk P w K mg base CX0 k a fd ps (spD K G)):Cal P w K mg base x k G :=
 ⟨a,fd,ps,d.mgx,d.fn.kp,d.bd,h⟩
theorem isi_bool {K:zbj6}:IsiOk K "bool":=fun d=>by cases d<;>rfl
theorem bt_int:bootBuiltins "int"=some (.type "int"):=by decide +kernel
theorem bt_bool:bootBuiltins "bool"=some (.type "bool"):=by decide +kernel
theorem zr9:bootBuiltins "list"=some (.type "list"):=by decide +kernel
end DL
namespace DL
open PySem.Spec L2
theorem cut1 {n:Nat}:∀ {us:List Value},us.length=n+1→∃a t,us=a::t∧t.length=n
 |a::t,h=>⟨a,t,rfl,Nat.succ.inj h⟩
theorem binds1 {K:zbj6}{x qual:Str}{st:Stmt}{f:Addr}{fd:FuncData}{p0:Str} (F:L2.Fun K x qual st f fd) (h:∀(kV doc pm:Value) (an:Option Addr) (cdv ct:Value),∀a0:Value,bindArgs (zbr2 x qual (zl5 st) (zi5 st) (zb8 st) .none kV doc pm an cdv ct) ⟨[a0],[]⟩=pure [(p0,a0)]):Binds K fd [p0] [] :=
 F.binds fun kV doc pm an cdv ct u0 h0=>by
  obtain⟨a0,u1,rfl,h1⟩:=cut1 h0
  cases zbp2.mp h1
  exact h kV doc pm an cdv ct a0
theorem zu2 {K:zbj6}{x qual:Str}{st:Stmt}{f:Addr}{fd:FuncData}{p0 p1:Str} (F:L2.Fun K x qual st f fd) (h:∀(kV doc pm:Value) (an:Option Addr) (cdv ct:Value),∀a0 a1:Value,bindArgs (zbr2 x qual (zl5 st) (zi5 st) (zb8 st) .none kV doc pm an cdv ct) ⟨[a0,a1],[]⟩=pure [(p0,a0),(p1,a1)]):Binds K fd [p0,p1] [] :=
 F.binds fun kV doc pm an cdv ct u0 h0=>by
  obtain⟨a0,u1,rfl,h1⟩:=cut1 h0
  obtain⟨a1,u2,rfl,h2⟩:=cut1 h1
  cases zbp2.mp h2
  exact h kV doc pm an cdv ct a0 a1
theorem zat9 {K:zbj6}{x qual:Str}{st:Stmt}{f:Addr}{fd:FuncData}{p0 p1 p2:Str} (F:L2.Fun K x qual st f fd) (h:∀(kV doc pm:Value) (an:Option Addr) (cdv ct:Value),∀a0 a1 a2:Value,bindArgs (zbr2 x qual (zl5 st) (zi5 st) (zb8 st) .none kV doc pm an cdv ct) ⟨[a0,a1,a2],[]⟩=pure [(p0,a0),(p1,a1),(p2,a2)]):Binds K fd [p0,p1,p2] [] :=
 F.binds fun kV doc pm an cdv ct u0 h0=>by
  obtain⟨a0,u1,rfl,h1⟩:=cut1 h0
  obtain⟨a1,u2,rfl,h2⟩:=cut1 h1
  obtain⟨a2,u3,rfl,h3⟩:=cut1 h2
  cases zbp2.mp h3
  exact h kV doc pm an cdv ct a0 a1 a2
theorem zbi5 {K:zbj6}{x qual:Str}{st:Stmt}{f:Addr}{fd:FuncData}{p0 p1 p2 p3:Str} (F:L2.Fun K x qual st f fd) (h:∀(kV doc pm:Value) (an:Option Addr) (cdv ct:Value),∀a0 a1 a2 a3:Value,bindArgs (zbr2 x qual (zl5 st) (zi5 st) (zb8 st) .none kV doc pm an cdv ct) ⟨[a0,a1,a2,a3],[]⟩=pure [(p0,a0),(p1,a1),(p2,a2),(p3,a3)]):Binds K fd [p0,p1,p2,p3] [] :=
 F.binds fun kV doc pm an cdv ct u0 h0=>by
  obtain⟨a0,u1,rfl,h1⟩:=cut1 h0
  obtain⟨a1,u2,rfl,h2⟩:=cut1 h1
  obtain⟨a2,u3,rfl,h3⟩:=cut1 h2
  obtain⟨a3,u4,rfl,h4⟩:=cut1 h3
  cases zbp2.mp h4
  exact h kV doc pm an cdv ct a0 a1 a2 a3
inductive Hv (K:zbj6) (x:Str) (st:Stmt) (f:Addr):Prop
 |mk {od an:Option Addr}{sl:Array (Option Value)}{oc kV dc pm cd ct:Value} (a:zbp9 K mainGlobals x=some (some (.ref f))) (l:K.lookup f=some ⟨oc,od,.func (zbr2 x x (zl5 st) (zi5 st) (zb8 st) .none kV dc pm an cd ct),sl⟩) (c:zby4 K cd x=true) (k:zbq7 K (.ref f)=true):Hv K x st f
theorem Hv.fn {K:zbj6}{x:Str}{st:Stmt}{f:Addr} (h:Hv K x st f):∃fd,L2.Fun K x x st f fd:=by
 cases h with
 |mk a l c k=>exact⟨_,fun_mk l c k⟩
theorem Hv.mg {K:zbj6}{x:Str}{st:Stmt}{f:Addr}{hp:Heap}{mg:Str→Option Value} (h:Hv K x st f) (X:K.In hp) (G:hp.Ns mainGlobals mg):mg x=some (.ref f):=by
 cases h with
 |mk a l c k=>exact PySem.W.mg_of X G a
theorem zn8 {N P:List Str}{sc:Scope} (h1:sc.kind=.function) (h2:sc.isCoroutine=false) (h3:sc.isGenerator=false) (h5:N.take P.length=P) (h:(decide N.Nodup&&(decide (∀x∈P,sc.names.lookup x=some .local∨sc.names.lookup x=some .cell)&&decide (∀y∈sc.names,y.2≠.free)))=true):FnScope N P sc:=by
 rw [zbk7,zbk7,decide_eq_true_eq,decide_eq_true_eq,decide_eq_true_eq]at h
 exact⟨h1,h2,h3,h.1,h5,h.2.1,h.2.2⟩
theorem Hv.bt {K:zbj6}{x:Str}{st:Stmt}{f:Addr}{fd:FuncData}{p:Str} (F:L2.Fun K x x st f fd) (h:∀(kV doc pm:Value) (an:Option Addr) (cdv ct:Value) (v:Value),bindArgs (zbr2 x x (zl5 st) (zi5 st) (zb8 st) .none kV doc pm an cdv ct) ⟨[v],[]⟩=pure [(p,v)]) (s:zbk8) (v:Value):BindsTo s fd ⟨[v],[]⟩ [(p,v)]:=by
 obtain⟨oc,od,kV,doc,pm,an,cdv,ct,osl,rfl,lk,hcd⟩:=F.ex
 exact .of_eq (h ..)
noncomputable def locB (sc:Scope) (x:Str):Bool:=match sc.names.lookup x with
 |some .local=>true
 |some .cell=>true
 |_=>false
theorem za9 {sc:Scope}{x:Str} (h:locB sc x=true):L2.Loc sc x:=by
 unfold locB at h
 unfold L2.Loc
 cases e:sc.names.lookup x with
 |none=>rw [e]at h;cases h
 |some k=>rw [e]at h;cases k<;>first | exact .inl rfl | exact .inr rfl | cases h
end DL
namespace L2
open PySem.Spec
section
variable {X:Cx}{pins:List (Addr×Obj)}{σ:L2.St}{H:Hp}{s:zbk8}{h':Heap}
theorem Inv.turnedNew {t':Nat}{fp:List Addr}{a:Addr}{o:HO} (I:Inv X pins σ H s) (k:∀b u,b∉fp→s.heap.get? b=some u→h'.get? b=some u) (hf:∀b∈fp,FpOk X pins H b) (hp:s.heap.objs.size≤a)
  (new:ObjOk X.prog X.w (upd H a o) h' a o):Inv X pins σ (upd H a o) { s with heap:=h',toks:=t' }:=by
 have ha:H a=none:=I.hok.fresh hp
 have sm:∀b u,H b=some u→upd H a o b=some u:=fun b u e=>by rw [zc9 (fun z=>by rw [z,ha]at e;cases e)];exact e
 have nfp:∀b u,H b=some u→b∉fp:=fun b u e z=>by rw [(hf b z).1]at e;cases e
 refine I.step (g':=s.gens) (d':=s.drawn) (ch:=fp) (fun b hb=>?_) (fun b u _ _ hc e _=>k b u hc e) (fun b u _ _ hc e _=>⟨u.slots,k b u hc e⟩) (fun b u _ e n=>?_)
  (fun b u hc e=>⟨u,k b u hc e⟩) (fun b xs e=>sm b _ e) (fun b q u e=>sm b _ e) (fun b ps e=>sm b _ e) (fun m hm=>?_) (fun b u e=>?_) I.bare
 ·obtain⟨f0,f1,f2,f3,f4,f5⟩:=hf b hb
  exact⟨f3,f1,f4,f5⟩
 ·rw [zc9 (zbn1 (zbm4 (zbl0 e) hp))];exact n
 ·obtain⟨q,es,ep,ho,r⟩:=hm
  exact⟨q,es,ep,k _ q (fun z=>(hf _ z).2.1 rfl) ho,r⟩
 ·by_cases z:b=a
  ·subst z
   rw [zc3]at e
   cases e
   exact new
  ·rw [zc9 z]at e
   refine (I.hok b u e).stay (fun c v hc q=>k c v ?_ q) (fun c q=>sm c _ q) (fun c xs q=>sm c _ q) fun c o u q=>sm c _ q
   rcases hc with w | w
   ·rw [w];exact nfp b u e
   ·exact nfp c _ w
theorem Inv.turnedL {t':Nat}{fp:List Addr} (I:Inv X pins σ H s) (k:∀b u,b∉fp→s.heap.get? b=some u→h'.get? b=some u) (hf:∀b∈fp,FpOk X pins H b):Inv X pins σ H { s with heap:=h',toks:=t' }:=by
 have nfp:∀b u,H b=some u→b∉fp:=fun b u e z=>by rw [(hf b z).1]at e;cases e
 refine I.step (g':=s.gens) (d':=s.drawn) (ch:=fp) (fun b hb=>?_) (fun b u _ _ hc e _=>k b u hc e) (fun b u _ _ hc e _=>⟨u.slots,k b u hc e⟩) (fun b u _ e n=>n)
  (fun b u hc e=>⟨u,k b u hc e⟩) (fun b xs e=>e) (fun b q u e=>e) (fun b ps e=>e) (fun m hm=>?_) (fun b u e=>?_) I.bare
 ·obtain⟨f0,f1,f2,f3,f4,f5⟩:=hf b hb
  exact⟨f3,f1,f4,f5⟩
 ·obtain⟨q,es,ep,ho,r⟩:=hm
  exact⟨q,es,ep,k _ q (fun z=>(hf _ z).2.1 rfl) ho,r⟩
 ·refine (I.hok b u e).stay (fun c v hc q=>k c v ?_ q) (fun c q=>q) (fun c xs q=>q) fun c o u q=>q
  rcases hc with w | w
  ·rw [w];exact nfp b u e
  ·exact nfp c _ w
end
noncomputable def Ite (K:zbj6) (a:Addr):It :=
 ⟨fun i H => ∃xs x,SqL K H a xs∧xs[i]?=some x,fun i H x H' => ∃p v,H p=none∧x=.ref p∧H'=upd H p (.tup [.int i,v])∧∀xs,SqL K H a xs→xs[i]?=some v,fun i H => ∃xs,SqL K H a xs∧xs.length≤i⟩
noncomputable def EnumAt (e it a:Addr) (i:Nat) (h:Heap):Prop:=(∃old,IsEnum h e it (i:Int) old)∧h.IsListIter it a i∧e≠it
theorem zay4 {P:Program}{w:World}{K:zbj6}{elts:List Expr}{k:Nat}{pos:Pos} (a e it:Addr):Turn P w K (.Tuple elts k pos) (Ite K a) [e,it] e (EnumAt e it a) where
 mem:=by simp
 obj:=fun i h st b hb=>by
  obtain⟨⟨old,h1⟩,h2,_⟩:=st
  rcases (by simpa using hb:b=e∨b=it) with rfl | rfl
  ·exact⟨_,h1,fun v z=>by cases z⟩
  ·obtain⟨o,e1,c,d⟩:=h2
   exact⟨o,e1,fun v z=>by rw [d]at z;cases z⟩
 keep:=fun i h h' st kk=>by
  obtain⟨⟨old,h1⟩,h2,ne⟩:=st
  exact⟨⟨old,kk e (by simp) _ h1⟩,h2.at fun o q=>kk it (by simp) o q,ne⟩
 item:=by
  intro X hP hw hK hc i pins s σ H E I hf st hg
  subst hP hw hK
  obtain⟨xs,x,hq,hx⟩:=hg
  obtain⟨its,rv,p,hz⟩:=I.list hq
  obtain⟨u,hu,ru⟩:=rv.get hx
  obtain⟨⟨old,h1⟩,h2,ne⟩:=st
  refine wpAny_pyNext_enum_item h1 h2 p.isList (x:=u) (by simpa using hu) ne fun h1' heo hit1 ht1 hz1 hk1=>?_
  refine⟨_,rfl,wpAny_letOwnedTupleGo_enum heo fun h2' he2 hs2=>?_⟩
  replace hs2:Heap.SameBut e h1' h2':=hs2
  have es:e<s.heap.objs.size:=zbl0 h1
  have kp:∀b o,b∉[e,it]→s.heap.get? b=some o→h2'.get? b=some o:=fun b o nb q=>by
   have n1:b≠e:=fun z=>nb (by simp [z])
   have n2:b≠it:=fun z=>nb (by simp [z])
   exact (hs2.2 b n1).trans (hk1 b o n1 n2 q)
  have ht2:h2'.get? s.heap.objs.size=some { cls:=.type "tuple",data:=.seq #[.int i s.toks,u] }:=(hs2.2 _ (zbu0 es)).trans ht1
  have I2:Inv X pins σ (upd H s.heap.objs.size (.tup [.int i,x])) { s with heap:=h2',toks:=s.toks+1 }:=I.turnedNew (t':=s.toks+1) kp hf (zbl3 _)
   ⟨by show 2≤sizeLine;decide,[.int i s.toks,u],.cons ⟨_,rfl⟩ (.cons ru .nil),⟨_,ht2,rfl,_,rfl⟩⟩
  refine⟨.ref s.heap.objs.size,_,I2,rfl,⟨s.heap.objs.size,x,I.hok.fresh (zbl3 _),rfl,rfl,fun ys hy=>by rw [I.list_inj hy hq];exact hx⟩,⟨⟨u,?_⟩,?_,ne⟩,fun b hb=>?_⟩
  ·exact he2
  ·exact hit1.extBut hs2.extBut (Ne.symm ne)
  ·rw [zc9 (fun z=>?_)]
   ·exact (hf b hb).1
   ·rcases (by simpa using hb:b=e∨b=it) with w' |w'
    ·rw [← z,w']at es;exact absurd es (zbr0 _)
    ·obtain⟨o,e1,_⟩:=h2
     have:=zbl0 e1
     rw [← w',z]at this;exact absurd this (zbr0 _)
 done:=by
  intro X hP hw hK hc i pins s σ H E I hf st hg
  subst hP hw hK
  obtain⟨xs,hq,hx⟩:=hg
  obtain⟨its,rv,p,hz⟩:=I.list hq
  obtain⟨⟨old,h1⟩,h2,ne⟩:=st
  have hl:=rv.length
  refine wpAny_pyNext_enum_end (I.ok.hd hc) h1 h2 p.isList (by simp;lia) fun h' eb=>⟨rfl,I.turnedL (t':=s.toks) (fun b o nb q=>eb b o (fun z=>nb (by simp [z])) q) hf⟩
 self:=fun _ _ _ _ _ st h=>by
  obtain⟨⟨old,h1⟩,_,_⟩:=st
  exact wpAny_pyIter_enum h1 h
noncomputable def iEnum (K:zbj6) (tl:TE):TI:=fun σ H R=>tl σ H fun x H1 => ∃a,x=.ref a∧(∃xs,SqL K H1 a xs)∧R (Ite K a) H1
theorem bt_enum:bootBuiltins "enumerate"=some (.type "enumerate"):=by decide +kernel
theorem zbb7 {X:Cx}{l:Expr}{tl:TE}{elts:List Expr}{k:Nat}{tp p pos:Pos} (hg:Gl X "enumerate") (hm:X.mg "enumerate"=none) (hl:PE X l tl) (hs:zbm0 [l] X.env=[(false,eval l X.env)]:=by rfl) :
  PI X (.Tuple elts k tp) (.Call (.Name "enumerate" p) [l] [] pos) (iEnum X.K tl):=by
 intro pins s σ H R I h
 refine Call_ (zn7 I hg hm bt_enum (PyProof.Rows.callWith_type1 (thn ((zh2 hl zr1 hs) pos pins s σ H (fun vs H1=>match vs with | [x] => ∃a,x=.ref a∧(∃xs,SqL X.K H1 a xs)∧R (Ite X.K a) H1 | _=>False) I h) fun us s1 ⟨vs,H1,I1,r1,q1⟩=>?_) hs rfl))
 cases r1 with
 |nil=>exact q1.elim
 |@cons x u xr ur ru rr =>
  cases rr with
  |cons _ _=>exact q1.elim
  |nil =>
  obtain⟨a,rfl,⟨xs,hq⟩,q⟩:=q1
  cases ru
  obtain⟨its,rv,p,hz⟩:=I1.list hq
  refine call_enumerate_list p.isList fun h' he hit hz' hk=>?_
  have I2:Inv X pins σ H1 { s1 with heap:=h' }:=I1.kept (t':=s1.toks) hk
  refine wpAny_pyIter_enum he ?_
  refine⟨s1.heap.objs.size+1,[s1.heap.objs.size+1,s1.heap.objs.size],EnumAt (s1.heap.objs.size+1) s1.heap.objs.size a,Ite X.K a,H1,rfl,I2,zay4 a _ _,⟨⟨_,he⟩,hit,Nat.succ_ne_self _⟩,fun b hb=>?_,q⟩
  rcases (by simpa using hb:b=s1.heap.objs.size+1∨b=s1.heap.objs.size) with rfl | rfl
  ·exact I1.fpOk (zbw3 _) (I1.hok.fresh (zbw3 _))
  ·exact I1.fpOk (zbl3 _) (I1.hok.fresh (zbl3 _))
end L2
namespace DL
open PySem.Spec L2
noncomputable def zo6 (i:Nat):List D→List D
 |[]=>[]
 |d::ds=>.tup [.int i,d]::zo6 (i+1) ds
theorem zi2:∀(i:Nat) (ds:List D),(zo6 i ds).length=ds.length
 |_,[]=>rfl
 |i,d::ds=>by simp [zo6,zi2 (i+1) ds]
theorem zz0:∀(i:Nat) (ds:List D) (j:Nat) (d:D),ds[j]?=some d→(zo6 i ds)[j]?=some (.tup [.int ((i+j:Nat):Int),d])
 |_,[],j,d,h=>by simp at h
 |i,e::ds,0,d,h=>by simp at h;subst h;simp [zo6]
 |i,e::ds,j+1,d,h=>by
  have:=zz0 (i+1) ds j d (by simpa using h)
  simp only [zo6,zbs8,this]
  rw [show i+1+j=i+(j+1) by lia]
noncomputable def zbg5 (k:D→Th→Option Th) (f:DE) (body:DS):DS:=fun t=>(f t).bind fun r=>match r.d with
 |.lst ds=>if r.ok then forD k body (zo6 0 ds) t else none
 |_=>none
section
variable {X:Cx}{F:List Addr}{a b c:Expr}{es:List Expr}{fa fb fc:DE}{g g1 g2:DS}{pos:Pos}{gt:TG}{kt:D→Th→Option Th}
theorem psd_enum {body:List Stmt}{elts:List Expr}{kk:Nat}{tp p1 p2:Pos} (hp:PassesOwn (model X.prog X.w) X.A X.env X.xe) (hc:X.calm=true) (hge:Gl X "enumerate") (hm:X.mg "enumerate"=none) (hl:PE X a (dE X.K F fa)) (hg:PG X (.Tuple elts kk tp) gt) (ht:TgOk X.K F gt kt) (hb:PSs X body (dS X.K F g))
  (hst:zbm0 [a] X.env=[(false,eval a X.env)]:=by rfl) (hs:∀x,foldedSetIterable (.Call (.Name "enumerate" p1) [a] [] p2) X.env x=pure x:=by intro _;rfl):PS X (.For (.Tuple elts kk tp) (.Call (.Name "enumerate" p1) [a] [] p2) body [] pos) (dS X.K F (zbg5 kt fa g)):=by
 refine PS.imp (zar4 hp hc (zbb7 hge hm hl hst) hg hb hs) ?_
 intro E σ H hh
 obtain⟨A,t,o,R,e,h⟩:=zbg1 hh
 unfold zbg5 at e
 cases e1:fa t with
 |none=>rw [e1]at e;cases e
 |some r =>
  rw [e1]at e
  refine⟨A,t,r,R,e1,fun v H1 gs q=>?_⟩
  have e:(match r.d with
   |.lst ds=>if r.ok then forD kt g (zo6 0 ds) t else none
   |_=>none)=some o:=e
  split at e
  case h_2=>cases e
  rename_i ds z
  split at e
  case isFalse=>cases e
  rename_i ok
  have cl:=q.clean R.mu gs ok
  rw [z]at cl
  cases cl with
  |@lst _ p vs h1 h2 =>
   refine⟨p,rfl,⟨vs,SqL.mono (zb0 _ _) h1⟩,?_⟩
   refine zae6 (fun A H=>SqL X.K (hide (A++F) H) p vs∧Reps X.K (hide (A++F) H) ds vs) ht (R.grow gs) e (h.back (Gr.of_same R.mu.left gs)) ⟨h1,h2⟩ (fun A H A' H' q gr=>⟨SqL.mono gr.same q.1,Reps.mono gr.same q.2⟩)
    (fun A H q=>⟨vs,SqL.mono (zb0 _ _) q.1,by rw [h2.length,zi2];exact zbl3 _⟩) (fun A H i q hi=>?_) (fun A H i x H' q mu y hi=>?_)
   ·have hi':i<vs.length:=by rw [h2.length];rw [zi2]at hi;exact hi
    exact⟨vs,vs[i],SqL.mono (zb0 _ _) q.1,zbk4 hi'⟩
   ·obtain⟨l,v,hl0,rfl,rfl,hv⟩:=y
    have zz:=hv vs (SqL.mono (zb0 _ _) q.1)
    obtain⟨d,hd,rd⟩:=q.2.getV zz
    have sm:=zd2 (o:=HO.tup [.int i,v]) hl0
    refine⟨sm,_,zz0 0 ds i d hd,?_⟩
    rw [zby7]
    exact .tup (SqT.of (zc4 zc3 (zd0 mu hl0))) (.cons (.int _) (.cons (Rep.mono (zc7 sm) rd) .nil))
end
end DL
namespace L2
open PySem.Spec
noncomputable def clOf (cells:List (Str×Addr)):List (Str×NameKind)→List (Str×Addr)→List (Str×Addr)
 |[],acc=>acc
 |(n,k)::r,acc=>if k == .free then clOf cells r ((n,(cells.lookup n).getD 0)::acc) else clOf cells r acc
theorem zr7 {cells:List (Str×Addr)}:∀ {names:List (Str×NameKind)}{acc:List (Str×Addr)}{x:Str}{c:Addr},(∀y∈names,y.2=.free→∃c,cells.lookup y.1=some c)→(clOf cells names acc).lookup x=some c→acc.lookup x=some c∨cells.lookup x=some c
 |[],acc,x,c,_,h=>.inl h
 |(n,k)::r,acc,x,c,hy,h=>by
  unfold clOf at h
  have hr:∀y∈r,y.2=.free→∃c,cells.lookup y.1=some c:=fun y h1=>hy y (zbj9 _ h1)
  split at h
  ·rename_i hk
   rcases zr7 hr h with z | z
   ·rw [zbo0]at z
    split at z
    ·rename_i e
     have e:x=n:=by simpa using e
     obtain⟨c',hc'⟩:=hy (n,k) (zbk2 ..) (by simpa using hk)
     simp only [hc',zbw5]at z
     cases z
     rw [e];exact .inr hc'
    ·exact .inl z
   ·exact .inr z
  ·exact zr7 hr h
theorem zz7 {cells:List (Str×Addr)}:∀ {names:List (Str×NameKind)}{acc:List (Str×Addr)}{x:Str},(∃c,acc.lookup x=some c)→∃c,(clOf cells names acc).lookup x=some c
 |[],acc,x,h=>h
 |(n,k)::r,acc,x,h=>by
  unfold clOf
  split
  ·refine zz7 ?_
   rw [zbo0]
   split
   ·exact⟨_,rfl⟩
   ·exact h
  ·exact zz7 h
theorem zw9 {cells:List (Str×Addr)}:∀ {names:List (Str×NameKind)}{acc:List (Str×Addr)}{x:Str},(x,NameKind.free)∈names→∃c,(clOf cells names acc).lookup x=some c
 |(n,k)::r,acc,x,h=>by
  unfold clOf
  rcases zbk5.mp h with z | z
  ·cases z
   rw [if_pos (by rfl)]
   refine zz7 ⟨(cells.lookup n).getD 0,?_⟩
   simp [zbo0]
  ·split
   ·exact zw9 z
   ·exact zw9 z
theorem zac4 {scope:Scope}{env:Env} (h:∀y∈scope.names,y.2=.free→∃c,env.cells.lookup y.1=some c):closureFor scope env=pure (clOf env.cells scope.names []):=by
 unfold closureFor
 have key:∀(names:List (Str×NameKind)) (acc:List (Str×Addr)),(∀y∈names,y.2=.free→∃c,env.cells.lookup y.1=some c) →
   (forIn names acc fun (x:Str×NameKind) (cs:List (Str×Addr))=>(do
    if x.2 == .free then
     let a ← cellOf env x.1
     pure (ForInStep.yield ((x.1,a)::cs))
    else pure (ForInStep.yield cs):Sem (ForInStep (List (Str×Addr)))))=pure (clOf env.cells names acc):=by
  intro names
  induction names with
  |nil=>intro acc _;rfl
  |cons y r ih =>
   intro acc hy
   obtain⟨n,k⟩:=y
   have hr:∀y∈r,y.2=.free→∃c,env.cells.lookup y.1=some c:=fun y h1=>hy y (zbj9 _ h1)
   rw [List.forIn_cons]
   unfold clOf
   by_cases hk:(k == NameKind.free)=true
   ·obtain⟨c,hc⟩:=hy (n,k) (zbk2 ..) (by simpa using hk)
    have hc':cellOf env n=pure c:=by unfold cellOf;rw [hc]
    simp only [hk,if_true,hc']
    rw [← ih _ hr]
    simp only [hc,zbw5]
    rfl
   ·have hk':(k == NameKind.free)=false:=by simpa using hk
    simp only [hk',zbm5,if_false]
    rw [← ih _ hr]
    rfl
 have:=key scope.names [] h
 simp only [bind_pure_comp]at this ⊢
 rw [this]
 rfl
theorem zg0 {env:Env}:∀ {names:List (Str×NameKind)}{x:Str}{k':NameKind},(names.map fun (n,k)=>if (k == NameKind.free&&env.scope.kind == .function&&env.kindOf n == some .cell) then (n,NameKind.cell) else (n,k)).lookup x=some k' →
  ∃k,(x,k)∈names∧(k'=k∨(k=.free∧k'=.cell))
 |[],x,k',h=>by simp at h
 |(n,k)::r,x,k',h=>by
  rw [zbl8]at h
  by_cases hc:(k == NameKind.free&&env.scope.kind == .function&&env.kindOf n == some .cell)=true
  ·simp only [hc,if_true,zbo0]at h
   split at h
   ·rename_i e
    have e:x=n:=by simpa using e
    cases h
    simp only [zbk7,beq_iff_eq]at hc
    have hk:k=.free:=by simpa using hc.1.1
    exact⟨k,by rw [e];exact zbk2 ..,.inr ⟨hk,rfl⟩⟩
   ·obtain⟨q,a,b⟩:=zg0 h
    exact⟨q,zbj9 _ a,b⟩
  ·have hc':(k == NameKind.free&&env.scope.kind == .function&&env.kindOf n == some .cell)=false:=by simpa using hc
   simp only [hc',zbm5,if_false,zbo0]at h
   split at h
   ·rename_i e
    have e:x=n:=by simpa using e
    cases h
    exact⟨_,by rw [e];exact zbk2 ..,.inl rfl⟩
   ·obtain⟨q,a,b⟩:=zg0 h
    exact⟨q,zbj9 _ a,b⟩
theorem zw0 {prog:Program}{w:World}{A:Around}{R:Result→zbk8→Prop}{s:zbk8}{elt target iter:Expr}{ifs:List Expr}{scope:Scope}{pos:Pos}{it acc:Value}{env:Env} (I:Nat→zbk8→Prop)
  (turn:∀n s,I n s→wpAny (model prog w) A (pyNext it) (fun r s₁=>match r with
   |none=>R (.ok .next) s₁
   |some v=>wpAny (model prog w) A (letOwnedTupleGo target it v) (fun _ s₁'=>wpAny (model prog w) A (assign target env v) (fun _ s₂ =>
     wpAny (model prog w) A (forIn ifs true fun c r=>if r=true then do let ok ← isTrue c env (eval c env);pure (ForInStep.yield ok) else pure (ForInStep.yield r)) (fun ok s₃ =>
      if ok=true then wpAny (model prog w) A (eval elt env) (fun x s₄ =>
       wpAny (model prog w) A (call (.builtin "list.append") [acc,x]) (fun _ s₅ => ∃m,m<n∧I m s₅) (fun _ _=>False) s₄) (fun _ _=>False) s₃
      else ∃m,m<n∧I m s₃) (fun _ _=>False) s₂) (fun _ _=>False) s₁') (fun _ _=>False) s₁) (fun _ _=>False) s)
  (n:Nat) (h:I n s):codeAny (model prog w) A (.compLoop (.ListComp elt [⟨target,iter,ifs,0⟩] scope pos) 0 it acc env) R s:=by
 refine codeAny_loop rfl I (fun n s hI=>?_) n h
 show wpAny _ A ((compTurn (.ListComp elt [⟨target,iter,ifs,0⟩] scope pos) 0 it acc env).onRaise (fun x=>do noteFrame x env;theTreesLotGoes x)) _ _ s
 refine wpAny_noted ?_
 rw [compTurn_list]
 refine zbj8 (wpAny_standAt (zbj8 (wpAny_mono (turn n s hI) (fun r s₁ h₁=>?_) fun _ _ h'=>h'.elim)))
 cases r with
 |none=>exact zbk6 h₁
 |some v =>
  refine zbj8 (wpAny_mono h₁ (fun _ s₁' h₁'=>?_) fun _ _ h'=>h'.elim)
  refine zbj8 (wpAny_mono h₁' (fun _ s₂ h₂=>zbj8 (wpAny_mono h₂ (fun ok s₃ h₃=>?_) fun _ _ h'=>h'.elim)) fun _ _ h'=>h'.elim)
  cases ok with
  |false=>exact zbk6 ⟨rfl,h₃⟩
  |true =>
   exact zbj8 (zbj8 (wpAny_mono h₃ (fun x s₄ h₄=>zbj8 (wpAny_mono h₄ (fun _ s₅ h₅=>zbk6 (zbk6 ⟨rfl,h₅⟩)) fun _ _ h'=>h'.elim)) fun _ _ h'=>h'.elim))
theorem zaf3 {x:Str}{c:Addr}:∀ {names:List (Str×NameKind)}{n:Nat}{acc:List (Str×Addr)},(cellsFrom n names acc).lookup x=some c→acc.lookup x=some c∨n≤c
 |[],n,acc,h=>.inl h
 |(y,k)::r,n,acc,h=>by
  unfold cellsFrom at h
  split at h
  ·rcases zaf3 h with z | z
   ·rw [zbo0]at z
    split at z
    ·cases z;exact .inr (zbl3 _)
    ·exact .inl z
   ·exact .inr (by lia)
  ·exact zaf3 h
theorem zat1 {x:Str}:∀ {names:List (Str×NameKind)}{n:Nat}{acc:List (Str×Addr)},(∃c,acc.lookup x=some c)→∃c,(cellsFrom n names acc).lookup x=some c
 |[],n,acc,h=>h
 |(y,k)::r,n,acc,h=>by
  unfold cellsFrom
  split
  ·refine zat1 ?_
   rw [zbo0]
   split
   ·exact⟨_,rfl⟩
   ·exact h
  ·exact zat1 h
theorem zao7 {x:Str}:∀ {names:List (Str×NameKind)}{n:Nat}{acc:List (Str×Addr)},(x,NameKind.cell)∈names→∃c,(cellsFrom n names acc).lookup x=some c
 |(y,k)::r,n,acc,h=>by
  unfold cellsFrom
  rcases zbk5.mp h with z | z
  ·cases z
   rw [if_pos (by rfl)]
   exact zat1 ⟨n,by simp [zbo0]⟩
  ·split
   ·exact zao7 z
   ·exact zao7 z
theorem cf_ge {x:Str}{c:Addr}{lo:Nat}:∀ {names:List (Str×NameKind)}{n:Nat}{acc:List (Str×Addr)},lo≤n→(∀c,acc.lookup x=some c→lo≤c)→(cellsFrom n names acc).lookup x=some c→lo≤c
 |[],n,acc,_,ha,h=>ha c h
 |(y,k)::r,n,acc,hn,ha,h=>by
  unfold cellsFrom at h
  split at h
  ·refine cf_ge (n:=n+1) (by lia) (fun c' h'=>?_) h
   rw [zbo0]at h'
   split at h'
   ·cases h';exact hn
   ·exact ha c' h'
  ·exact cf_ge hn ha h
theorem zbh2 {x:Str}{c:Addr}:∀ {names:List (Str×NameKind)}{n:Nat}{acc:List (Str×Addr)},(x,NameKind.cell)∈names→(cellsFrom n names acc).lookup x=some c→n≤c
 |(y,k)::r,n,acc,hm,h=>by
  unfold cellsFrom at h
  rcases zbk5.mp hm with z | z
  ·cases z
   rw [if_pos (by rfl)]at h
   refine cf_ge (lo:=n) (n:=n+1) (by lia) (fun c' h'=>?_) h
   rw [zbo0,beq_self_eq_true]at h'
   cases h'
   exact zbl3 _
  ·split at h
   ·have:=zbh2 z h;lia
   ·exact zbh2 z h
theorem zbh1 {x:Str}:∀ {names:List (Str×NameKind)}{n:Nat}{acc:List (Str×Addr)},(x,NameKind.cell)∉names→(cellsFrom n names acc).lookup x=acc.lookup x
 |[],n,acc,_=>rfl
 |(y,k)::r,n,acc,h=>by
  have hr:(x,NameKind.cell)∉r:=fun z=>h (zbj9 _ z)
  unfold cellsFrom
  split
  ·rename_i hk
   rw [zbh1 hr,zbo0]
   split
   ·rename_i e
    exact absurd (zbk5.mpr (.inl (by rw [show x=y by simpa using e,show k=NameKind.cell by simpa using hk]))) h
   ·rfl
  ·exact zbh1 hr
theorem zbh3:∀ {names:List (Str×NameKind)}{n:Nat}{acc:List (Str×Addr)},(∀x c,acc.lookup x=some c→c<n)→(∀x y c,acc.lookup x=some c→acc.lookup y=some c→x=y) →
  ∀x y c,(cellsFrom n names acc).lookup x=some c→(cellsFrom n names acc).lookup y=some c→x=y
 |[],n,acc,_,hi=>hi
 |(z,k)::r,n,acc,hb,hi=>by
  unfold cellsFrom
  split
  ·refine zbh3 (n:=n+1) (fun x c h=>?_) (fun x y c h1 h2=>?_)
   ·rw [zbo0]at h
    split at h
    ·cases h;exact zbu6 _
    ·exact zbr4 (hb x c h)
   ·rw [zbo0]at h1 h2
    split at h1
    ·rename_i e1
     cases h1
     split at h2
     ·rename_i e2;rw [show x=z by simpa using e1,show y=z by simpa using e2]
     ·exact absurd (hb y _ h2) (zbr0 _)
    ·split at h2
     ·cases h2;exact absurd (hb x _ h1) (zbr0 _)
     ·exact hi x y c h1 h2
  ·exact zbh3 hb hi
theorem zao8 {x:Str}{c:Addr}:∀ {names:List (Str×NameKind)}{h:Heap}{acc:List (Str×Addr)},(∀c,acc.lookup x=some c→∃v,h.IsCell c v)→(cellsFrom h.objs.size names acc).lookup x=some c→∃v,(pushCells h names).IsCell c v
 |[],h,acc,ha,e=>ha c e
 |(y,k)::r,h,acc,ha,e=>by
  unfold cellsFrom at e
  unfold pushCells
  split at e
  ·rename_i hk
   rw [if_pos hk]
   rw [show h.objs.size+1=(h.push { cls:=.type "cell",data:=.cell none }).objs.size from (zbs4 ..).symm]at e
   refine zao8 (fun c' e'=>?_) e
   rw [zbo0]at e'
   split at e'
   ·cases e';exact⟨none,_,zbl2 _ rfl,rfl⟩
   ·obtain⟨v,z⟩:=ha c' e'
    exact⟨v,z.keeps fun b o q=>zbk0 _ q⟩
  ·rename_i hk
   rw [if_neg hk]
   exact zao8 ha e
theorem zq8 {M:Model}{A:Around}{E:Value→zbk8→Prop}{s:zbk8}{scope:Scope}{globals:Addr}{cl:List (Str×Addr)}{qual:Str}{func:Option Addr}{code:Value}{env:Env}{builtins:Addr}{Q:Env→zbk8→Prop}
  (hQ:∀h',h'.Ns s.heap.objs.size (fun _=>none)→(∀b o,s.heap.get? b=some o→h'.get? b=some o)→(∀x c,(∀c,cl.lookup x=some c→∃v,s.heap.IsCell c v)→(cellsFrom (s.heap.objs.size+1) scope.names cl).lookup x=some c→∃v,h'.IsCell c v) →
   Q (newEnv scope s.heap.objs.size globals (cellsFrom (s.heap.objs.size+1) scope.names cl) qual func code (some env) builtins) { s with heap:=h',toks:=s.toks }) :
  wpAny M A (newFunctionEnv scope globals cl [] qual func code (some env) builtins) Q E s:=by
 simp only [newFunctionEnv,zcc4,if_true]
 refine zbj8 (wpAny_alloc ?_)
 refine zbj8 (wpAny_layCells _ (fun name kind cells=>by cases hkc:kind == NameKind.cell<;>simp [hkc]) _ _ _ _ ?_)
 have sz:(s.heap.push { cls:=.type "dict",data:=.dict #[] }).objs.size=s.heap.objs.size+1:=zbs4 ..
 rw [show ({ s with heap:=s.heap.push { cls:=.type "dict",data:=.dict #[] } }:zbk8).heap.objs.size=s.heap.objs.size+1 from sz]
 rw [List.forIn_nil]
 refine zbj8 (zbk6 (zbk6 ?_))
 refine hQ _ ((Heap.Ns.new s.heap (.type "dict")).keeps (pushCells_keeps _ _)) (fun b o e=>pushCells_keeps _ _ b o (zbk0 _ e)) fun x c ha e=>?_
 rw [← sz]at e
 exact zao8 (fun c' e'=>let ⟨v,z⟩:=ha c' e';⟨v,z.keeps fun b o q=>zbk0 _ q⟩) e
noncomputable abbrev blk (X:Cx) (N':List Str) (scope:Scope) (C:Addr) (s₃:zbk8) (H₃:Hp) (fp:List Addr) (pins:List (Addr×Obj)):Cx :=
 { X with N:=N',s₀:=s₃,H₀:=H₃,env:=compEnvC scope (cellsFrom (C+1) scope.names (clOf X.env.cells scope.names [])) C X.env,outer:=X.stack,stack:=X.stack,ex:=fp,fn:=fun x=>scope.names.lookup x == some .cell,calm:=true,pn:=X.pn++pins,xe:=fun _ _=>False }
structure CompSc (X:Cx) (scope:Scope):Prop where
 kind:scope.kind=.function
 free:∀y∈scope.names,y.2=.free→X.env.kindOf y.1=some .cell∨X.env.kindOf y.1=some .free
 names:∀y∈scope.names,scope.names.lookup y.1=some y.2
section
variable {X:Cx}{pins:List (Addr×Obj)}{σ:L2.St}{H:Hp}{s:zbk8}{scope:Scope}{N':List Str}{fp:List Addr}
theorem CompSc.frees (S:CompSc X scope) (ok:X.Ok):∀y∈scope.names,y.2=.free→∃c,X.env.cells.lookup y.1=some c:=fun y hy hf=>ok.has y.1 (S.free y hy hf)
theorem CompSc.cells (S:CompSc X scope) (ok:X.Ok) {x:Str}{c:Addr} (h:(clOf X.env.cells scope.names []).lookup x=some c):X.env.cells.lookup x=some c:=by
 rcases zr7 (S.frees ok) h with z | z
 ·simp at z
 ·exact z
theorem CompSc.nc (S:CompSc X scope) {x:Str} (h:(x,NameKind.free)∈scope.names):(x,NameKind.cell)∉scope.names:=fun z=>by
 have w1:=S.names _ h
 have w2:=S.names _ z
 rw [show (x,NameKind.cell).1=(x,NameKind.free).1 from rfl,w1]at w2
 cases w2
theorem CompSc.cls (S:CompSc X scope) (I:Inv X pins σ H s) {x:Str}{c:Addr} (h:(clOf X.env.cells scope.names []).lookup x=some c):c<s.heap.objs.size:=by
 obtain⟨v,o,ho,_⟩:=I.cell x c (S.cells I.ok h)
 exact zbl0 ho
theorem CompSc.old (S:CompSc X scope) (I:Inv X pins σ H s) {x:Str}{c:Addr} (h:(cellsFrom (s.heap.objs.size+1) scope.names (clOf X.env.cells scope.names [])).lookup x=some c):X.env.cells.lookup x=some c∨s.heap.objs.size<c:=by
 rcases zaf3 h with z | z
 ·exact .inl (S.cells I.ok z)
 ·exact .inr z
theorem blk_ok (I:Inv X pins σ H s) (S:CompSc X scope) (hc:X.calm=true) (hf:∀b∈fp,FpOk X pins H b) (hlt:∀b∈fp,b<s.heap.objs.size):(blk X N' scope s.heap.objs.size s H fp pins).Ok where
 mod:=I.ok.mod
 kind:=S.kind
 glob:=I.ok.glob
 blt:=I.ok.blt
 above:=zbl3 _
 inj:=zbh3 (fun x c h=>zbr4 (S.cls I h)) fun x y c h1 h2=>I.ok.inj x y c (S.cells I.ok h1) (S.cells I.ok h2)
 has:=fun x hx=>by
  have hx:(relabel scope X.env).names.lookup x=some .cell∨(relabel scope X.env).names.lookup x=some .free:=hx
  have:(x,NameKind.free)∈scope.names∨(x,NameKind.cell)∈scope.names:=by
   rcases hx with hx | hx
   ·obtain⟨k,a,b⟩:=zg0 hx
    rcases b with b | b
    ·rw [← b]at a;exact .inr a
    ·rw [b.1]at a;exact .inl a
   ·obtain⟨k,a,b⟩:=zg0 hx
    rcases b with b | b
    ·rw [← b]at a;exact .inl a
    ·cases b.2
  rcases this with z | z
  ·exact zat1 (zw9 z)
  ·exact zao7 z
 cab:=fun x c h e=>by
  have h:(scope.names.lookup x == some NameKind.cell)=true:=h
  have h:scope.names.lookup x=some .cell:=by simpa using h
  exact Nat.le_of_succ_le (zbh2 (PySem.mem_of_lookup h) e)
 hd:=fun _=>I.ok.hd hc
 frames:=I.ok.frames
 stk:=.inl rfl
 exf:=fun b hb=>⟨zbn1 (hlt b hb),fun x c h=>by
  rcases S.old I h with z | z
  ·exact (hf b hb).2.2.2.2.1 x c z
  ·exact zbu0 (zby6 (hlt b hb) z)⟩
 bs:=fun b o e=>I.bs b o e
 bsz:=zbq4 I.ok.bsz I.sz
 noex:=fun b o e hb=>by
  rcases (hf b hb).2.2.2.1 with z | z
  ·exact I.ok.noex b o e z
  ·exact absurd (zbm4 (zbl0 e) (zbq4 I.ok.bsz z)) (zbr0 _)
 exfs:=fun b hb z=>(zbk5.mp (I.stkSub b z)).elim (hf b hb).2.1 (hf b hb).2.2.1
 funs:=I.stack
 frf:=I.stkFree
 tabs:=fun p hp=>I.base.tbls _ _ (I.ok.tabs p hp)
theorem zbi4 (I:Inv X pins σ H s) (S:CompSc X scope) (hc:X.calm=true) (hf:∀b∈fp,FpOk X pins H b) (hlt:∀b∈fp,b<s.heap.objs.size) {h1:Heap}{t1:Nat}{m:Str→Option Value}{σ':L2.St}
  (hns:h1.Ns s.heap.objs.size m) (hk:∀b o,s.heap.get? b=some o→h1.get? b=some o) (hcl:∀x c,(∀c,(clOf X.env.cells scope.names []).lookup x=some c→∃v,s.heap.IsCell c v)→(cellsFrom (s.heap.objs.size+1) scope.names (clOf X.env.cells scope.names [])).lookup x=some c→∃v,h1.IsCell c v) (hl:σ'.length=N'.length)
  (cap:∀(i:Nat) (x:Str) (v:V),N'[i]?=some x→σ'[i]?=some (some v)→(x,NameKind.free)∈scope.names∧∃j:Nat,X.N[j]?=some x∧σ[j]?=some (some v)) :
  Inv (blk X N' scope s.heap.objs.size s H fp pins) [] σ' H { s with heap:=h1,toks:=t1 } where
 ok:=blk_ok I S hc hf hlt
 os:=rfl
 bare:=I.bare
 base:=Un.kept hk
 loc:=⟨m,hns,fun i x v e1 e2 vs=>by
  obtain⟨hfree,j,j1,j2⟩:=cap i x v e1 e2
  obtain⟨m0,hn0,hl0⟩:=I.loc
  have vis:Vis X.env.scope x:=by
   rcases S.free _ hfree rfl with z | z
   ·exact .inr (.inl z)
   ·exact .inr (.inr z)
  obtain⟨u,r,l⟩:=hl0 j x v j1 j2 vis
  refine⟨u,r,?_⟩
  rcases l with ⟨k,_⟩ | ⟨k,c,e,z⟩
  ·exfalso
   rcases S.free _ hfree rfl with q | q
   ·rw [k]at q;cases q
   ·rw [k]at q;cases q
  ·obtain⟨c',hc'⟩:=zw9 (cells:=X.env.cells) (acc:=[]) hfree
   have e':=S.cells I.ok hc'
   rw [e]at e';cases e'
   refine .inr ⟨?_,c,by rw [show (blk X N' scope s.heap.objs.size s H fp pins).env.cells.lookup x=_ from zbh1 (S.nc hfree)];exact hc',?_⟩
   ·have vs:(relabel scope X.env).names.lookup x=some .local∨(relabel scope X.env).names.lookup x=some .cell∨(relabel scope X.env).names.lookup x=some .free:=vs
    rcases vs with q | q
    ·obtain⟨k2,a,b⟩:=zg0 q
     rcases b with b | b
     ·rw [← b]at a
      have w1:=S.names _ a
      have w2:=S.names _ hfree
      rw [show (x,NameKind.local).1=(x,NameKind.free).1 from rfl,w2]at w1
      cases w1
     ·cases b.2
    ·exact q
   ·obtain⟨o,ho,hd⟩:=z
    exact⟨o,hk _ _ ho,hd⟩⟩
 cell:=fun x c h=>hcl x c (fun c' h'=>I.cell x c' (S.cells I.ok h')) h
 free:=I.hok.fresh (zbl3 _)
 freeC:=fun x c h=>by
  rcases S.old I h with z | z
  ·exact I.freeC x c z
  ·exact I.hok.fresh (zbv1 z)
 pin:=fun p hp=>by
  have hp:p∈(X.pn++pins)++[]:=hp
  rw [zbr1]at hp
  obtain⟨a,b,c,d,e⟩:=I.pin p hp
  exact⟨hk _ _ a,b,zbn1 (zbl0 a),fun z=>(zbk5.mp (I.stkSub _ z)).elim c d,e⟩
 hok:=I.hok.kept hk
 len:=hl
theorem zat8 {H3 H':Hp}{s':zbk8}{h'':Heap}{σ':L2.St}{C:Addr}{pins':List (Addr×Obj)} (I:Inv X pins σ H3 s) (hf:∀b∈fp,FpOk X pins H3 b) (hC:C=s.heap.objs.size) (I':Inv (blk X N' scope C s H3 fp pins) pins' σ' H' s') (hb:Heap.SameBut C s'.heap h''):Inv X pins σ H' { s' with heap:=h'' }:=by
 subst hC
 have bs:Un (frs X.stack) fp H3 H' s.heap s'.heap:=I'.base
 have nC:∀b o,s.heap.get? b=some o→b≠s.heap.objs.size:=fun b o e=>zbn1 (zbl0 e)
 have tr:∀b,b≠s.heap.objs.size→h''.get? b=s'.heap.get? b:=fun b n=>hb.2 b n
 have u:Un (frs X.stack) fp H3 H' s.heap h'' :=
  ⟨fun b o e n h1 h2=>(tr b (nC b o e)).trans (bs.keep b o e n h1 h2),fun b o e n h1 h2=>by obtain⟨sl,q⟩:=bs.slot b o e n h1 h2;exact⟨sl,(tr b (nC b o e)).trans q⟩,bs.free,
   fun b o e h1=>by obtain⟨o',q⟩:=bs.there b o e h1;exact⟨o',(tr b (nC b o e)).trans q⟩,bs.tups,bs.frzs,bs.tbls⟩
 have cf:H' s.heap.objs.size=none:=I'.free
 have hok:HOk X.prog X.w H' h'':=fun b o e=>by
  have nb:b≠s.heap.objs.size:=fun z=>by rw [z,cf]at e;cases e
  refine (I'.hok b o e).stay (fun c v hc q=>(tr c ?_).trans q) (fun _ q=>q) (fun _ _ q=>q) fun _ _ _ q=>q
  rcases hc with w | w
  ·rw [w];exact nb
  ·exact fun z=>by rw [z,cf]at w;cases w
 obtain⟨h0,g0,d0,t0,o0⟩:=s'
 have e:o0=s.os:=I'.os
 subst e
 exact I.call (g':=g0) (t':=t0) (d':=d0) u hok I'.bare fun b hb'=>by
  obtain⟨f0,f1,f2,f3,f4,f5⟩:=hf b hb'
  exact⟨f3,f1,f4,f5⟩
end
end L2
namespace L2
open PySem.Spec
noncomputable def PTs (Y:Cx) (ifs:List Expr) (t:TT):Prop :=
 ∀(pins:List (Addr×Obj)) (s:zbk8) (σ:L2.St) (H:Hp) (Q:Bool→Hp→Prop),Inv Y pins σ H s→t σ H Q →
  wpAny (model Y.prog Y.w) Y.A (forIn ifs true fun c r=>if r=true then do let ok ← isTrue c Y.env (eval c Y.env);pure (ForInStep.yield ok) else pure (ForInStep.yield r)) (TP Y pins σ Q) Y.xe s
theorem pts_nil {Y:Cx}:PTs Y [] (fun _ H Q=>Q true H):=fun pins s σ H Q I h=>wpAny_tests_nil ⟨H,I,h⟩
theorem pts_one {Y:Cx}{c:Expr}{t:TT} (h:PT Y c t):PTs Y [c] t:=fun pins s σ H Q I q=>wpAny_tests_one (h pins s σ H Q I q)
noncomputable def capV (n:Nat) (cap:List Nat) (σ:L2.St):L2.St:=zbl4 n none++cap.map fun j=>(σ[j]?).getD none
noncomputable def zay9 (n:Nat) (cap:List Nat) (wi:TI) (g:TG) (tt:TT) (te:TE):TE:=fun σ H Q=>wi σ H fun J H1 => ∀D,H1 D=none→∃W:Nat→Nat→L2.St→Hp→Prop,(∃m,W 0 m (capV n cap σ) (upd H1 D (.lst [])))∧∀i m σ' H',W i m σ' H' →
 (J.stop i H'∧Q (.ref D) H')∨(J.go i H'∧∃N:L2.St→Hp→Prop,(∀σ'' H'',N σ'' H''→∃m',m' < m∧W (i+1) m' σ'' H'')∧∀x H2,J.yld i H' x H2→g x σ' H2 fun σ2 H3=>tt σ2 H3 fun b H4 =>
  if b=true then te σ2 H4 fun v H5 => ∃vs,H5 D=some (.lst vs)∧vs.length<sizeLine∧N σ2 (upd H5 D (.lst (vs++[v]))) else N σ2 H4)
theorem pe_comp {X:Cx}{elt tg iter:Expr}{ifs:List Expr}{scope:Scope}{pos:Pos}{n:Nat}{cap:List Nat}{N':List Str}{wi:TI}{g:TG}{tt:TT}{te:TE} (S:CompSc X scope) (hc:X.calm=true) (hi:PI X tg iter wi)
  (hN:N'.length=n+cap.length) (hcap:∀(k:Nat) (j:Nat),cap[k]?=some j→∃x,N'[n+k]?=some x∧X.N[j]?=some x∧(x,NameKind.free)∈scope.names)
  (hg:∀C s₃ H₃ fp pins,PG (blk X N' scope C s₃ H₃ fp pins) tg g) (ht:∀C s₃ H₃ fp pins,PTs (blk X N' scope C s₃ H₃ fp pins) ifs tt) (he:∀C s₃ H₃ fp pins,PE (blk X N' scope C s₃ H₃ fp pins) elt te)
  (hs:∀x,foldedSetIterable iter X.env x=pure x:=by intro _;rfl):PE X (.ListComp elt [⟨tg,iter,ifs,0⟩] scope pos) (zay9 n cap wi g tt te):=by
 intro pins s σ H Q I h
 rw [eval_ListComp]
 refine wpAny_comprehension_free (use:=none) rfl hs (zac4 (S.frees I.ok)) S.kind (fun x hx hl=>by rw [S.names x hx,hl]) (thn (hi pins s σ H _ I h) fun v s1 h1=>thn h1 fun itv s2 h2=>?_)
 obtain⟨it,fp,tn,J,H2,e,I2,T,st2,f2,R⟩:=h2
 subst e
 have lt2:∀b∈fp,b<s2.heap.objs.size:=fun b hb=>by obtain⟨o,e,_⟩:=T.obj _ _ st2 b hb;exact zbl0 e
 have hD:H2 s2.heap.objs.size=none:=I2.fresh
 obtain⟨W,⟨m0,w0⟩,turn⟩:=R s2.heap.objs.size hD
 have I3:Inv X pins σ (upd H2 s2.heap.objs.size (.lst [])) { s2 with heap:=s2.heap.push { cls:=.type "list",data:=.seq ([]:List Value).toArray },toks:=s2.toks }:=I2.lnew (t':=s2.toks) .nil (by simp)
 have f3:∀b∈fp,FpOk X pins (upd H2 s2.heap.objs.size (.lst [])) b:=fun b hb=>⟨by rw [zc9 (zbn1 (lt2 b hb))];exact (f2 b hb).1,(f2 b hb).2⟩
 refine wpAny_newObj_type (zq8 fun h₁ hns₁ hk hcl₁=>?_)
 have lt3:∀b∈fp,b<(s2.heap.push { cls:=.type "list",data:=.seq ([]:List Value).toArray }).objs.size:=fun b hb=>by rw [zbs4];exact zbr4 (lt2 b hb)
 have I4:Inv (blk X N' scope (s2.heap.push { cls:=.type "list",data:=.seq ([]:List Value).toArray }).objs.size { s2 with heap:=s2.heap.push { cls:=.type "list",data:=.seq ([]:List Value).toArray },toks:=s2.toks } (upd H2 s2.heap.objs.size (.lst [])) fp pins) [] (capV n cap σ) (upd H2 s2.heap.objs.size (.lst [])) { s2 with heap:=h₁,toks:=s2.toks } :=
  zbi4 I3 S hc f3 lt3 (t1:=s2.toks) hns₁ hk hcl₁ (by simp [capV,hN]) (fun i x v e1 e2=>by
   unfold capV at e2
   by_cases hi:i<n
   ·rw [zbp5 (by simpa using hi),zbu8]at e2
    split at e2<;>cases e2
   ·rw [zbo2 (by simpa using hi),zbv9,zbp6]at e2
    cases ej:cap[i - n]? with
    |none=>rw [ej]at e2;cases e2
    |some j =>
     rw [ej]at e2
     obtain⟨x',a1,a2,a3⟩:=hcap (i - n) j ej
     have:n+(i - n)=i:=by lia
     rw [this,e1]at a1
     cases a1
     refine⟨a3,j,a2,?_⟩
     have e2:(σ[j]?).getD none=some v:=by simpa using e2
     cases q:σ[j]? with
     |none=>rw [q]at e2;cases e2
     |some z=>rw [q]at e2;have:z=some v:=e2;rw [this])
 have loop:codeAny (model X.prog X.w) X.A (.compLoop (.ListComp elt [⟨tg,iter,ifs,0⟩] scope pos) 0 (.ref it) (.ref s2.heap.objs.size) (compEnvC scope (cellsFrom ((s2.heap.push { cls:=.type "list",data:=.seq ([]:List Value).toArray }).objs.size+1) scope.names (clOf X.env.cells scope.names [])) (s2.heap.push { cls:=.type "list",data:=.seq ([]:List Value).toArray }).objs.size X.env))
   (compPost (model X.prog X.w) X.A X.xe none (EP X pins σ Q) (.ref s2.heap.objs.size) (s2.heap.push { cls:=.type "list",data:=.seq ([]:List Value).toArray }).objs.size) { s2 with heap:=h₁,toks:=s2.toks }:=by
  generalize hY:(blk X N' scope (s2.heap.push { cls:=.type "list",data:=.seq ([]:List Value).toArray }).objs.size { s2 with heap:=s2.heap.push { cls:=.type "list",data:=.seq ([]:List Value).toArray },toks:=s2.toks } (upd H2 s2.heap.objs.size (.lst [])) fp pins)=Y at I4
  have st4:tn 0 h₁:=T.keep _ _ _ st2 fun b hb o e=>hk b o (zbk0 _ e)
  have stat:∀ {H':Hp},(∀b∈fp,H' b=none)→∀b∈fp,FpOk Y [] H' b:=fun hn b hb=>by
   subst hY
   obtain⟨f0,f1,f2',f3',f4,f5⟩:=f3 b hb
   exact⟨hn b hb,zbn1 (lt3 b hb),fun z=>(zbk5.mp (I3.stkSub b z)).elim f1 f2',.inl hb,fun x c e=>(by
    rcases S.old I3 e with z | z
    ·exact f4 x c z
    ·exact zbu0 (zby6 (lt3 b hb) z)),fun p hp=>f5 p (by simpa using hp)⟩
  have hgY:PG Y tg g:=hY ▸ hg _ _ _ _ _
  have htY:PTs Y ifs tt:=hY ▸ ht _ _ _ _ _
  have heY:PE Y elt te:=hY ▸ he _ _ _ _ _
  have yp:Y.prog=X.prog:=by subst hY;rfl
  have yw:Y.w=X.w:=by subst hY;rfl
  have yK:Y.K=X.K:=by subst hY;rfl
  have yA:Y.A=X.A:=by subst hY;rfl
  have yc:Y.calm=true:=by subst hY;rfl
  have yx:Y.xe=fun _ _=>False:=by subst hY;rfl
  have ye:Y.env=compEnvC scope (cellsFrom ((s2.heap.push { cls:=.type "list",data:=.seq ([]:List Value).toArray }).objs.size+1) scope.names (clOf X.env.cells scope.names [])) (s2.heap.push { cls:=.type "list",data:=.seq ([]:List Value).toArray }).objs.size X.env:=by subst hY;rfl
  rw [← ye]
  refine zw0 (fun n s' => ∃i σ' H',Inv Y [] σ' H' s'∧tn i s'.heap∧(∀b∈fp,H' b=none)∧W i n σ' H') ?_ m0 ⟨0,_,_,I4,st4,fun b hb=>(f3 b hb).1,w0⟩
  rintro n s3 ⟨i,σ3,H3,I5,st3,fr3,w3⟩
  rcases turn i n σ3 H3 w3 with ⟨stop,qn⟩ | ⟨go,N,hNN,step⟩
  ·have d:=T.done Y yp yw yK yc i [] s3 σ3 H3 (fun _ _=>False) I5 (stat fr3) st3 stop
   rw [yA]at d
   refine thn d fun r s4 ⟨hr,I6⟩=>?_
   subst hr
   obtain⟨m,hm,_⟩:=I6.loc
   rw [ye]at hm
   refine⟨m,hm,fun h' hb=>⟨.ref s2.heap.objs.size,H3,?_,rfl,qn⟩⟩
   subst hY
   exact zat8 I3 f3 rfl I6 hb
  ·have d:=T.item Y yp yw yK yc i [] s3 σ3 H3 (fun _ _=>False) I5 (stat fr3) st3 go
   rw [yA]at d
   refine thn d fun r s4 ⟨u,hr,h4⟩=>?_
   subst hr
   refine thn h4 fun _ s5 ⟨x,H5,I6,r5,y5,st5,fr5⟩=>?_
   have I6':=I6.pinned (stat fr5) (T.obj _ _ st5)
   have a:=hgY _ s5 σ3 H5 x u _ I6' r5 (step x H5 y5)
   rw [yp,yw,yA,yx]at a
   refine thn a fun _ s6 ⟨σ6,H6,I7,q6⟩=>?_
   have b:=htY _ s6 σ6 H6 _ I7 q6
   rw [yp,yw,yA,yx]at b
   refine thn b fun ok s7 ⟨H7,I8,q7⟩=>?_
   have again:∀ {s9:zbk8}{H9:Hp},Inv Y ([]++zv5 fp s5.heap) σ6 H9 s9→N σ6 H9→∃m,m<n∧∃i σ' H',Inv Y [] σ' H' s9∧tn i s9.heap∧(∀b∈fp,H' b=none)∧W i m σ' H':=fun {s9 H9} I9 n9=>by
    obtain⟨m',hm,w9⟩:=hNN σ6 H9 n9
    refine⟨m',hm,i+1,σ6,H9,I9.unpinned,T.keep _ _ _ st5 fun b hb o e=>(I9.pin (b,o) (zbj5 _ (zbj5 _ (zj5 hb e)))).1,fun b hb=>?_,w9⟩
    obtain⟨o,e,d⟩:=T.obj _ _ st5 b hb
    exact (I9.pin (b,o) (zbj5 _ (zbj5 _ (zj5 hb e)))).2.1
   cases ok with
   |false=>exact iteF (again I8 (by simpa using q7))
   |true =>
    rw [if_pos rfl]at q7
    refine iteT ?_
    have c:=heY _ s7 σ6 H7 _ I8 q7
    rw [yp,yw,yA,yx]at c
    refine thn c fun z s8 ⟨vz,H8,I9,r9,vs,hv,hl,n9⟩=>?_
    have ap:=zx8 (X:=Y) ([]++zv5 fp s5.heap) s8 σ6 H8 (.ref s2.heap.objs.size) [vz] (.ref s2.heap.objs.size) [z] (fun _ H9=>N σ6 H9) I9 rfl (.cons r9 .nil) ⟨_,vs,vz,rfl,rfl,hv,hl,n9⟩
    rw [yp,yw,yA,yx]at ap
    exact thn ap fun _ s9 ⟨_,H9,I10,_,n10⟩=>again I10 n10
 exact codeAny_compStart_list loop (T.self _ 0 _ _ _ (T.keep _ _ _ st2 fun b hb o e=>hk b o (zbk0 _ e)) loop)
theorem ps_compU {X:Cx}{i₀:Nat}{y₀:Str}{py spos:Pos}{elt tg iter:Expr}{ifs:List Expr}{scope:Scope}{pos:Pos}{n:Nat}{cap:List Nat}{N':List Str}{wi:TI}{g:TG}{tt:TT}{te:TE} (S:CompSc X scope) (hc:X.calm=true) (hi:PI X tg iter wi)
  (hN:N'.length=n+cap.length) (hcap:∀(k:Nat) (j:Nat),cap[k]?=some j→∃x,N'[n+k]?=some x∧X.N[j]?=some x∧(x,NameKind.free)∈scope.names)
  (hg:∀C s₃ H₃ fp pins,PG (blk X N' scope C s₃ H₃ fp pins) tg g) (ht:∀C s₃ H₃ fp pins,PTs (blk X N' scope C s₃ H₃ fp pins) ifs tt) (he:∀C s₃ H₃ fp pins,PE (blk X N' scope C s₃ H₃ fp pins) elt te)
  (hNd:X.N.Nodup) (hi₀:X.N[i₀]?=some y₀) (hy:Loc X.env.scope y₀) (hsw:swapsWith (.ListComp elt [⟨tg,iter,ifs,0⟩] scope pos) (some (.Name y₀ py)) spos.line X.env=pure true) (hf:X.fn y₀=true∨X.env.scope.names.lookup y₀=some .local)
  (hs:∀x,foldedSetIterable iter X.env x=pure x:=by intro _;rfl):PS X (.Assign [.Name y₀ py] (.ListComp elt [⟨tg,iter,ifs,0⟩] scope pos) spos) (fun D σ H=>zay9 n cap wi g tt te σ H fun v H1=>D.nx (σ.set i₀ (some v)) H1):=by
 intro pins s σ H Ed I h
 rw [exec_Assign_Name_used y₀ py _ spos hsw]
 refine zbj8 (wpAny_standAt (zbj8 ?_))
 show wpAny (model X.prog X.w) X.A (comprehension (.ListComp elt [⟨tg,iter,ifs,0⟩] scope pos) scope X.env _ (newList []) false (eval iter X.env) (some (assign (.Name y₀ py) X.env)) >>= fun _=>pure ()) _ _ s
 refine zbj8 (thn (Q:=fun _ s'=>SP X pins Ed .next s') ?_ fun _ s' hq=>zbk6 (zbk6 hq))
 refine wpAny_comprehension_free (use:=some (assign (.Name y₀ py) X.env)) rfl hs (zac4 (S.frees I.ok)) S.kind (fun x hx hl=>by rw [S.names x hx,hl]) (thn (hi pins s σ H _ I h) fun v s1 h1=>thn h1 fun itv s2 h2=>?_)
 obtain⟨it,fp,tn,J,H2,e,I2,T,st2,f2,R⟩:=h2
 subst e
 have lt2:∀b∈fp,b<s2.heap.objs.size:=fun b hb=>by obtain⟨o,e,_⟩:=T.obj _ _ st2 b hb;exact zbl0 e
 have hD:H2 s2.heap.objs.size=none:=I2.fresh
 obtain⟨W,⟨m0,w0⟩,turn⟩:=R s2.heap.objs.size hD
 have I3:Inv X pins σ (upd H2 s2.heap.objs.size (.lst [])) { s2 with heap:=s2.heap.push { cls:=.type "list",data:=.seq ([]:List Value).toArray },toks:=s2.toks }:=I2.lnew (t':=s2.toks) .nil (by simp)
 have f3:∀b∈fp,FpOk X pins (upd H2 s2.heap.objs.size (.lst [])) b:=fun b hb=>⟨by rw [zc9 (zbn1 (lt2 b hb))];exact (f2 b hb).1,(f2 b hb).2⟩
 refine wpAny_newObj_type (zq8 fun h₁ hns₁ hk hcl₁=>?_)
 have lt3:∀b∈fp,b<(s2.heap.push { cls:=.type "list",data:=.seq ([]:List Value).toArray }).objs.size:=fun b hb=>by rw [zbs4];exact zbr4 (lt2 b hb)
 have I4:Inv (blk X N' scope (s2.heap.push { cls:=.type "list",data:=.seq ([]:List Value).toArray }).objs.size { s2 with heap:=s2.heap.push { cls:=.type "list",data:=.seq ([]:List Value).toArray },toks:=s2.toks } (upd H2 s2.heap.objs.size (.lst [])) fp pins) [] (capV n cap σ) (upd H2 s2.heap.objs.size (.lst [])) { s2 with heap:=h₁,toks:=s2.toks } :=
  zbi4 I3 S hc f3 lt3 (t1:=s2.toks) hns₁ hk hcl₁ (by simp [capV,hN]) (fun i x v e1 e2=>by
   unfold capV at e2
   by_cases hi:i<n
   ·rw [zbp5 (by simpa using hi),zbu8]at e2
    split at e2<;>cases e2
   ·rw [zbo2 (by simpa using hi),zbv9,zbp6]at e2
    cases ej:cap[i - n]? with
    |none=>rw [ej]at e2;cases e2
    |some j =>
     rw [ej]at e2
     obtain⟨x',a1,a2,a3⟩:=hcap (i - n) j ej
     have:n+(i - n)=i:=by lia
     rw [this,e1]at a1
     cases a1
     refine⟨a3,j,a2,?_⟩
     have e2:(σ[j]?).getD none=some v:=by simpa using e2
     cases q:σ[j]? with
     |none=>rw [q]at e2;cases e2
     |some z=>rw [q]at e2;have:z=some v:=e2;rw [this])
 have loop:codeAny (model X.prog X.w) X.A (.compLoop (.ListComp elt [⟨tg,iter,ifs,0⟩] scope pos) 0 (.ref it) (.ref s2.heap.objs.size) (compEnvC scope (cellsFrom ((s2.heap.push { cls:=.type "list",data:=.seq ([]:List Value).toArray }).objs.size+1) scope.names (clOf X.env.cells scope.names [])) (s2.heap.push { cls:=.type "list",data:=.seq ([]:List Value).toArray }).objs.size X.env))
   (compPost (model X.prog X.w) X.A X.xe (some (assign (.Name y₀ py) X.env)) (fun _ s'=>SP X pins Ed .next s') (.ref s2.heap.objs.size) (s2.heap.push { cls:=.type "list",data:=.seq ([]:List Value).toArray }).objs.size) { s2 with heap:=h₁,toks:=s2.toks }:=by
  generalize hY:(blk X N' scope (s2.heap.push { cls:=.type "list",data:=.seq ([]:List Value).toArray }).objs.size { s2 with heap:=s2.heap.push { cls:=.type "list",data:=.seq ([]:List Value).toArray },toks:=s2.toks } (upd H2 s2.heap.objs.size (.lst [])) fp pins)=Y at I4
  have st4:tn 0 h₁:=T.keep _ _ _ st2 fun b hb o e=>hk b o (zbk0 _ e)
  have stat:∀ {H':Hp},(∀b∈fp,H' b=none)→∀b∈fp,FpOk Y [] H' b:=fun hn b hb=>by
   subst hY
   obtain⟨f0,f1,f2',f3',f4,f5⟩:=f3 b hb
   exact⟨hn b hb,zbn1 (lt3 b hb),fun z=>(zbk5.mp (I3.stkSub b z)).elim f1 f2',.inl hb,fun x c e=>(by
    rcases S.old I3 e with z | z
    ·exact f4 x c z
    ·exact zbu0 (zby6 (lt3 b hb) z)),fun p hp=>f5 p (by simpa using hp)⟩
  have hgY:PG Y tg g:=hY ▸ hg _ _ _ _ _
  have htY:PTs Y ifs tt:=hY ▸ ht _ _ _ _ _
  have heY:PE Y elt te:=hY ▸ he _ _ _ _ _
  have yp:Y.prog=X.prog:=by subst hY;rfl
  have yw:Y.w=X.w:=by subst hY;rfl
  have yK:Y.K=X.K:=by subst hY;rfl
  have yA:Y.A=X.A:=by subst hY;rfl
  have yc:Y.calm=true:=by subst hY;rfl
  have yx:Y.xe=fun _ _=>False:=by subst hY;rfl
  have ye:Y.env=compEnvC scope (cellsFrom ((s2.heap.push { cls:=.type "list",data:=.seq ([]:List Value).toArray }).objs.size+1) scope.names (clOf X.env.cells scope.names [])) (s2.heap.push { cls:=.type "list",data:=.seq ([]:List Value).toArray }).objs.size X.env:=by subst hY;rfl
  rw [← ye]
  refine zw0 (fun n s' => ∃i σ' H',Inv Y [] σ' H' s'∧tn i s'.heap∧(∀b∈fp,H' b=none)∧W i n σ' H') ?_ m0 ⟨0,_,_,I4,st4,fun b hb=>(f3 b hb).1,w0⟩
  rintro n s3 ⟨i,σ3,H3,I5,st3,fr3,w3⟩
  rcases turn i n σ3 H3 w3 with ⟨stop,qn⟩ | ⟨go,N,hNN,step⟩
  ·have d:=T.done Y yp yw yK yc i [] s3 σ3 H3 (fun _ _=>False) I5 (stat fr3) st3 stop
   rw [yA]at d
   refine thn d fun r s4 ⟨hr,I6⟩=>?_
   subst hr
   obtain⟨m,hm,_⟩:=I6.loc
   rw [ye]at hm
   subst hY
   have IX:=zat8 I3 f3 rfl I6 (h'':=s4.heap) ⟨rfl,fun _ _=>rfl⟩
   have cf:H3 (s2.heap.push { cls:=.type "list",data:=.seq ([]:List Value).toArray }).objs.size=none:=I6.free
   have fC:FpOk X pins H3 (s2.heap.push { cls:=.type "list",data:=.seq ([]:List Value).toArray }).objs.size:=I3.fpOk (zbl3 _) cf
   obtain⟨c0,c1,c2,c3,c4,c5⟩:=fC
   refine wpAny_assign_Name (zag4 (s:=s4) IX hNd hi₀ hy (v:=.ref s2.heap.objs.size) rfl (fun s5 I7 ⟨a,sb,ha⟩=>?_) hf)
   have na:a≠(s2.heap.push { cls:=.type "list",data:=.seq ([]:List Value).toArray }).objs.size:=by
    rcases ha with z | z
    ·rw [z];exact fun w=>c1 w.symm
    ·exact c4 _ _ z
   refine⟨m,hm.sameBut sb (Ne.symm na),fun h' hb=>⟨_,H3,?_,qn⟩⟩
   exact I7.turned (t':=s5.toks) (fun b o n e=>(hb.2 b n).trans e) c0 c1 c3 c4 c5
  ·have d:=T.item Y yp yw yK yc i [] s3 σ3 H3 (fun _ _=>False) I5 (stat fr3) st3 go
   rw [yA]at d
   refine thn d fun r s4 ⟨u,hr,h4⟩=>?_
   subst hr
   refine thn h4 fun _ s5 ⟨x,H5,I6,r5,y5,st5,fr5⟩=>?_
   have I6':=I6.pinned (stat fr5) (T.obj _ _ st5)
   have a:=hgY _ s5 σ3 H5 x u _ I6' r5 (step x H5 y5)
   rw [yp,yw,yA,yx]at a
   refine thn a fun _ s6 ⟨σ6,H6,I7,q6⟩=>?_
   have b:=htY _ s6 σ6 H6 _ I7 q6
   rw [yp,yw,yA,yx]at b
   refine thn b fun ok s7 ⟨H7,I8,q7⟩=>?_
   have again:∀ {s9:zbk8}{H9:Hp},Inv Y ([]++zv5 fp s5.heap) σ6 H9 s9→N σ6 H9→∃m,m<n∧∃i σ' H',Inv Y [] σ' H' s9∧tn i s9.heap∧(∀b∈fp,H' b=none)∧W i m σ' H':=fun {s9 H9} I9 n9=>by
    obtain⟨m',hm,w9⟩:=hNN σ6 H9 n9
    refine⟨m',hm,i+1,σ6,H9,I9.unpinned,T.keep _ _ _ st5 fun b hb o e=>(I9.pin (b,o) (zbj5 _ (zbj5 _ (zj5 hb e)))).1,fun b hb=>?_,w9⟩
    obtain⟨o,e,d⟩:=T.obj _ _ st5 b hb
    exact (I9.pin (b,o) (zbj5 _ (zbj5 _ (zj5 hb e)))).2.1
   cases ok with
   |false=>exact iteF (again I8 (by simpa using q7))
   |true =>
    rw [if_pos rfl]at q7
    refine iteT ?_
    have c:=heY _ s7 σ6 H7 _ I8 q7
    rw [yp,yw,yA,yx]at c
    refine thn c fun z s8 ⟨vz,H8,I9,r9,vs,hv,hl,n9⟩=>?_
    have ap:=zx8 (X:=Y) ([]++zv5 fp s5.heap) s8 σ6 H8 (.ref s2.heap.objs.size) [vz] (.ref s2.heap.objs.size) [z] (fun _ H9=>N σ6 H9) I9 rfl (.cons r9 .nil) ⟨_,vs,vz,rfl,rfl,hv,hl,n9⟩
    rw [yp,yw,yA,yx]at ap
    exact thn ap fun _ s9 ⟨_,H9,I10,_,n10⟩=>again I10 n10
 exact codeAny_compStart_list loop (T.self _ 0 _ _ _ (T.keep _ _ _ st2 fun b hb o e=>hk b o (zbk0 _ e)) loop)
end L2
namespace DL
open PySem.Spec L2
structure Src (K:zbj6) (ds:List D) (J:It) (Good:List Addr→Hp→Prop):Prop where
 keep:∀P H P' H',Good P H→Same (hide P H) (hide P' H')→Good P' H'
 stop:∀P H,Good P H→J.stop ds.length H
 go:∀P H i,Good P H→i<ds.length→J.go i H
 yld:∀P H i x H',Good P H→Lists H P→J.yld i H x H'→i<ds.length→Same H H'∧∃d,ds[i]?=some d∧Rep K (hide P H') d x
noncomputable abbrev DI:=Th→Option (Bool×List D)
noncomputable def hidF (b:Bool) (A F:List Addr):List Addr:=if b then A++F else F
noncomputable def dI (K:zbj6) (F:List Addr) (fs:DI):TI:=fun σ H R => ∃A t b ds,RS K F H A t σ∧fs t=some (b,ds)∧∀J H1 Good,Same H H1→Src K ds J Good→Good (hidF b A F) H1→R J H1
theorem PI.imp {X:Cx}{tg iter:Expr}{t t':TI} (h:PI X tg iter t) (i:∀σ H R,t' σ H R→t σ H R):PI X tg iter t':=fun pins s σ H R I q=>h pins s σ H R I (i σ H R q)
noncomputable def fsL (f:DE):DI:=fun t=>(f t).bind fun r=>match r.d with
 |.lst ds=>some (r.ok,ds)
 |_=>none
noncomputable def fsE (f:DE):DI:=fun t=>(f t).bind fun r=>match r.d with
 |.lst ds=>some (r.ok,zo6 0 ds)
 |_=>none
noncomputable def fsR1 (f:DE):DI:=fun t=>(f t).bind fun r=>match r.d with
 |.int n=>if bigI n then some (true,rngD 0 n.toNat) else none
 |_=>none
theorem src_list {K:zbj6}{p:Addr}{vs:List V}{ds:List D} (hl:vs.length=ds.length):Src K ds (Itl K p) (fun P H=>SqL K (hide P H) p vs∧Reps K (hide P H) ds vs) where
 keep:=fun P H P' H' q s=>⟨SqL.mono s q.1,Reps.mono s q.2⟩
 stop:=fun P H q=>⟨vs,SqL.mono (zb0 _ _) q.1,by lia⟩
 go:=fun P H i q hi=>⟨vs,vs[i]'(by lia),SqL.mono (zb0 _ _) q.1,zbk4 (by lia)⟩
 yld:=fun P H i x H' q mu y hi=>by
  obtain⟨e1,e2⟩:=y
  subst e1
  exact⟨Same.refl _,q.2.getV (e2 vs (SqL.mono (zb0 _ _) q.1))⟩
theorem src_enum {K:zbj6}{p:Addr}{vs:List V}{ds:List D} (hl:vs.length=ds.length):Src K (zo6 0 ds) (Ite K p) (fun P H=>SqL K (hide P H) p vs∧Reps K (hide P H) ds vs) where
 keep:=fun P H P' H' q s=>⟨SqL.mono s q.1,Reps.mono s q.2⟩
 stop:=fun P H q=>⟨vs,SqL.mono (zb0 _ _) q.1,by rw [zi2];lia⟩
 go:=fun P H i q hi=>by
  rw [zi2]at hi
  exact⟨vs,vs[i]'(by lia),SqL.mono (zb0 _ _) q.1,zbk4 (by lia)⟩
 yld:=fun P H i x H' q mu y hi=>by
  obtain⟨l,v,hl0,rfl,rfl,hv⟩:=y
  obtain⟨d,hd,rd⟩:=q.2.getV (hv vs (SqL.mono (zb0 _ _) q.1))
  have sm:=zd2 (o:=HO.tup [.int i,v]) hl0
  refine⟨sm,_,zz0 0 ds i d hd,?_⟩
  rw [zby7]
  exact .tup (SqT.of (zc4 zc3 (zd0 mu hl0))) (.cons (.int _) (.cons (Rep.mono (zc7 sm) rd) .nil))
theorem src_rng {K:zbj6}{lo:Int}{n:Nat}:Src K (rngD lo n) (Itr lo n) (fun _ _=>True) where
 keep:=fun _ _ _ _ _ _=>trivial
 stop:=fun P H _=>by rw [zu6];exact zbl3 n
 go:=fun P H i _ hi=>by rw [zu6]at hi;exact hi
 yld:=fun P H i x H' _ _ y hi=>by
  rw [zu6]at hi
  obtain⟨e1,e2⟩:=y
  subst e1
  refine⟨Same.refl _,.int (lo+i),by simp [rngD,hi],?_⟩
  rw [e2];exact .int _
theorem RepEv.hidF {K:zbj6}{F A:List Addr}{H H':Hp}{r:Ev}{v:V} (m:Lists H (A++F)) (gs:Same H H') (q:RepEv K F A H H' r v):Rep K (hide (DL.hidF r.ok A F) H') r.d v:=by
 unfold DL.hidF
 split
 ·rename_i c;exact q.clean m gs c
 ·exact q.cleanF m
section
variable {X:Cx}{F:List Addr}{a b c:Expr}{es:List Expr}{fa fb fc:DE}{pos:Pos}{tg:Expr}
theorem zl2 (hl:PE X a (dE X.K F fa)):PI X tg a (dI X.K F (fsL fa)):=by
 refine PI.imp (zbb6 hl) ?_
 rintro σ H R ⟨A,t,b,ds,RR,e,h⟩
 unfold fsL at e
 cases e1:fa t with
 |none=>rw [e1]at e;cases e
 |some r =>
  rw [e1]at e
  refine⟨A,t,r,RR,e1,fun v H1 gs q=>?_⟩
  have e:(match r.d with | .lst ds=>some (r.ok,ds) |_=>none)=some (b,ds):=e
  split at e
  case h_2=>cases e
  rename_i ds' z
  cases e
  have cl:=RepEv.hidF RR.mu gs q
  rw [z]at cl
  cases cl with
  |@lst _ p vs h1 h2=>exact⟨p,rfl,⟨vs,SqL.mono (zb0 _ _) h1⟩,h _ H1 _ gs (src_list h2.length) ⟨h1,h2⟩⟩
theorem pid_enum {elts:List Expr}{kk:Nat}{tp p1 p2:Pos} (hge:Gl X "enumerate") (hm:X.mg "enumerate"=none) (hl:PE X a (dE X.K F fa)) (hst:zbm0 [a] X.env=[(false,eval a X.env)]:=by rfl):PI X (.Tuple elts kk tp) (.Call (.Name "enumerate" p1) [a] [] p2) (dI X.K F (fsE fa)):=by
 refine PI.imp (zbb7 hge hm hl hst) ?_
 rintro σ H R ⟨A,t,b,ds,RR,e,h⟩
 unfold fsE at e
 cases e1:fa t with
 |none=>rw [e1]at e;cases e
 |some r =>
  rw [e1]at e
  refine⟨A,t,r,RR,e1,fun v H1 gs q=>?_⟩
  have e:(match r.d with | .lst ds=>some (r.ok,zo6 0 ds) |_=>none)=some (b,ds):=e
  split at e
  case h_2=>cases e
  rename_i ds' z
  cases e
  have cl:=RepEv.hidF RR.mu gs q
  rw [z]at cl
  cases cl with
  |@lst _ p vs h1 h2=>exact⟨p,rfl,⟨vs,SqL.mono (zb0 _ _) h1⟩,h _ H1 _ gs (src_enum h2.length) ⟨h1,h2⟩⟩
theorem zw5 {p1 p2:Pos} (hgr:Gl X "range") (hm:X.mg "range"=none) (ha:PE X a (dE X.K F fa)) (hst:zbm0 [a] X.env=[(false,eval a X.env)]:=by rfl):PI X tg (.Call (.Name "range" p1) [a] [] p2) (dI X.K F (fsR1 fa)):=by
 refine PI.imp (zah4 hgr hm (zh2 ha zr1 hst) hst) ?_
 rintro σ H R ⟨A,t,b,ds,RR,e,h⟩
 unfold fsR1 at e
 cases e1:fa t with
 |none=>rw [e1]at e;cases e
 |some r =>
  rw [e1]at e
  refine⟨A,t,r,RR,e1,fun v H1 gs q=>?_⟩
  have e:(match r.d with | .int n=>if bigI n then some (true,rngD 0 n.toNat) else none | _=>none)=some (b,ds):=e
  split at e
  case h_2=>cases e
  rename_i n z
  split at e
  case isFalse=>cases e
  rename_i ok
  simp only [bigI,decide_eq_true_eq]at ok
  cases e
  have p:=q.full
  rw [z]at p
  cases zd4 p
  exact⟨n,rfl,by lia,by lia,h _ H1 _ gs src_rng trivial⟩
end
noncomputable def capD (t:Th):List Nat→Option (Bool×List D)
 |[]=>some (true,[])
 |j::js=>(capD t js).bind fun q=>match t[j]? with
  |some (.val d)=>some (q.1,d::q.2)
  |some (.own xs)=>some (false,.lst xs::q.2)
  |some (.dp d)=>some (false,d::q.2)
  |_=>none
theorem zat4 {K:zbj6}{F A:List Addr}{H:Hp}{t:Th}{σ:L2.St} (R:RS K F H A t σ):∀ {cap:List Nat}{b:Bool}{ds:List D},capD t cap=some (b,ds)→∃vs:List V,(cap.map fun j=>(σ[j]?).getD none)=vs.map some∧Reps K (hide (hidF b A F) H) ds vs
 |[],b,ds,e=>by cases e;exact⟨[],rfl,.nil⟩
 |j::js,b,ds,e=>by
  unfold capD at e
  cases e1:capD t js with
  |none=>rw [e1]at e;cases e
  |some q =>
   obtain⟨b',ds'⟩:=q
   rw [e1]at e
   obtain⟨vs,h1,h2⟩:=zat4 R e1
   have e:(match t[j]? with
    |some (.val d)=>some (b',d::ds')
    |some (.own xs)=>some (false,.lst xs::ds')
    |some (.dp d)=>some (false,d::ds')
    |_=>none)=some (b,ds):=e
   have less:∀c:Bool,Same (hide (A++F) H) (hide (hidF c A F) H):=fun c=>zb2 H fun x z=>by
    cases c with
    |true=>exact z
    |false=>exact zbj5 _ z
   split at e
   ·rename_i d z
    cases e
    obtain⟨v,a1,a2⟩:=R.rel.getVal z
    exact⟨v::vs,by simp [a1,h1],.cons (Rep.mono (less _) a2) h2⟩
   ·rename_i xs z
    cases e
    obtain⟨p,us,a1,a2,a3,a4⟩:=R.rel.getOwn z
    refine⟨.ref p::vs,by simp [a1,h1],.cons (.lst (SqL.of (zc4 a3 (R.dj p a2))) (Reps.mono (less false) a4)) (Reps.mono (zb2 H fun x z=>?_) h2)⟩
    cases b' with
    |true=>exact zbj5 _ z
    |false=>exact z
   ·rename_i d z
    cases e
    obtain⟨v,B,a1,a2,a3,a4⟩:=R.rel.getDp R.nd z
    refine⟨v::vs,by simp [a1,h1],.cons (a4.rep (less false) fun b hb o w=>zc4 w (R.dj b (a2 b hb))) (Reps.mono (zb2 H fun x z=>?_) h2)⟩
    cases b' with
    |true=>exact zbj5 _ z
    |false=>exact z
   ·cases e
noncomputable def zd8 (k:D→Th→Option Th) (ft:DT) (fe:DE):List D→Th→Option (List D)
 |[],_=>some []
 |d::ds,t=>(k d t).bind fun t1=>(ft t1).bind fun b=>if b then (fe t1).bind fun r=>(zd8 k ft fe ds t1).map fun xs=>r.d::xs else zd8 k ft fe ds t1
noncomputable def ze6 (n:Nat) (cap:List Nat) (fs:DI) (k:D→Th→Option Th) (ft:DT) (fe:DE):DE:=fun t=>(fs t).bind fun q=>(capD t cap).bind fun c=>if q.2.length≤50000 then (zd8 k ft fe q.2 (zbl4 n Sl.no++c.2.map Sl.val)).bind fun xs=>if (q.1&&c.1)||zg9 xs then some (.nw xs) else none else none
theorem zz6 {k:D→Th→Option Th}{ft:DT}{fe:DE}:∀ {ds:List D}{t:Th}{xs:List D},zd8 k ft fe ds t=some xs→xs.length≤ds.length
 |[],t,xs,e=>by cases e;simp
 |d::ds,t,xs,e=>by
  unfold zd8 at e
  cases e1:k d t with
  |none=>rw [e1]at e;cases e
  |some t1 =>
   rw [e1]at e
   have e:((ft t1).bind fun b=>if b then (fe t1).bind fun r=>(zd8 k ft fe ds t1).map fun xs=>r.d::xs else zd8 k ft fe ds t1)=some xs:=e
   cases e2:ft t1 with
   |none=>rw [e2]at e;cases e
   |some b =>
    rw [e2]at e
    cases b with
    |false=>have:=zz6 (ds:=ds) (t:=t1) e;simp;lia
    |true =>
     have e:((fe t1).bind fun r=>(zd8 k ft fe ds t1).map fun xs=>r.d::xs)=some xs:=e
     cases e3:fe t1 with
     |none=>rw [e3]at e;cases e
     |some r =>
      rw [e3]at e
      have e:((zd8 k ft fe ds t1).map fun xs=>r.d::xs)=some xs:=e
      cases e4:zd8 k ft fe ds t1 with
      |none=>rw [e4]at e;cases e
      |some ys=>rw [e4]at e;cases e;have:=zz6 e4;simp;lia
end DL
namespace DL
open PySem.Spec L2
theorem RSl.noVals {K:zbj6}{H0 H:Hp}{vs:List V}{ds:List D} (r:Reps K H0 ds vs):∀n,RSl K H0 H (zbl4 n Sl.no++ds.map Sl.val) (zbl4 n none++vs.map some) []
 |0=>by simpa using RSl.start (t:=[]) (σ:=[]) .nil r
 |n+1=>.no (RSl.noVals r n)
theorem zt6 {P:List Addr}{H:Hp}{p:Addr}{o:HO} (hp:p∈P):Same (hide P H) (hide P (upd H p o)):=fun b u e=>by
 obtain⟨n,e⟩:=zn3 e
 exact zc4 (by rw [zc9 (fun z=>n (by rw [z];exact hp))];exact e) n
theorem RS.updF {K:zbj6}{P:List Addr}{H:Hp}{t:Th}{σ:L2.St}{p:Addr}{ws:List V} (R:RS K P H [] t σ) (hp:p∈P):RS K P (upd H p (.lst ws)) [] t σ where
 mu:=fun q hq=>by
  by_cases z:q=p
  ·exact⟨mL ws,by rw [z];exact zc3⟩
  ·obtain⟨us,w⟩:=R.mu q hq
   exact⟨us,by rw [zc9 z];exact w⟩
 nd:=zbs3
 dj:=fun p hp=>by cases hp
 rel:=RSl.mono (zt6 hp) R.rel fun q hq=>by cases hq
theorem zaw2 {K:zbj6}{P A:List Addr}{H:Hp}{t:Th}{σ:L2.St} (R:RS K P H A t σ) (g:Gr [] H A H):A=[]:=by
 cases A with
 |nil=>rfl
 |cons a r =>
  rcases g.nw a (zbk2 ..) with z | z
  ·cases z
  ·obtain⟨vs,q⟩:=R.mu a (zbj7 _ (zbk2 ..))
   rw [q]at z;cases z
noncomputable def ze5:DT:=fun _=>some true
theorem PTs.imp {Y:Cx}{ifs:List Expr}{t t':TT} (h:PTs Y ifs t) (i:∀σ H Q,t' σ H Q→t σ H Q):PTs Y ifs t':=fun pins s σ H Q I q=>h pins s σ H Q I (i σ H Q q)
theorem zh0 {Y:Cx}{F:List Addr}:PTs Y [] (dT Y.K F ze5):=PTs.imp pts_nil fun σ H Q ⟨A,t,b,R,e,h⟩=>by cases e;exact h H (Same.refl H)
theorem zad3 {Y:Cx}{F:List Addr}{c:Expr}{ft:DT} (h:PT Y c (dT Y.K F ft)):PTs Y [c] (dT Y.K F ft):=pts_one h
theorem zaq0 {X:Cx}{F:List Addr}{n:Nat}{cap:List Nat}{fs:DI}{g:TG}{kt:D→Th→Option Th}{ft:DT}{fe:DE} (hk:∀F',TgOk X.K F' g kt) {σ:L2.St}{H:Hp}{Q:VK} (h:dE X.K F (ze6 n cap fs kt ft fe) σ H Q) :
  zay9 n cap (dI X.K F fs) g (fun σ H Q => ∃F',dT X.K F' ft σ H Q) (fun σ H Q => ∃F',dE X.K F' fe σ H Q) σ H Q:=by
 obtain⟨A,t,r,R,e,h⟩:=h
 unfold ze6 at e
 cases e1:fs t with
 |none=>rw [e1]at e;cases e
 |some q =>
  obtain⟨b,ds⟩:=q
  cases e2:capD t cap with
  |none=>rw [e1,e2]at e;cases e
  |some q2 =>
   obtain⟨c,caps⟩:=q2
   rw [e1,e2]at e
   have e:(if ds.length≤50000 then (zd8 kt ft fe ds (zbl4 n Sl.no++caps.map Sl.val)).bind fun xs=>if (b&&c)||zg9 xs then some (Ev.nw xs) else none else none)=some r:=e
   split at e
   case isFalse=>cases e
   rename_i hlen
   cases e3:zd8 kt ft fe ds (zbl4 n Sl.no++caps.map Sl.val) with
   |none=>rw [e3]at e;cases e
   |some xs =>
    rw [e3]at e
    have e:(if (b&&c)||zg9 xs then some (Ev.nw xs) else none)=some r:=e
    split at e
    case isFalse=>cases e
    rename_i ok
    cases e
    have xl:=zz6 e3
    obtain⟨cvs,cv1,cv2⟩:=zat4 R e2
    -- what is hidden from the block,but its own list
    obtain⟨F',F'def⟩:∃F',F'=hidF (b&&c) A F:=⟨_,rfl⟩
    have subF:∀x∈F',x∈A++F:=fun x hx=>by
     rw [F'def]at hx
     unfold hidF at hx
     split at hx
     ·exact hx
     ·exact zbj5 _ hx
    have lessB:∀H:Hp,Same (hide (hidF b A F) H) (hide F' H):=fun H=>zb2 H fun x hx=>by
     rw [F'def]at hx
     cases b<;>cases c<;>simp [hidF]at hx ⊢<;>first | exact hx | exact .inr hx | (rcases hx with z | z<;>simp [z])
    have lessC:∀H:Hp,Same (hide (hidF c A F) H) (hide F' H):=fun H=>zb2 H fun x hx=>by
     rw [F'def]at hx
     cases b<;>cases c<;>simp [hidF]at hx ⊢<;>first | exact hx | exact .inr hx | (rcases hx with z | z<;>simp [z])
    have wi:zay9 n cap (dI X.K F fs) g (fun σ H Q => ∃F',dT X.K F' ft σ H Q) (fun σ H Q => ∃F',dE X.K F' fe σ H Q) σ H Q:=by
     refine⟨A,t,b,ds,R,e1,fun J H1 Good gs src gd Dd hD=>?_⟩
     have H1A:Lists H1 (A++F):=R.mu.mono gs
     have st0:Same (hide F' H1) (hide (Dd::F') (upd H1 Dd (.lst []))):=zl3 hD
     refine⟨fun i m σ' H'=>i+m=ds.length∧∃th acc rest vs,RS X.K (Dd::F') H' [] th σ'∧zd8 kt ft fe (ds.drop i) th=some rest∧acc++rest=xs∧H' Dd=some (.lst vs)∧Reps X.K (hide (Dd::F') H') acc vs∧Same H1 H'∧Good (Dd::F') H',
      ⟨ds.length,by lia,_,[],xs,[],⟨?_,zbs3,fun p hp=>(by cases hp),?_⟩,by simpa using e3,rfl,zc3,.nil,zd2 hD,src.keep _ _ _ _ gd (fun b o z=>st0 _ _ (lessB _ _ _ z))⟩,?_⟩
     ·intro q hq
      have hq:q∈Dd::F':=hq
      rcases zbk5.mp hq with z | z
      ·exact⟨mL [],by rw [z];exact zc3⟩
      ·obtain⟨us,w⟩:=H1A q (subF q z)
       exact⟨us,(zd2 hD) _ _ w⟩
     ·unfold capV
      rw [cv1]
      exact RSl.noVals (Reps.mono (fun b o z=>st0 _ _ (lessC H1 _ _ (zc7 gs _ _ z))) cv2) n
     ·rintro i m σ' H' ⟨hm,th,acc,rest,vs,RR,ec,ex,hv,hr,sm,gg⟩
      cases m with
      |zero =>
       have z:i=ds.length:=by lia
       subst z
       rw [zce0]at ec
       cases ec
       rw [zbr1]at ex
       subst ex
       refine .inl ⟨src.stop _ _ gg,h _ H' (gs.trans sm) ⟨Dd,vs,rfl,Same.free gs hD,hv,?_⟩⟩
       rcases zbx5 _ _ ▸ ok with k | k
       ·have:F'=A++F:=by rw [F'def];unfold hidF;rw [k];rfl
        rw [← this];exact hr
       ·refine Reps.hid (P:=Dd ::(A++F)) (fun q hq=>?_) k (Reps.mono (zb0 _ _) hr)
        rcases zbk5.mp hq with z | z
        ·exact⟨mL vs,by rw [z];exact hv⟩
        ·obtain⟨us,w⟩:=H1A q z
         exact⟨us,sm _ _ w⟩
      |succ m =>
       have hil:i<ds.length:=by lia
       refine .inr ⟨src.go _ _ i gg hil,fun σ' H'=>i+1+m=ds.length∧∃th acc rest vs,RS X.K (Dd::F') H' [] th σ'∧zd8 kt ft fe (ds.drop (i+1)) th=some rest∧acc++rest=xs∧H' Dd=some (.lst vs)∧Reps X.K (hide (Dd::F') H') acc vs∧Same H1 H'∧Good (Dd::F') H',
        fun σ' H' q=>⟨m,zbu6 m,q⟩,fun x H2 y=>?_⟩
       obtain⟨gs2,d,hd,rd⟩:=src.yld _ _ i x H2 gg RR.mu y hil
       have ed:ds.drop i=d::ds.drop (i+1):=by
        have hd':ds[i]=d:=by
         rw [zbk4 hil]at hd
         exact Option.some.inj hd
        rw [← hd']
        exact zbu3 hil
       rw [ed]at ec
       unfold zd8 at ec
       cases k1:kt d th with
       |none=>rw [k1]at ec;cases ec
       |some t1 =>
        rw [k1]at ec
        have ec:((ft t1).bind fun b=>if b then (fe t1).bind fun r=>(zd8 kt ft fe (ds.drop (i+1)) t1).map fun xs=>r.d::xs else zd8 kt ft fe (ds.drop (i+1)) t1)=some rest:=ec
        refine hk (Dd::F') σ' H2 [] th t1 d x _ (RR.grow gs2) rd k1 fun σ2 A2 gr2 R2=>?_
        have A20:=zaw2 R2 gr2
        subst A20
        cases k2:ft t1 with
        |none=>rw [k2]at ec;cases ec
        |some bb =>
         rw [k2]at ec
         refine⟨Dd::F',[],t1,bb,R2,k2,fun H3 gs3=>?_⟩
         cases bb with
         |false =>
          refine iteF ⟨by lia,t1,acc,rest,vs,R2.grow gs3,ec,ex,gs3 _ _ (gs2 _ _ hv),Reps.mono (zc7 (gs2.trans gs3)) hr,(sm.trans gs2).trans gs3,src.keep _ _ _ _ gg (zc7 (gs2.trans gs3))⟩
         |true =>
          have ec:((fe t1).bind fun r=>(zd8 kt ft fe (ds.drop (i+1)) t1).map fun xs=>r.d::xs)=some rest:=ec
          cases k3:fe t1 with
          |none=>rw [k3]at ec;cases ec
          |some re =>
           rw [k3]at ec
           have ec:((zd8 kt ft fe (ds.drop (i+1)) t1).map fun xs=>re.d::xs)=some rest:=ec
           cases k4:zd8 kt ft fe (ds.drop (i+1)) t1 with
           |none=>rw [k4]at ec;cases ec
           |some ys =>
            rw [k4]at ec
            cases ec
            refine iteT ⟨Dd::F',[],t1,re,R2.grow gs3,k3,fun v H4 gs4 q4=>⟨vs,gs4 _ _ (gs3 _ _ (gs2 _ _ hv)),?_,?_⟩⟩
            ·have l1:=hr.length
             have l2:acc.length+(ys.length+1)=xs.length:=by rw [← ex];simp
             exact zbm4 (show vs.length<50000 by lia) (by rw [sizeLine_eq];decide)
            ·have s4:=(gs2.trans gs3).trans gs4
             have hu:Same (hide (Dd::F') H4) (hide (Dd::F') (upd H4 Dd (.lst (vs++[v])))):=zt6 (zbk2 ..)
             have rv:=q4.cleanF ((R2.grow gs3).mu)
             refine⟨by lia,t1,acc++[re.d],ys,vs++[v],RS.updF ((R2.grow gs3).grow gs4) (zbk2 ..),k4,by simpa using ex,zc3,?_,?_,?_⟩
             ·exact (Reps.mono (fun b o z=>hu _ _ (zc7 s4 _ _ z)) hr).app (Reps.one (Rep.mono hu rv))
             ·exact fun b o z=>by
               rw [zc9 (fun w=>by rw [w,hD]at z;cases z)]
               exact s4 _ _ (sm _ _ z)
             ·exact src.keep _ _ _ _ gg (fun b o z=>hu _ _ (zc7 s4 _ _ z))
    exact wi
theorem ped_comp {X:Cx}{F:List Addr}{elt tg iter:Expr}{ifs:List Expr}{scope:Scope}{pos:Pos}{n:Nat}{cap:List Nat}{N':List Str}{fs:DI}{g:TG}{kt:D→Th→Option Th}{ft:DT}{fe:DE} (S:CompSc X scope) (hc:X.calm=true) (hi:PI X tg iter (dI X.K F fs))
  (hN:N'.length=n+cap.length) (hcap:∀(k:Nat) (j:Nat),cap[k]?=some j→∃x,N'[n+k]?=some x∧X.N[j]?=some x∧(x,NameKind.free)∈scope.names)
  (hg:∀C s₃ H₃ fp pins,PG (blk X N' scope C s₃ H₃ fp pins) tg g) (hk:∀F',TgOk X.K F' g kt) (ht:∀C s₃ H₃ fp pins F',PTs (blk X N' scope C s₃ H₃ fp pins) ifs (dT X.K F' ft)) (he:∀C s₃ H₃ fp pins F',PE (blk X N' scope C s₃ H₃ fp pins) elt (dE X.K F' fe))
  (hs:∀x,foldedSetIterable iter X.env x=pure x:=by intro _;rfl):PE X (.ListComp elt [⟨tg,iter,ifs,0⟩] scope pos) (dE X.K F (ze6 n cap fs kt ft fe)) :=
 PE.imp (pe_comp (g:=g) S hc hi hN hcap hg (fun C s₃ H₃ fp pins pins' s σ H Q I ⟨F',q⟩=>ht C s₃ H₃ fp pins F' pins' s σ H Q I q) (fun C s₃ H₃ fp pins pins' s σ H Q I ⟨F',q⟩=>he C s₃ H₃ fp pins F' pins' s σ H Q I q) hs) fun _ _ _ h=>zaq0 hk h
noncomputable def zas9 (names:List (Str×NameKind)) (kind:Str→Option NameKind):Bool:=names.all fun y=>(y.2 != .free||kind y.1 == some .cell||kind y.1 == some .free)&&(names.lookup y.1 == some y.2)
theorem compSc {X:Cx}{scope:Scope} (hk:scope.kind=.function:=by rfl) (h:zas9 scope.names X.env.kindOf=true:=by rfl):CompSc X scope:=by
 have h':=zbq0.mp h
 refine⟨hk,fun y hy hf=>?_,fun y hy=>?_⟩
 ·have:=h' y hy
  simp only [zbk7,zbx5,bne_iff_ne,beq_iff_eq]at this
  rcases this.1 with (z | z) |z
  ·exact absurd hf z
  ·exact .inl z
  ·exact .inr z
 ·have:=h' y hy
  simp only [zbk7,beq_iff_eq]at this
  exact this.2
noncomputable def zax3 (N' N:List Str) (n:Nat) (names:List (Str×NameKind)):Nat→List Nat→Bool
 |_,[]=>true
 |k,j::js=>(match N'[n+k]?,N[j]? with
  |some x,some y=>x == y&&names.any fun z=>z.1 == x&&z.2 == .free
  |_,_=>false)&&zax3 N' N n names (k+1) js
theorem zaf4 {N' N:List Str}{n:Nat}{names:List (Str×NameKind)}:∀ {cap:List Nat}{k0:Nat},zax3 N' N n names k0 cap=true→∀(k j:Nat),cap[k]?=some j→∃x,N'[n+(k0+k)]?=some x∧N[j]?=some x∧(x,NameKind.free)∈names
 |[],k0,_,k,j,e=>by simp at e
 |i::js,k0,h,k,j,e=>by
  unfold zax3 at h
  rw [zbk7]at h
  cases k with
  |zero =>
   simp at e
   subst e
   have h1:=h.1
   split at h1
   ·rename_i x y z1 z2
    rw [zbk7,beq_iff_eq,zbw6]at h1
    obtain⟨e1,w,w1,w2⟩:=h1
    rw [zbk7,beq_iff_eq,beq_iff_eq]at w2
    obtain⟨a,b⟩:=w
    simp only at w2
    rw [w2.1,w2.2]at w1
    exact⟨x,by simpa using z1,by rw [z2,e1],w1⟩
   ·cases h1
  |succ k =>
   obtain⟨x,a,b,c⟩:=zaf4 h.2 k j (by simpa using e)
   exact⟨x,by rw [show k0+(k+1)=k0+1+k by lia];exact a,b,c⟩
theorem ze3 {X:Cx}{F:List Addr}{elt tg iter:Expr}{ifs:List Expr}{scope:Scope}{pos:Pos}{fs:DI}{g:TG}{kt:D→Th→Option Th}{ft:DT}{fe:DE} (n:Nat) (cap:List Nat) (N':List Str) (hc:X.calm=true) (hi:PI X tg iter (dI X.K F fs))
  (hg:∀C s₃ H₃ fp pins,PG (blk X N' scope C s₃ H₃ fp pins) tg g) (hk:∀F',TgOk X.K F' g kt) (ht:∀C s₃ H₃ fp pins F',PTs (blk X N' scope C s₃ H₃ fp pins) ifs (dT X.K F' ft)) (he:∀C s₃ H₃ fp pins F',PE (blk X N' scope C s₃ H₃ fp pins) elt (dE X.K F' fe))
  (hkd:scope.kind=.function:=by rfl) (hcs:zas9 scope.names X.env.kindOf=true:=by rfl) (hN:N'.length=n+cap.length:=by rfl) (hcap:zax3 N' X.N n scope.names 0 cap=true:=by rfl)
  (hs:∀x,foldedSetIterable iter X.env x=pure x:=by intro _;rfl):PE X (.ListComp elt [⟨tg,iter,ifs,0⟩] scope pos) (dE X.K F (ze6 n cap fs kt ft fe)) :=
 ped_comp (compSc hkd hcs) hc hi hN (fun k j e=>by simpa using zaf4 hcap k j e) hg hk ht he hs
noncomputable def kIn:Ev→Ev→Option Ev:=fun r1 r2=>match r2.d with
 |.lst ds=>if scD r1.d&&ds.all (fun d=>scD d&&eqOk 0 d r1.d) then some (.cl (.bl (ds.any fun d=>eqD d r1.d))) else none
 |.tup ds=>if scD r1.d&&ds.all (fun d=>scD d&&eqOk 0 d r1.d) then some (.cl (.bl (ds.any fun d=>eqD d r1.d))) else none
 |_=>none
theorem in_D {K:zbj6}{H:Hp}{e:D}{u:V} (q:Rep K H e u) (se:scD e=true):∀ {ds:List D}{vs:List V},Reps K H ds vs→ds.all (fun d=>scD d&&eqOk 0 d e)=true→vs.all zt9=true∧inV u vs=ds.any fun d=>eqD d e
 |_,_,.nil,_=>⟨rfl,rfl⟩
 |_,_,.cons h r,k=>by
  simp only [zbo7,zbk7]at k
  obtain⟨f1,f2,e1⟩:=eqV_D h q k.1.1 se k.1.2
  obtain⟨a,b⟩:=in_D q se r (by simpa using k.2)
  unfold inV at b ⊢
  refine⟨by simp [f1,a],?_⟩
  rw [zbs1,zbs1,e1,b]
theorem zaz6 {K:zbj6}{H:Hp}{e:D}{u:V} (q:Rep K H e u) (se:scD e=true):zt9 u=true:=by
 cases q<;>simp_all [scD,zt9]
theorem zai1 {X:Cx}{F:List Addr}:OpD X F (compareOp .In) kIn:=by
 intro pins s σ H0 H A x y v u Q r1 r2 r I m g0 rx ry q1 q2 e hq
 unfold kIn at e
 have p1:=q1.full
 have p2:=q2.full
 split at e
 ·rename_i ds z
  rw [z]at p2
  split at e
  case isFalse=>cases e
  rename_i c
  rw [zbk7]at c
  cases e
  cases p2 with
  |@lst _ p vs h1 h2 =>
   obtain⟨a,b⟩:=in_D p1 c.1 h2 c.2
   exact zah8 pins s σ H x _ v u Q I rx ry ⟨p,vs,rfl,.inl h1,zaz6 p1 c.1,a,by
    show Q (.bl (inV x vs)) H
    rw [b];exact hq _ H (Same.refl H) (.bl _)⟩
 ·rename_i ds z
  rw [z]at p2
  split at e
  case isFalse=>cases e
  rename_i c
  rw [zbk7]at c
  cases e
  cases p2 with
  |@tup _ p vs h1 h2 =>
   obtain⟨a,b⟩:=in_D p1 c.1 h2 c.2
   exact zah8 pins s σ H x _ v u Q I rx ry ⟨p,vs,rfl,.inr h1,zaz6 p1 c.1,a,by
    show Q (.bl (inV x vs)) H
    rw [b];exact hq _ H (Same.refl H) (.bl _)⟩
 ·cases e
section
variable {X:Cx}{F:List Addr}{a b c:Expr}{es:List Expr}{fa fb fc:DE}{pos:Pos}
noncomputable def zn4:List Ev→Option Ev:=fun rs=>match rs with
 |[r]=>(match r.d with
  |.lst ds=>if r.ok||zg9 ds then some (.nw ds) else none
  |_=>none)
 |_=>none
theorem zr8:CallD X F (.type "list") zn4:=CallD.of zak2 fun H0 H A xs rs e Q m g q ek hq=>by
 unfold zn4 at ek
 split at ek
 ·rename_i r
  cases q with
  |cons q1 q2 =>
   cases q2
   split at ek
   ·rename_i ds z
    split at ek
    case isFalse=>cases ek
    rename_i c
    cases ek
    obtain⟨p,vs,rfl,h1,h2⟩:=q1.items m g z c
    exact⟨p,vs,rfl,.inl h1,fun l hl=>hq _ _ (zd2 hl) ⟨l,vs,rfl,Same.free g hl,zc3,Reps.mono (zl3 hl) h2⟩⟩
   ·cases ek
 ·cases ek
noncomputable def k2I (f:Int→Int→Int):List Ev→Option Ev:=fun rs=>match rs with
 |[r1,r2]=>(match r1.d,r2.d with
  |.int i,.int j=>some (.cl (.int (f i j)))
  |_,_=>none)
 |_=>none
theorem cd_2I {v:Value}{f:Int→Int→Int} (h:zq7 X v (fun xs H Q => ∃i j,xs=[.int i,.int j]∧Q (.int (f i j)) H)):CallD X F v (k2I f):=CallD.of h fun H0 H A xs rs e Q m g q ek hq=>by
 unfold k2I at ek
 split at ek
 ·rename_i r1 r2
  cases q with
  |cons q1 q' =>
   cases q' with
   |cons q2 q3 =>
    cases q3
    split at ek
    ·rename_i i j z1 z2
     cases ek
     have p1:=q1.full
     have p2:=q2.full
     rw [z1]at p1;rw [z2]at p2
     cases zd4 p1;cases zd4 p2
     exact⟨i,j,rfl,hq _ H (Same.refl H) (.int _)⟩
    ·cases ek
 ·cases ek
theorem zbh4 (hc:X.calm=true):CallD X F (.builtin "min") (k2I fun i j=>if j<i then j else i):=cd_2I (zbh7 hc)
theorem cd_max (hc:X.calm=true):CallD X F (.builtin "max") (k2I fun i j=>if j > i then j else i):=cd_2I (zbh9 hc)
noncomputable def dSlU (hi:DE) (f:DE):DE:=fun t=>(f t).bind fun r=>(hi t).bind fun l=>match r.d,l.d with
 |.lst ds,.int i=>if r.ok||zg9 ds then some (.nw (ds.take (HT.sIx ds.length ds.length (some i)))) else none
 |_,_=>none
theorem zav6 {p2:Pos} (ha:PE X a (dE X.K F fa)) (hb:PE X b (dE X.K F fb)):PE X (.Subscript a (.Slice none (some b) none p2) pos) (dE X.K F (dSlU fb fa)):=by
 refine PE.imp (zar9 zaz4 ha po_none (zam3 hb)) ?_
 rintro σ H Q ⟨A,t,r,R,e,h⟩
 unfold dSlU at e
 cases e1:fa t with
 |none=>rw [e1]at e;cases e
 |some r1 =>
  cases e2:fb t with
  |none=>rw [e1,e2]at e;cases e
  |some r2 =>
   rw [e1,e2]at e
   refine⟨A,t,r1,R,e1,fun x H1 gs1 q1=>⟨A,t,r2,R.grow gs1,e2,fun y H2 gs2 q2=>?_⟩⟩
   have e:(match r1.d,r2.d with
    |.lst ds,.int i=>if r1.ok||zg9 ds then some (Ev.nw (ds.take (HT.sIx ds.length ds.length (some i)))) else none
    |_,_=>none)=some r:=e
   split at e
   case h_2=>cases e
   rename_i ds i z1 z2
   split at e
   case isFalse=>cases e
   rename_i c
   cases e
   have p2':=q2.full
   rw [z2]at p2'
   cases zd4 p2'
   have gs:=gs1.trans gs2
   obtain⟨p,vs,rfl,h1,h2⟩:=(q1.mono gs2).items R.mu gs z1 c
   refine⟨i,rfl,p,vs,rfl,h1,fun l hl=>h _ _ (gs.trans (zd2 hl)) ⟨l,_,rfl,Same.free gs hl,zc3,Reps.mono (zl3 hl) ?_⟩⟩
   have e:cutV vs none (some i)=vs.take (HT.sIx ds.length ds.length (some i)):=by
    unfold cutV
    rw [h2.length,HT.sIx_none]
    simp
   rw [e]
   exact h2.take _
noncomputable def zy0 (t:Th) (i:Nat) (r k:Ev):Option Out:=match t[i]?,k.d with
 |some (.own xs),.int n=>if r.ok then (ixN xs.length n).map fun j=>.nx (t.set i (.own (xs.set j r.d))) else none
 |_,_=>none
noncomputable def zk0 (i:Nat) (fk fv:DE):DS:=fun t=>(fv t).bind fun r=>(fk t).bind fun k=>zy0 t i r k
theorem zn1 (i:Nat) {x:Str}{p0 tpos:Pos} (hb:PE X b (dE X.K F fb)) (he:PE X a (dE X.K F fa)) (hN:X.N[i]?=some x:=by rfl) (hv:Vis X.env.scope x:=by first | exact Or.inl rfl | exact Or.inr (Or.inl rfl) |exact Or.inr (Or.inr rfl)) (hd:(x ==("__debug__":Str))=false:=by decide)
  (hcd:(x ==("__classdict__":Str))=false:=by decide)
  (ha:∀v,assign (.Subscript (.Name x p0) b tpos) X.env v=(do
   let ov ← holding [v] (eval (.Name x p0) X.env)
   let iv ← holding [v,ov] (eval b X.env)
   standAt tpos
   holding [v,ov,iv] (setItem ov iv v)
   release [v,ov,iv] []):=by intro _;rfl)
  (hs:swapsWithSole [.Subscript (.Name x p0) b tpos] a pos.line X.env=pure false:=by rfl) (hw:swappedStores [.Subscript (.Name x p0) b tpos] a X.env=pure none:=by rfl)
  (h1:(assignEach [.Subscript (.Name x p0) b tpos] X.env).map (·.2)=[assign (.Subscript (.Name x p0) b tpos) X.env]:=by rfl) :
  PS X (.Assign [.Subscript (.Name x p0) b tpos] a pos) (dS X.K F (zk0 i fb fa)):=by
 refine PS.imp (zba7 he (pg_sub (zr0 (i:=i) hN hv hd hcd) hb zaq5 ha) hs hw h1) ?_
 rintro E σ H ⟨A,t,o,R,e,h⟩
 unfold zk0 at e
 cases e1:fa t with
 |none=>rw [e1]at e;cases e
 |some r =>
  cases e2:fb t with
  |none=>rw [e1,e2]at e;cases e
  |some kk =>
   rw [e1,e2]at e
   have e:zy0 t i r kk=some o:=e
   unfold zy0 at e
   split at e
   case h_2=>cases e
   rename_i xs n z1 z2
   split at e
   case isFalse=>cases e
   rename_i ok
   cases e3:ixN xs.length n with
   |none=>rw [e3]at e;cases e
   |some j =>
    rw [e3]at e
    cases e
    obtain⟨p,vs,a1,a2,a3,a4⟩:=R.rel.getOwn z1
    refine⟨A,t,r,R,e1,fun y H1 gs1 q1=>⟨_,a1,A,t,kk,R.grow gs1,e2,fun w H2 gs2 q2=>?_⟩⟩
    have p2:=q2.full
    rw [z2]at p2
    cases zd4 p2
    have gs:=gs1.trans gs2
    refine⟨p,vs,n,j,rfl,rfl,gs _ _ a3,by rw [a4.length];exact e3,?_⟩
    obtain⟨R',g'⟩:=(R.grow gs).write (es:=xs.set j r.d) (ws:=vs.set j y) z1 a1 (Reps.set ((q1.mono gs2).clean R.mu gs ok) j (Reps.mono (zc7 gs) a4))
    exact h _ _ _ ((Gr.of_same R.mu.left gs).trans g') R'
end
end DL
namespace DL
open PySem.Spec L2
noncomputable def zm3:List D→Option (List Int)
 |[]=>some []
 |.int i::r=>(zm3 r).map fun ns=>i::ns
 |_::_=>none
theorem zq0:∀ {ds:List D}{ns:List Int},zm3 ds=some ns→ds=ns.map D.int
 |[],ns,e=>by cases e;rfl
 |.int i::r,ns,e=>by
  unfold zm3 at e
  cases e1:zm3 r with
  |none=>rw [e1]at e;cases e
  |some m=>rw [e1]at e;cases e;rw [zq0 e1];rfl
 |.non::r,ns,e=>by cases e
 |.bl _::r,ns,e=>by cases e
 |.str _::r,ns,e=>by cases e
 |.tup _::r,ns,e=>by cases e
 |.lst _::r,ns,e=>by cases e
theorem zm2 (ns:List Int):zm3 (ns.map D.int)=some ns:=by
 induction ns with
 |nil=>rfl
 |cons n r ih=>simp [zm3,ih]
theorem zi1 {K:zbj6}{H:Hp}:∀ {ns:List Int}{vs:List V},Reps K H (ns.map D.int) vs→vs=ns.map V.int
 |[],_,.nil=>rfl
 |n::r,_,.cons h q=>by cases zd4 h;rw [zi1 q];rfl
section
variable {X:Cx}{F:List Addr}{a b c:Expr}{es:List Expr}{fa fb fc:DE}{pos:Pos}
theorem call_sum (hc:X.calm=true):zq7 X (.builtin "sum") (fun xs H Q => ∃(p:Addr) (ns:List Int),xs=[.ref p]∧SqL X.K H p (ns.map V.int)∧Q (.int ns.sum) H):=by
 intro pins s σ H xs us Q I r h
 obtain⟨p,ns,rfl,hs,q⟩:=h
 obtain⟨u,rfl,ru⟩:=zaf9 r
 cases ru
 obtain⟨its,rv,pl,_⟩:=I.list hs
 have hi:IntsAre its ns:=zq1 rv
 obtain⟨ys,e⟩:=hi.allInts.items
 have hl:s.heap.IsList p (intItems ys):=by rw [← e];exact PlainL.isL pl
 refine sum_intListG (I.ok.hd hc) hl fun h' tk t' hk=>⟨.int _,H,I.kept (t':=tk) hk,⟨t',rfl⟩,?_⟩
 have en:=nums_intItems ys
 rw [preSum_eq,zbo1 (by simp)]
 have e2:numsOf (intItems ys).toList=ns:=by rw [← e];exact hi.numsOf
 rw [← nums_intItems,e2]
 exact q
noncomputable def kSum:List Ev→Option Ev:=fun rs=>match rs with
 |[r]=>(match r.d with
  |.lst ds=>(zm3 ds).map fun ns=>.cl (.int ns.sum)
  |_=>none)
 |_=>none
theorem zak0 (hc:X.calm=true):CallD X F (.builtin "sum") kSum:=CallD.of (call_sum hc) fun H0 H A xs rs e Q m g q ek hq=>by
 unfold kSum at ek
 split at ek
 ·rename_i r
  cases q with
  |cons q1 q2 =>
   cases q2
   split at ek
   ·rename_i ds z
    cases e1:zm3 ds with
    |none=>rw [e1]at ek;cases ek
    |some ns =>
     rw [e1]at ek
     cases ek
     have p:=q1.full
     rw [z,zq0 e1]at p
     cases p with
     |lst h1 h2 =>
      rw [zi1 h2]at h1
      exact⟨_,ns,rfl,h1,hq _ H (Same.refl H) (.int _)⟩
   ·cases ek
 ·cases ek
end
end DL
namespace DL
open PySem.Spec L2
theorem zao2 (i j:Int):eqD (.int i) (.int j)=decide (i=j):=by
 rw [zbq6,eqD_true];simp
theorem sm_iff {i:Int}:sm i=true↔i.natAbs<bnd:=by simp [sm]
theorem sm_lt {i:Int} (h:i.natAbs<2 ^ 256):sm i=true:=sm_iff.mpr (zbm4 h (by unfold bnd;exact zbu1 (by decide) (by decide)))
theorem zf0 {i:Int} (h1 : -10000000000000000000000000000000000000000000000000000000000000000000000000000<i) (h2:i<10000000000000000000000000000000000000000000000000000000000000000000000000000):sm i=true:=by
 apply sm_lt
 have:(2:Nat) ^ 256=115792089237316195423570985008687907853269984665640564039457584007913129639936:=by decide
 lia
theorem fmod_pos {a b:Int} (h:0<b):0≤a.fmod b∧a.fmod b<b:=by
 rw [Int.fmod_eq_emod_of_nonneg a (by lia)]
 exact⟨Int.emod_nonneg a (by lia),Int.emod_lt_of_pos a h⟩
theorem eqD_refl (d:D):eqD d d=true:=eqD_true.mpr rfl
theorem za8 {g1 g2:DS}{t t':Th} (h:g1 t=some (.nx t')):dSeq g1 g2 t=g2 t':=by simp [dSeq,h]
theorem seq_rt {g1 g2:DS}{t:Th}{r:Ev} (h:g1 t=some (.rt r)):dSeq g1 g2 t=some (.rt r):=by simp [dSeq,h]
theorem RepDs.length {K:zbj6}{H0 H:Hp}:∀ {ds:List D}{vs:List V}{B:List Addr},RepDs K H0 H ds vs B→vs.length=ds.length
 |_,_,_,.nil=>rfl
 |_,_,_,.cons _ r=>by simp [RepDs.length r]
theorem RSl.focusDp {K:zbj6}{H0 H:Hp}:∀ {t:Th}{σ:L2.St}{A:List Addr},RSl K H0 H t σ A→A.Nodup→∀ {i:Nat}{d:D},t[i]?=some (.dp d)→∃v B,σ[i]?=some (some v)∧(∀b∈B,b∈A)∧B.Nodup∧RepD K H0 H d v B ∧
  ∀H0' H' d2 B2,Same H0 H0'→RepD K H0' H' d2 v B2→B2.Sublist B→(∀q∈A,q∉B→∀o,H q=some o→H' q=some o)→∃A2,RSl K H0' H' (t.set i (.dp d2)) σ A2∧A2.Sublist A:=by
 intro _ _ _ h
 induction h with
 |nil =>
  intro n i d e
  simp at e
 |@no _ _ _ _ r ih =>
  intro n i d e
  cases i with
  |zero =>
   simp at e
  |succ i =>
   obtain⟨v,B,a,b,n',c,k⟩:=ih n (i:=i) (d:=d) (by simpa using e)
   refine⟨v,B,by simpa using a,b,n',c,fun H0' H' d2 B2 s q sb w=>?_⟩
   obtain⟨A2,x,y⟩:=k H0' H' d2 B2 s q sb w
   exact⟨A2,.no x,y⟩
 |@val _ v _ _ _ h r ih =>
  intro n i d e
  cases i with
  |zero =>
   simp at e
  |succ i =>
   obtain⟨v,B,a,b,n',c,k⟩:=ih n (i:=i) (d:=d) (by simpa using e)
   refine⟨v,B,by simpa using a,b,n',c,fun H0' H' d2 B2 s q sb w=>?_⟩
   obtain⟨A2,x,y⟩:=k H0' H' d2 B2 s q sb w
   exact⟨A2,.val (Rep.mono s h) x,y⟩
 |@own p _ _ _ _ _ h1 h2 r ih =>
  intro n i d e
  cases i with
  |zero =>
   simp at e
  |succ i =>
   have n0:=zbm9.mp n
   obtain⟨v,B,a,b,n',c,k⟩:=ih n0.2 (i:=i) (d:=d) (by simpa using e)
   refine⟨v,B,by simpa using a,fun x hx=>zbj9 _ (b x hx),n',c,fun H0' H' d2 B2 s q sb w=>?_⟩
   obtain⟨A2,x,y⟩:=k H0' H' d2 B2 s q sb (fun q hq=>w q (zbj9 _ hq))
   exact⟨p::A2,.own (w p (zbk2 ..) (fun z=>n0.1 (b p z)) _ h1) (Reps.mono s h2) x,y.cons₂ _⟩
 |@dp _ v C _ _ _ h r ih =>
  intro n i d e
  cases i with
  |zero =>
   simp at e;subst e
   have n0:=zbm8.mp n
   refine⟨v,C,rfl,fun x hx=>zbj7 _ hx,n0.1,h,fun H0' H' d2 B2 s q sb w=>?_⟩
   exact⟨_,.dp q (RSl.mono s r fun p hp=>w p (zbj5 _ hp) fun z=>n0.2.2 p z p hp rfl),List.Sublist.append sb (List.Sublist.refl _)⟩
  |succ i =>
   have n0:=zbm8.mp n
   obtain⟨v,B,a,b,n',c,k⟩:=ih n0.2.1 (i:=i) (d:=d) (by simpa using e)
   refine⟨v,B,by simpa using a,fun x hx=>zbj5 _ (b x hx),n',c,fun H0' H' d2 B2 s q sb w=>?_⟩
   obtain⟨A2,x,y⟩:=k H0' H' d2 B2 s q sb (fun q hq=>w q (zbj5 _ hq))
   exact⟨C++A2,.dp (RepD.mono s h fun p hp=>w p (zbj7 _ hp) fun z=>n0.2.2 p hp p (b p z) rfl) x,List.Sublist.append (List.Sublist.refl _) y⟩
noncomputable def toDn:Ev→Option D
 |.cl d=>if flat d then some d else none
 |.tm d=>if flat d then some d else none
 |.nw xs=>if zg9 xs then some (.lst xs) else none
 |.dn d=>some d
theorem RepEv.toDn {K:zbj6}{F A:List Addr}{H H':Hp}{r:Ev}{v:V}{d:D} (m:Lists H (A++F)) (g:Same H H') (h:RepEv K F A H H' r v) (e:toDn r=some d):RepEv K F A H H' (.dn d) v:=by
 cases r with
 |cl d0 =>
  simp only [DL.toDn]at e
  split at e
  ·rename_i f;cases e
   exact⟨[],zbs3,fun b hb=>(by cases hb),.flat f h⟩
  ·cases e
 |tm d0 =>
  simp only [DL.toDn]at e
  split at e
  ·rename_i f;cases e
   exact⟨[],zbs3,fun b hb=>(by cases hb),.flat f (Rep.hid (m.mono g) f (Rep.mono (zb0 _ _) h))⟩
  ·cases e
 |nw xs =>
  simp only [DL.toDn]at e
  split at e
  ·rename_i f;cases e
   obtain⟨p,vs,rfl,h1,h2,h3⟩:=h
   exact⟨[p],by simp,fun b hb=>by simp at hb;subst hb;exact h1,.lst h2 (RepDs.of_flat f h3)⟩
  ·cases e
 |dn d0=>cases e;exact h
noncomputable abbrev DN:=Th→Option (D×List Nat)
noncomputable abbrev DNs:=Th→Option (List D×List Nat)
noncomputable def FromN (H:Hp) (t:Th) (σ:L2.St) (I:List Nat) (b:Addr):Prop:=H b=none∨∃i∈I,∃xs,t[i]?=some (.own xs)∧σ[i]?=some (some (.ref b))
noncomputable def dN (K:zbj6) (F:List Addr) (f:DN):TE:=fun σ H Q => ∃A t d I,RS K F H A t σ∧f t=some (d,I)∧∀v H' B,Same H H'→B.Nodup→(∀b∈B,FromN H t σ I b)→RepD K (hide (B++(A++F)) H') H' d v B→Q v H'
noncomputable def dNs (K:zbj6) (F:List Addr) (f:DNs):TA:=fun σ H Q => ∃A t ds I,RS K F H A t σ∧f t=some (ds,I)∧∀vs H' B,Same H H'→B.Nodup→(∀b∈B,FromN H t σ I b)→RepDs K (hide (B++(A++F)) H') H' ds vs B→Q vs H'
theorem RSl.ownUniq {K:zbj6}{H0 H:Hp}{b:Addr}:∀ {t:Th}{σ:L2.St}{A:List Addr},RSl K H0 H t σ A→A.Nodup→∀ {i j:Nat}{xs ys:List D},t[i]?=some (.own xs)→t[j]?=some (.own ys)→σ[i]?=some (some (.ref b))→σ[j]?=some (some (.ref b))→i=j:=by
 intro _ _ _ h
 induction h with
 |nil =>
  intro w0 i j xs ys e1 e2 s1 s2
  simp at e1
 |@no _ _ _ _ r ih =>
  intro n i j xs ys e1 e2 s1 s2
  cases i with
  |zero =>
   simp at e1
  |succ i =>
   cases j with
   |zero =>
    simp at e2
   |succ j =>
    exact congrArg (· + 1) (ih n (i:=i) (j:=j) (xs:=xs) (ys:=ys) (by simpa using e1) (by simpa using e2) (by simpa using s1) (by simpa using s2))
 |@val _ _ _ _ _ _ r ih =>
  intro n i j xs ys e1 e2 s1 s2
  cases i with
  |zero =>
   simp at e1
  |succ i =>
   cases j with
   |zero =>
    simp at e2
   |succ j =>
    exact congrArg (· + 1) (ih n (i:=i) (j:=j) (xs:=xs) (ys:=ys) (by simpa using e1) (by simpa using e2) (by simpa using s1) (by simpa using s2))
 |@own _ _ _ _ _ _ _ _ r ih =>
  intro n i j xs ys e1 e2 s1 s2
  cases i with
  |zero =>
   cases j with
   |zero =>
    exact rfl
   |succ j =>
    obtain⟨p,vs,a1,a2,_⟩:=r.getOwn (i:=j) (ds:=ys) (by simpa using e2)
    simp at s1 s2
    rw [a1]at s2
    simp at s2
    subst s1;subst s2
    exact absurd a2 (zbm9.mp n).1
  |succ i =>
   cases j with
   |zero =>
    obtain⟨p,vs,a1,a2,_⟩:=r.getOwn (i:=i) (ds:=xs) (by simpa using e1)
    simp at s1 s2
    rw [a1]at s1
    simp at s1
    subst s1;subst s2
    exact absurd a2 (zbm9.mp n).1
   |succ j =>
    exact congrArg (· + 1) (ih (zbm9.mp n).2 (i:=i) (j:=j) (xs:=xs) (ys:=ys) (by simpa using e1) (by simpa using e2) (by simpa using s1) (by simpa using s2))
 |@dp _ _ _ _ _ _ _ r ih =>
  intro n i j xs ys e1 e2 s1 s2
  cases i with
  |zero =>
   simp at e1
  |succ i =>
   cases j with
   |zero =>
    simp at e2
   |succ j =>
    exact congrArg (· + 1) (ih (zbm8.mp n).2.1 (i:=i) (j:=j) (xs:=xs) (ys:=ys) (by simpa using e1) (by simpa using e2) (by simpa using s1) (by simpa using s2))
section
variable {X:Cx}{F:List Addr}{a b c o:Expr}{es:List Expr}{fa fb fc:DE}{fs:List DE}{fn:DN}{fns:DNs}{pos:Pos}
noncomputable def nOf (f:DE):DN:=fun t=>(f t).bind fun r=>(toDn r).map fun d=>(d,[])
theorem pn_of (he:PE X a (dE X.K F fa)):PE X a (dN X.K F (nOf fa)):=by
 refine PE.imp he ?_
 rintro σ H Q ⟨A,t,d,I,R,e,h⟩
 unfold nOf at e
 cases e1:fa t with
 |none=>rw [e1]at e;cases e
 |some r =>
  rw [e1]at e
  simp only [zbk3]at e
  cases e2:toDn r with
  |none=>rw [e2]at e;cases e
  |some d0 =>
   rw [e2]at e
   cases e
   refine⟨A,t,r,R,e1,fun v H' gs q=>?_⟩
   obtain⟨B,b1,b2,b3⟩:=q.toDn R.mu gs e2
   exact h v H' B gs b1 (fun b hb=>.inl (b2 b hb)) b3
noncomputable def nNil:DNs:=fun _=>some ([],[])
noncomputable def zae1 (f:DN) (g:DNs):DNs:=fun t=>(f t).bind fun q=>(g t).bind fun w=>if q.2.all (fun i=>!w.2.contains i) then some (q.1::w.1,q.2++w.2) else none
theorem pns_nil:PA X [] (dNs X.K F nNil):=PA.imp zr1 fun σ H Q ⟨A,t,rs,I,R,e,h⟩=>by cases e;exact h [] H [] (Same.refl H) zbs3 (fun b hb=>by cases hb) .nil
theorem zar8 (ha:PE X a (dN X.K F fn)) (hr:PA X es (dNs X.K F fns)) (hs:zbm0 (a::es) X.env=(false,eval a X.env)::zbm0 es X.env:=by rfl):PA X (a::es) (dNs X.K F (zae1 fn fns)):=by
 refine PA.imp (zh2 ha hr hs) ?_
 rintro σ H Q ⟨A,t,ds,I,R,e,h⟩
 unfold zae1 at e
 cases e1:fn t with
 |none=>rw [e1]at e;cases e
 |some q1 =>
  cases e2:fns t with
  |none=>rw [e1,e2]at e;cases e
  |some q2 =>
   obtain⟨d1,I1⟩:=q1
   obtain⟨ds2,I2⟩:=q2
   rw [e1,e2]at e
   simp only [zbk3]at e
   split at e
   case isFalse=>cases e
   rename_i dj
   cases e
   have dj:∀i∈I1,i∉I2:=fun i hi=>by
    have:=zbq0.mp dj i hi
    simpa using this
   refine⟨A,t,d1,I1,R,e1,fun v H1 B1 g1 n1 f1 r1=>⟨A,t,ds2,I2,R.grow g1,e2,fun vs H2 B2 g2 n2 f2 r2=>?_⟩⟩
   have g:=g1.trans g2
   have l1:=r1.lists
   have l1':Lists H2 B1:=l1.mono g2
   have l2:=r2.lists
   have lA:=R.mu.mono g
   refine h _ H2 (B1++B2) g (zbm8.mpr ⟨n1,n2,fun x hx y hy e=>?_⟩) (fun b hb=>?_) (.cons (RepD.hid ((l1'.app l2).app lA) (zb0 _ _) (RepD.mono (zc7 g2) r1 fun _ _ _ w=>g2 _ _ w)) (RepDs.hid ((l1'.app l2).app lA) (zb0 _ _) r2))
   ·subst e
    obtain⟨ws,hw⟩:=l1 x hx
    rcases f2 x hy with z | ⟨j,hj,ys,j1,j2⟩
    ·rw [z]at hw;cases hw
    ·rcases f1 x hx with z | ⟨i,hi,xs,i1,i2⟩
     ·obtain⟨p,us,a1,_,a3,_⟩:=R.rel.getOwn j1
      rw [a1]at j2
      simp at j2
      subst j2
      rw [z]at a3;cases a3
     ·have:=R.rel.ownUniq R.nd i1 j1 i2 j2
      subst this
      exact dj i hi hj
   ·rcases zbk1.mp hb with z | z
    ·rcases f1 b z with w | ⟨i,hi,w⟩
     ·exact .inl w
     ·exact .inr ⟨i,zbj7 _ hi,w⟩
    ·rcases f2 b z with w | ⟨i,hi,w⟩
     ·exact .inl (Same.free g1 w)
     ·exact .inr ⟨i,zbj5 _ hi,w⟩
end
end DL
namespace DL
open PySem.Spec L2
section
variable {X:Cx}{F:List Addr}{a b c o:Expr}{es:List Expr}{fa fb fc:DE}{fs:List DE}{ga:DA}{g g1 g2:DS}{ft fu:DT}{pos:Pos}{st:Stmt}{rest:List Stmt}{tg:Expr}{gt:TG}{kt:D→Th→Option Th}
theorem rep_bl {K:zbj6}{H:Hp}{p:Bool}{v:V} (h:Rep K H (.bl p) v):v=.bl p:=by cases h;rfl
noncomputable def kRep:Ev→Ev→Option Ev:=fun r1 r2=>match r1,r2.d with
 |.nw xs,.int k=>if xs.length≤100&&decide (-1000000≤k∧k≤1000) then some (.nw (zbl4 k.toNat xs).flatten) else none
 |_,_=>none
theorem Reps.rep {K:zbj6}{H:Hp}{ds:List D}{vs:List V} (r:Reps K H ds vs):∀k:Nat,Reps K H (zbl4 k ds).flatten (zbl4 k vs).flatten
 |0=>by simpa using .nil
 |k+1=>by simpa [zbp4] using r.app (Reps.rep r k)
theorem zj8:OpD X F (binaryOp .Mult) kRep:=by
 intro pins s σ H0 H A x y v u Q r1 r2 r I m g0 rx ry q1 q2 e hq
 unfold kRep at e
 split at e
 ·rename_i xs k z
  split at e
  ·rename_i ok
   simp only [zbk7,decide_eq_true_eq]at ok
   cases e
   have p2:=q2.full
   rw [z]at p2
   cases zd4 p2
   obtain⟨p,vs,rfl,h1,h2,h3⟩:=q1
   refine op_rep pins s σ H _ _ v u Q I rx ry ⟨p,k,vs,rfl,rfl,h2,by lia,by lia,?_,fun l hl=>hq _ _ (zd2 hl) ⟨l,_,rfl,Same.free g0 hl,zc3,Reps.mono (zl3 hl) (Reps.rep (Reps.mono (zb2 H fun a z=>zbj9 _ z) h3) _)⟩⟩
   refine le_line ?_
   rw [h3.length]
   have h5:k.toNat≤1000:=by lia
   exact zbq4 (Nat.mul_le_mul ok.1 h5) (by decide)
  ·cases e
 ·cases e
noncomputable def blsD:List D→Option (List Bool)
 |[]=>some []
 |.bl i::r=>(blsD r).map fun ns=>i::ns
 |_::_=>none
theorem zbi3:∀ {ds:List D}{ns:List Bool},blsD ds=some ns→ds=ns.map D.bl
 |[],ns,e=>by cases e;rfl
 |.bl i::r,ns,e=>by
  unfold blsD at e
  cases e1:blsD r with
  |none=>rw [e1]at e;cases e
  |some m=>rw [e1]at e;cases e;rw [zbi3 e1];rfl
 |.non::r,ns,e=>by cases e
 |.int _::r,ns,e=>by cases e
 |.str _::r,ns,e=>by cases e
 |.tup _::r,ns,e=>by cases e
 |.lst _::r,ns,e=>by cases e
theorem zar0 {K:zbj6}{H:Hp}:∀ {ns:List Bool}{vs:List V},Reps K H (ns.map D.bl) vs→vs=ns.map V.bl
 |[],_,.nil=>rfl
 |n::r,_,.cons h q=>by cases rep_bl h;rw [zar0 q];rfl
theorem zaf5:∀ {bs:List Bool}{its:List Value},Vals (bs.map V.bl) its→LSm.BoolsAre its bs
 |[],its,h=>by cases h;exact .nil
 |b::bs,its,h=>by
  cases h with
  |cons r rr=>cases r;exact .cons b (zaf5 rr)
theorem zl6 (hc:X.calm=true):zq7 X (.builtin "all") (fun xs H Q => ∃(p:Addr) (bs:List Bool),xs=[.ref p]∧SqL X.K H p (bs.map V.bl)∧Q (.bl (bs.all id)) H):=by
 intro pins s σ H xs us Q I r h
 obtain⟨p,bs,rfl,hs,q⟩:=h
 obtain⟨u,rfl,ru⟩:=zaf9 r
 cases ru
 obtain⟨its,rv,pl,_⟩:=I.list hs
 have hb:=zaf5 rv
 have hl:=PlainL.isL pl
 have hlt:p<s.heap.objs.size:=by obtain⟨_,e,_⟩:=hl;exact zbl0 e
 refine call_all_walk (wpAny_pyIter_list hl ⟨s.heap.objs.size,[s.heap.objs.size,p],[s.heap.objs.size],its.toArray.size,_,_,fun i=>(bs[i]?).getD true,rfl,
  Walks.list (A:=X.A.in1) (I.ok.hd hc) _ p (zbn1 hlt) its.toArray,⟨⟨_,zbl2 _ rfl,rfl,rfl⟩,hl.push _⟩,fun i v s' Q' E' hP hQ=>?_,fun h' tk hk=>?_⟩)
 ·obtain⟨b,e,rfl⟩:=hb.get i v (by simpa using hP)
  have hQ:Q' ((bs[i]?).getD true) s':=hQ
  rw [e]at hQ
  exact wpAny_truthy_bool hQ
 ·have e:((zbo3 its.toArray.size).all fun i=>(bs[i]?).getD true)=bs.all id:=by
   rw [zbl6,hb.length,LSm.range_all]
  refine⟨.bl _,H,I.kept (t':=tk) (LSm.kept_iter hk),rfl,?_⟩
  rw [e];exact q
theorem zaa7 (hc:X.calm=true):zq7 X (.builtin "any") (fun xs H Q => ∃(p:Addr) (bs:List Bool),xs=[.ref p]∧SqL X.K H p (bs.map V.bl)∧Q (.bl (bs.any id)) H):=by
 intro pins s σ H xs us Q I r h
 obtain⟨p,bs,rfl,hs,q⟩:=h
 obtain⟨u,rfl,ru⟩:=zaf9 r
 cases ru
 obtain⟨its,rv,pl,_⟩:=I.list hs
 have hb:=zaf5 rv
 have hl:=PlainL.isL pl
 have hlt:p<s.heap.objs.size:=by obtain⟨_,e,_⟩:=hl;exact zbl0 e
 refine call_any_walk (wpAny_pyIter_list hl ⟨s.heap.objs.size,[s.heap.objs.size,p],[s.heap.objs.size],its.toArray.size,_,_,fun i=>(bs[i]?).getD false,rfl,
  Walks.list (A:=X.A.in1) (I.ok.hd hc) _ p (zbn1 hlt) its.toArray,⟨⟨_,zbl2 _ rfl,rfl,rfl⟩,hl.push _⟩,fun i v s' Q' E' hP hQ=>?_,fun h' tk hk=>?_⟩)
 ·obtain⟨b,e,rfl⟩:=hb.get i v (by simpa using hP)
  have hQ:Q' ((bs[i]?).getD false) s':=hQ
  rw [e]at hQ
  exact wpAny_truthy_bool hQ
 ·have e:((zbo3 its.toArray.size).any fun i=>(bs[i]?).getD false)=bs.any id:=by
   rw [zbl6,hb.length,LSm.range_any]
  refine⟨.bl _,H,I.kept (t':=tk) (LSm.kept_iter hk),rfl,?_⟩
  rw [e];exact q
noncomputable def kBls (f:List Bool→Bool):List Ev→Option Ev:=fun rs=>match rs with
 |[r]=>(match r.d with
  |.lst ds=>(blsD ds).map fun bs=>.cl (.bl (f bs))
  |_=>none)
 |_=>none
theorem zat3 {id':String}{f:List Bool→Bool} (h:zq7 X (.builtin id') (fun xs H Q => ∃(p:Addr) (bs:List Bool),xs=[.ref p]∧SqL X.K H p (bs.map V.bl)∧Q (.bl (f bs)) H)):CallD X F (.builtin id') (kBls f):=by
 refine CallD.of h fun H0 H A xs rs e Q m g q ek hq=>?_
 unfold kBls at ek
 split at ek
 case h_2=>cases ek
 rename_i r
 cases q with
 |@cons _ v _ vs q1 q2 =>
  cases q2
  split at ek
  case h_2=>cases ek
  rename_i ds z
  cases e1:blsD ds with
  |none=>rw [e1]at ek;cases ek
  |some bs =>
   rw [e1]at ek
   cases ek
   have p:=q1.full
   rw [z,zbi3 e1]at p
   cases p with
   |@lst _ l us h1 h2 =>
    have:=zar0 h2
    subst this
    exact⟨l,bs,rfl,h1,hq _ H (Same.refl H) (.bl _)⟩
end
end DL
namespace DL
open PySem.Spec L2
noncomputable def zx1 (a b c:Int):Bool:=Builtin.Range.small a b c&&decide (c≠0∧c.natAbs<1000000∧0≤Builtin.Range.rangeSize a b c)
noncomputable def rng3 (a b c:Int):List D:=(zbo3 (Builtin.Range.rangeSize a b c).toNat).map fun i=>.int (a+(i:Nat)*c)
noncomputable def mkG (k:Nat) (N:List Str) (g:DS):List D→Option Ev:=fun ds=>if ds.length=k then (g (zab1 N ds)).bind zj2 else none
theorem zf8 {k:Nat}{N:List Str}{g:DS}{ds:List D}{r:Ev} (e:mkG k N g ds=some r):ds.length=k:=by
 unfold mkG at e
 split at e
 ·assumption
 ·cases e
theorem zi7 {k:Nat}{N:List Str}{g:DS}{ds:List D}{r:Ev} (e:mkG k N g ds=some r):∃o,g (zab1 N ds)=some o∧zj2 o=some r:=by
 unfold mkG at e
 split at e
 ·cases e1:g (zab1 N ds) with
  |none=>rw [e1]at e;cases e
  |some o=>rw [e1]at e;exact⟨o,rfl,e⟩
 ·cases e
section
variable {X:Cx}{F:List Addr}{elt tg iter:Expr}{ifs:List Expr}{scope:Scope}{pos spos py:Pos}{fs:DI}{g:TG}{kt:D→Th→Option Th}{ft:DT}{fe fc:DE}{i:Nat}{y:Str}
theorem compU {n:Nat}{cap:List Nat}{N':List Str} (up:∀ {σ:L2.St}{H:Hp}{Q:VK},dE X.K F fc σ H Q→zay9 n cap (dI X.K F fs) g (fun σ H Q => ∃F',dT X.K F' ft σ H Q) (fun σ H Q => ∃F',dE X.K F' fe σ H Q) σ H Q) (hc:X.calm=true) (hi:PI X tg iter (dI X.K F fs))
  (hg:∀C s₃ H₃ fp pins,PG (blk X N' scope C s₃ H₃ fp pins) tg g) (ht:∀C s₃ H₃ fp pins F',PTs (blk X N' scope C s₃ H₃ fp pins) ifs (dT X.K F' ft)) (he:∀C s₃ H₃ fp pins F',PE (blk X N' scope C s₃ H₃ fp pins) elt (dE X.K F' fe))
  (hNd:X.N.Nodup) (hi₀:X.N[i]?=some y) (hy:Loc X.env.scope y) (hsw:swapsWith (.ListComp elt [⟨tg,iter,ifs,0⟩] scope pos) (some (.Name y py)) spos.line X.env=pure true) (hf:X.fn y=true∨X.env.scope.names.lookup y=some .local)
  (hkd:scope.kind=.function) (hcs:zas9 scope.names X.env.kindOf=true) (hN:N'.length=n+cap.length) (hcap:zax3 N' X.N n scope.names 0 cap=true) (hs:∀x,foldedSetIterable iter X.env x=pure x) :
  PS X (.Assign [.Name y py] (.ListComp elt [⟨tg,iter,ifs,0⟩] scope pos) spos) (dS X.K F (dAsg i fc)):=by
 refine PS.imp (ps_compU (g:=g) (wi:=dI X.K F fs) (tt:=fun σ H Q => ∃F',dT X.K F' ft σ H Q) (te:=fun σ H Q => ∃F',dE X.K F' fe σ H Q) (compSc hkd hcs) hc hi hN (fun k j e=>by simpa using zaf4 hcap k j e) hg (fun C s₃ H₃ fp pins pins' s σ H Q I ⟨F',q⟩=>ht C s₃ H₃ fp pins F' pins' s σ H Q I q) (fun C s₃ H₃ fp pins pins' s σ H Q I ⟨F',q⟩=>he C s₃ H₃ fp pins F' pins' s σ H Q I q) hNd hi₀ hy hsw hf hs) ?_
 rintro E σ H ⟨A,t,o,R,e,h⟩
 unfold dAsg at e
 cases e1:fc t with
 |none=>rw [e1]at e;cases e
 |some r1 =>
  rw [e1]at e
  have e:(zs3 t i r1).map Out.nx=some o:=e
  cases e2:zs3 t i r1 with
  |none=>rw [e2]at e;cases e
  |some t' =>
   rw [e2]at e
   cases e
   refine up ⟨A,t,r1,R,e1,fun v H' gs q=>?_⟩
   obtain⟨A',g',R'⟩:=R.put gs q e2
   exact h _ _ _ g' R'
theorem psd_setC (n:Nat) (cap:List Nat) (N':List Str) (hNd:X.N.Nodup) (hi₀:X.N[i]?=some y) (hy:Loc X.env.scope y) (hc:X.calm=true) (hi:PI X tg iter (dI X.K F fs))
  (hg:∀C s₃ H₃ fp pins,PG (blk X N' scope C s₃ H₃ fp pins) tg g) (hk:∀F',TgOk X.K F' g kt) (ht:∀C s₃ H₃ fp pins F',PTs (blk X N' scope C s₃ H₃ fp pins) ifs (dT X.K F' ft)) (he:∀C s₃ H₃ fp pins F',PE (blk X N' scope C s₃ H₃ fp pins) elt (dE X.K F' fe))
  (hsw:swapsWith (.ListComp elt [⟨tg,iter,ifs,0⟩] scope pos) (some (.Name y py)) spos.line X.env=pure true:=by rfl) (hf:X.fn y=true∨X.env.scope.names.lookup y=some .local:=by first | exact .inl rfl | exact .inr rfl)
  (hkd:scope.kind=.function:=by rfl) (hcs:zas9 scope.names X.env.kindOf=true:=by rfl) (hN:N'.length=n+cap.length:=by rfl) (hcap:zax3 N' X.N n scope.names 0 cap=true:=by rfl)
  (hs:∀x,foldedSetIterable iter X.env x=pure x:=by intro _;rfl):PS X (.Assign [.Name y py] (.ListComp elt [⟨tg,iter,ifs,0⟩] scope pos) spos) (dS X.K F (dAsg i (ze6 n cap fs kt ft fe))) :=
 compU (fun h=>zaq0 hk h) hc hi hg ht he hNd hi₀ hy hsw hf hkd hcs hN hcap hs
end
end DL
namespace DL
open PySem.Spec L2
section
variable {X:Cx}{F:List Addr}{a b c o:Expr}{es:List Expr}{fa fb fc:DE}{fs:List DE}{ga:DA}{g g1 g2:DS}{ft fu:DT}{pos:Pos}{st:Stmt}{rest:List Stmt}{tg:Expr}{gt:TG}{kt:D→Th→Option Th}
noncomputable def leastI:Int→List Int→Int
 |m,[]=>m
 |m,n::r=>leastI (if n<m then n else m) r
noncomputable def zo1:Int→List Int→Int
 |m,[]=>m
 |m,n::r=>zo1 (if m<n then n else m) r
theorem zae2:∀(r:List Int) (m:Int),zo1 m r∈m::r∧∀a∈m::r,a≤zo1 m r
 |[],m=>⟨by simp [zo1],by simp [zo1]⟩
 |n::r,m=>by
  obtain⟨h1,h2⟩:=zae2 r (if m<n then n else m)
  have h3:=h2 (if m<n then n else m) (zbk2 ..)
  have k1:m≤(if m<n then n else m):=by split<;>lia
  have k2:n≤(if m<n then n else m):=by split<;>lia
  refine⟨?_,fun a ha=>?_⟩
  ·show zo1 (if m<n then n else m) r∈m::n::r
   rcases zbk5.mp h1 with z | z
   ·rw [z];split<;>simp
   ·simp [z]
  ·show a≤zo1 (if m<n then n else m) r
   rcases zbk5.mp ha with z | z
   ·subst z;lia
   ·rcases zbk5.mp z with w | w
    ·subst w;lia
    ·exact h2 a (zbj9 _ w)
theorem zbc5 {ys:Array (Int×Tok)}{j:Nat} (hj:j<ys.size):numAt ys j∈ys.toList.map (·.1):=by
 rw [numAt_eq];exact getD_mem (by simpa using hj)
theorem zbh8 (hc:X.calm=true):zq7 X (.builtin "max") (fun xs H Q => ∃(p:Addr) (ns:List Int) (M:Int),xs=[.ref p]∧SqL X.K H p (ns.map V.int)∧M∈ns∧(∀a∈ns,a≤M)∧Q (.int M) H):=by
 intro pins s σ H xs us Q I r h
 obtain⟨p,ns,M,rfl,hs,hm,hle,q⟩:=h
 obtain⟨u,rfl,ru⟩:=zaf9 r
 cases ru
 obtain⟨its,rv,pl,_⟩:=I.list hs
 have hi:IntsAre its ns:=zq1 rv
 obtain⟨ys,e⟩:=hi.allInts.items
 have hl:s.heap.IsList p (intItems ys):=by rw [← e];exact PlainL.isL pl
 have hns:ys.toList.map (·.1)=ns:=by
  have e2:numsOf (intItems ys).toList=ns:=by rw [← e];exact hi.numsOf
  rw [← nums_intItems];exact e2
 have hsz:0<ys.size:=by
  have:0<ns.length:=zca3 hm
  rw [← hns]at this;simpa using this
 refine max_intList (I.ok.hd hc) hl hsz fun v h' tk hv hk=>?_
 obtain⟨t,rfl⟩:=intItems_at hv
 obtain⟨h1,h2⟩:=argBest_gt (numAt ys) (ys.size - 1)
 refine⟨.int M,H,I.kept (t':=tk) hk,⟨t,?_⟩,q⟩
 have a1:=hle _ (hns ▸ zbc5 (ys:=ys) (j:=argBest (fun i j=>decide (numAt ys i > numAt ys j)) (ys.size - 1)) (by lia))
 rw [← hns]at hm
 obtain⟨j,hj,ej⟩:=mem_getD hm
 have hj':j<ys.size:=by simpa using hj
 have a2:=h2 j (by lia)
 rw [numAt_eq ys j,ej]at a2
 congr 1
 lia
end
end DL
namespace DL
open PySem.Spec L2
section
variable {X:Cx}{F:List Addr}{a b c o:Expr}{es:List Expr}{fa fb fc:DE}{fs:List DE}{ga:DA}{g g1 g2:DS}{ft fu:DT}{pos:Pos}{st:Stmt}{rest:List Stmt}{tg:Expr}{gt:TG}{kt:D→Th→Option Th}
noncomputable def zaw6 (f:Int→List Int→Int):List Ev→Option Ev:=fun rs=>match rs with
 |[r]=>(match r.d with
  |.lst ds=>(match zm3 ds with
   |some (n::ns)=>some (.cl (.int (f n ns)))
   |_=>none)
  |_=>none)
 |_=>none
theorem cd_extr {id':String}{f:Int→List Int→Int} (h:∀n ns,zq7 X (.builtin id') (fun xs H Q => ∃p:Addr,xs=[.ref p]∧SqL X.K H p ((n::ns).map V.int)∧Q (.int (f n ns)) H)):CallD X F (.builtin id') (zaw6 f):=by
 intro pins s σ H0 H A xs us Q rs r I m g v q ek hq
 unfold zaw6 at ek
 split at ek
 case h_2=>cases ek
 rename_i r0
 cases q with
 |@cons _ y _ ys q1 q2 =>
  cases q2
  split at ek
  case h_2=>cases ek
  rename_i ds z
  split at ek
  case h_2=>cases ek
  rename_i n ns z2
  cases ek
  have p:=q1.full
  rw [z,zq0 z2]at p
  cases p with
  |@lst _ l ws h1 h2 =>
   rw [zi1 h2]at h1
   exact h n ns pins s σ H _ us Q I v ⟨l,rfl,h1,hq _ H (Same.refl H) (.int _)⟩
theorem cd_maxL (hc:X.calm=true):CallD X F (.builtin "max") (zaw6 zo1) :=
 cd_extr fun n ns pins s σ H xs us Q I v ⟨p,e,h1,q⟩=>zbh8 hc pins s σ H xs us Q I v ⟨p,n::ns,zo1 n ns,e,h1,(zae2 ns n).1,(zae2 ns n).2,q⟩
theorem zax4:bootBuiltins "list"=some (.type "list"):=by decide +kernel
theorem vals_get:∀ {xs:List V}{us:List Value},xs.length=us.length→(∀(i:Nat) (x:V) (u:Value),xs[i]?=some x→us[i]?=some u→RelV x u)→Vals xs us
 |[],[],_,_=>.nil
 |[],_::_,h,_=>by simp at h
 |_::_,[],h,_=>by simp at h
 |x::xs,u::us,h,k=>.cons (k 0 x u rfl rfl) (vals_get (by simpa using h) fun i y w e1 e2=>k (i+1) y w (by simpa using e1) (by simpa using e2))
theorem zaw7 {lo k:Int}{n:Nat}{acc:Array Value} (h:ItemsOf (fun i v => ∃t,v=.int (lo+i*k) t) acc n):Vals ((zbo3 n).map fun i=>V.int (lo+(i:Nat)*k)) acc.toList:=by
 refine vals_get (by simp [h.1]) fun i x u e1 e2=>?_
 obtain⟨t,rfl⟩:=h.2 i u (by simpa using e2)
 have hi:i<n:=by
  cases Nat.lt_or_ge i n with
  |inl z=>exact z
  |inr z=>rw [zbp6,zbr8 (by simpa using z)]at e1;cases e1
 rw [zbp6,zcb7 hi]at e1
 simp at e1
 subst e1
 exact⟨t,rfl⟩
theorem zae4 {pins:List (Addr×Obj)}{σ:L2.St}{H:Hp}{s:zbk8}{Q:VK}{lo hi k:Int}{t u v:Tok}{tk:Nat} (hc:X.calm=true) (I:L2.Inv X pins σ H s) (ok:zx1 lo hi k=true) (sz:Builtin.Range.rangeSize lo hi k≤50000)
  (q:∀p,H p=none→Q (.ref p) (upd H p (.lst ((zbo3 (Builtin.Range.rangeSize lo hi k).toNat).map fun i=>V.int (lo+(i:Nat)*k))))) :
  wpAny (model X.prog X.w) X.A (call (.type "list") [.ref s.heap.objs.size]) (EP X pins σ Q) X.xe { s with heap:=s.heap.push { cls:=.type "range",data:=.fields #[.int lo t,.int hi u,.int k v] },toks:=tk }:=by
 simp only [zx1,zbk7,decide_eq_true_eq]at ok
 have I1:L2.Inv X pins σ H { s with heap:=s.heap.push { cls:=.type "range",data:=.fields #[.int lo t,.int hi u,.int k v] },toks:=tk }:=I.kept fun b o e=>zbk0 _ e
 have en:Builtin.Range.rangeSize lo hi k=(((Builtin.Range.rangeSize lo hi k).toNat:Nat):Int):=by lia
 refine call_list_range (I.ok.hd hc) (IsRange.new ..) ok.1 en (by lia) fun h' tk' acc c' hk hS hacc=>?_
 refine⟨.ref _,_,I1.laid (o:=HO.lst ((zbo3 (Builtin.Range.rangeSize lo hi k).toNat).map fun i=>V.int (lo+(i:Nat)*k))) (t':=tk') hk (zbl3 _) ⟨?_,acc.toList,c',zaw7 hacc,by simpa using hS⟩,rfl,q _ I1.fresh⟩
 refine le_line ?_
 rw [zbm6,zbs6];lia
noncomputable def rArgs:List D→Option (Int×Int×Int)
 |[.int n]=>some (0,n,1)
 |[.int i,.int j]=>some (i,j,1)
 |[.int i,.int j,.int k]=>some (i,j,k)
 |_=>none
noncomputable def zv8 (g:DA):DE:=fun t=>(g t).bind fun rs=>(rArgs (rs.map Ev.d)).bind fun q=>if zx1 q.1 q.2.1 q.2.2&&decide (Builtin.Range.rangeSize q.1 q.2.1 q.2.2≤50000) then some (.nw (rng3 q.1 q.2.1 q.2.2)) else none
theorem zbb9 {p0 p1 p2:Pos} (hc:X.calm=true) (hgl:Gl X "list") (hml:X.mg "list"=none) (hgr:Gl X "range") (hmr:X.mg "range"=none) (ha:PA X (a::es) (dA X.K F ga))
  (hst:zbm0 [.Call (.Name "range" p1) (a::es) [] p2] X.env=[(false,eval (.Call (.Name "range" p1) (a::es) [] p2) X.env)]:=by rfl)
  (hst1:zbm0 (a::es) X.env=(false,eval a X.env)::zbm0 es X.env:=by rfl) (hst2:(zbt6 p2 (zbm0 es X.env)).any (·.1)=false:=by rfl) :
  PE X (.Call (.Name "list" p0) [.Call (.Name "range" p1) (a::es) [] p2] [] pos) (dE X.K F (zv8 ga)):=by
 intro pins s σ H Q I h
 obtain⟨A,t,r,R,e,h⟩:=h
 unfold zv8 at e
 cases e1:ga t with
 |none=>rw [e1]at e;cases e
 |some rs =>
  rw [e1]at e
  simp only [zbk3]at e
  cases e2:rArgs (rs.map Ev.d) with
  |none=>rw [e2]at e;cases e
  |some q =>
   rw [e2]at e
   simp only [zbk3]at e
   split at e
   case isFalse=>cases e
   rename_i ok
   simp only [zbk7,decide_eq_true_eq]at ok
   cases e
   have mk:∀(H1:Hp),Same H H1→∀p,H1 p=none→Q (.ref p) (upd H1 p (.lst ((zbo3 (Builtin.Range.rangeSize q.1 q.2.1 q.2.2).toNat).map fun i=>V.int (q.1+(i:Nat)*q.2.2)))):=fun H1 g1 p hp=>by
    refine h _ _ (g1.trans (zd2 hp)) ⟨p,_,rfl,Same.free g1 hp,zc3,?_⟩
    have e3:rng3 q.1 q.2.1 q.2.2=((zbo3 (Builtin.Range.rangeSize q.1 q.2.1 q.2.2).toNat).map fun i=>q.1+(i:Nat)*q.2.2).map D.int:=by simp [rng3]
    have e4:((zbo3 (Builtin.Range.rangeSize q.1 q.2.1 q.2.2).toNat).map fun i=>V.int (q.1+(i:Nat)*q.2.2))=((zbo3 (Builtin.Range.rangeSize q.1 q.2.1 q.2.2).toNat).map fun i=>q.1+(i:Nat)*q.2.2).map V.int:=by simp
    rw [e3,e4]
    exact Reps.ints _
   refine wpAny_Call_Name_kw (zn7 I hgl hml zax4 (PyProof.Rows.callWith_type1 ?_ (by rw [hst];rfl) rfl))
   rw [hst]
   show wpAny _ _ (spliced ((false,eval (.Call (.Name "range" p1) (a::es) [] p2) X.env)::zbt6 pos (zbm0 [] X.env))) _ _ s
   refine Calls.spliced_cons (Call_ (zn7 I hgr hmr boot_range (PyProof.Rows.callWith_type1 (thn (ha p2 pins s σ H (fun vs H1=>Same H H1∧RepEvs X.K F A H H1 rs vs) I ⟨A,t,rs,R,e1,fun vs H1 g1 q1=>⟨g1,q1⟩⟩) fun us s1 ⟨vs,H1,I1,r1,g1,q1⟩=>?_) hst1 hst2)))
   have full:=q1.full
   obtain⟨q0,qh,qk⟩:=q
   unfold rArgs at e2
   split at e2
   ·rename_i n z
    cases e2
    rw [z]at full
    have ev:=zi1 (ns:=[qh]) full
    subst ev
    obtain⟨u,rfl,ru⟩:=r1.one
    obtain⟨t1,rfl⟩:=ru
    exact call_range_1 (Calls.spliced_nil (zae4 hc I1 ok.1 ok.2 (mk H1 g1)))
   ·rename_i i j z
    cases e2
    rw [z]at full
    have ev:=zi1 (ns:=[q0,qh]) full
    subst ev
    obtain⟨u,w,rfl,ru,rw'⟩:=r1.two
    obtain⟨t1,rfl⟩:=ru
    obtain⟨t2,rfl⟩:=rw'
    exact call_range_2 (Calls.spliced_nil (zae4 hc I1 ok.1 ok.2 (mk H1 g1)))
   ·rename_i i j k z
    cases e2
    rw [z]at full
    have ev:=zi1 (ns:=[q0,qh,qk]) full
    subst ev
    cases r1 with
    |cons r rr =>
     cases rr with
     |cons r' rr =>
      cases rr with
      |cons r'' rr =>
       cases rr
       obtain⟨t1,rfl⟩:=r
       obtain⟨t2,rfl⟩:=r'
       obtain⟨t3,rfl⟩:=r''
       have ok':=ok.1
       simp only [zx1,zbk7,decide_eq_true_eq]at ok'
       have lg:qk.natAbs.log2<9000:=Nat.lt_of_le_of_lt (zbd1 (k:=20) (by have:=ok'.2.2.1;lia)) (by decide)
       exact call_range_3 ok'.2.1 (Calls.spliced_nil (zae4 hc I1 ok.1 ok.2 (mk H1 g1))) (.inl (PyProof.noPylong_of_log2 lg))
   ·cases e2
end
end DL
namespace DL
open PySem.Spec L2
noncomputable def frzD:Sl→Sl
 |.own xs=>.val (.lst xs)
 |.dp d=>.val d
 |s=>s
noncomputable def frzT (t:Th) (i:Nat):Th:=match t[i]? with
 |some s=>t.set i (frzD s)
 |none=>t
theorem zt8 (s:Sl) (t:Th) (i:Nat):frzT (s::t) (i+1)=s::frzT t i:=by
 unfold frzT
 simp only [zbs8]
 cases t[i]?<;>simp
theorem RSl.give {K:zbj6}{H0 H:Hp}:∀ {t:Th}{σ:L2.St}{A:List Addr} (i:Nat),RSl K H0 H t σ A→A.Nodup→∃(B A':List Addr),A'.Sublist A∧(∀b∈B,b∈A∧b∉A')∧∀H1,Same H0 H1→(∀b∈B,∀o,H b=some o→H1 b=some o)→RSl K H1 H (frzT t i) σ A'
 |_,_,_,i,.nil,_=>⟨[],[],List.Sublist.refl _,fun b hb=>(by cases hb),fun H1 e _=>by simpa [frzT] using RSl.nil⟩
 |_,_,A,0,.no r,n=>⟨[],A,List.Sublist.refl _,fun b hb=>(by cases hb),fun H1 e _=>.no (RSl.mono e r fun _ _ _ h=>h)⟩
 |_,_,A,0,.val h r,n=>⟨[],A,List.Sublist.refl _,fun b hb=>(by cases hb),fun H1 e _=>.val (Rep.mono e h) (RSl.mono e r fun _ _ _ h=>h)⟩
 |_,_,_,0,.own (p:=p) (A:=A) h1 h2 r,n=>by
  have n0:=zbm9.mp n
  refine⟨[p],A,zca2 _ _,fun b hb=>?_,fun H1 e k=>?_⟩
  ·simp at hb;subst hb;exact⟨zbk2 ..,n0.1⟩
  ·exact .val (.lst (SqL.of (k p (by simp) _ h1)) (Reps.mono e h2)) (RSl.mono e r fun _ _ _ h=>h)
 |_,_,_,0,.dp (B:=B) (A:=A) h r,n=>by
  have n0:=zbm8.mp n
  refine⟨B,A,zby0 _ _,fun b hb=>⟨zbj7 _ hb,fun z=>n0.2.2 b hb b z rfl⟩,fun H1 e k=>?_⟩
  exact .val (h.rep e k) (RSl.mono e r fun _ _ _ h=>h)
 |_,_,_,i+1,.no r,n=>by
  obtain⟨B,A',a1,a2,a3⟩:=RSl.give i r n
  refine⟨B,A',a1,a2,fun H1 e k=>?_⟩
  rw [zt8];exact .no (a3 H1 e k)
 |_,_,_,i+1,.val h r,n=>by
  obtain⟨B,A',a1,a2,a3⟩:=RSl.give i r n
  refine⟨B,A',a1,a2,fun H1 e k=>?_⟩
  rw [zt8];exact .val (Rep.mono e h) (a3 H1 e k)
 |_,_,_,i+1,.own (p:=p) h1 h2 r,n=>by
  have n0:=zbm9.mp n
  obtain⟨B,A',a1,a2,a3⟩:=RSl.give i r n0.2
  refine⟨B,p::A',a1.cons₂ _,fun b hb=>⟨zbj9 _ (a2 b hb).1,fun z=>?_⟩,fun H1 e k=>?_⟩
  ·rcases zbk5.mp z with w | w
   ·exact n0.1 (w ▸ (a2 b hb).1)
   ·exact (a2 b hb).2 w
  ·rw [zt8];exact .own h1 (Reps.mono e h2) (a3 H1 e k)
 |_,_,_,i+1,.dp (B:=C) h r,n=>by
  have n0:=zbm8.mp n
  obtain⟨B,A',a1,a2,a3⟩:=RSl.give i r n0.2.1
  refine⟨B,C++A',List.Sublist.append (List.Sublist.refl _) a1,fun b hb=>⟨zbj5 _ (a2 b hb).1,fun z=>?_⟩,fun H1 e k=>?_⟩
  ·rcases zbk1.mp z with w | w
   ·exact n0.2.2 b w b (a2 b hb).1 rfl
   ·exact (a2 b hb).2 w
  ·rw [zt8];exact .dp (RepD.mono e h fun _ _ _ w=>w) (a3 H1 e k)
theorem RS.give {K:zbj6}{F A:List Addr}{H:Hp}{t:Th}{σ:L2.St} (R:RS K F H A t σ) (i:Nat):∃A',RS K F H A' (frzT t i) σ∧Gr A H A' H:=by
 obtain⟨B,A',a1,a2,a3⟩:=R.rel.give i R.nd
 have sub:∀x∈A',x∈A:=fun x hx=>a1.subset hx
 refine⟨A',⟨fun q hq=>R.mu q ((zbk1.mp hq).elim (fun z=>zbj7 _ (sub q z)) fun z=>zbj5 _ z),R.nd.sublist a1,fun p hp=>R.dj p (sub p hp),a3 _ (zb2 H fun a z=>(zbk1.mp z).elim (fun z=>zbj7 _ (sub a z)) fun z=>zbj5 _ z) fun b hb o h=>zc4 h fun z=>?_⟩,⟨fun _ _ _ h=>h,fun b hb=>?_,fun b hb=>.inl (sub b hb)⟩⟩
 ·rcases zbk1.mp z with w | w
  ·exact (a2 b hb).2 w
  ·exact R.dj b (a2 b hb).1 w
 ·obtain⟨vs,q⟩:=R.mu b (zbj7 _ hb)
  rw [q];simp
noncomputable def dFrz (i:Nat) (g:DS):DS:=fun t=>g (frzT t i)
theorem dS_frz {K:zbj6}{F:List Addr}{g:DS}{i:Nat}{E:Ends}{σ:L2.St}{H:Hp} (h:dS K F (dFrz i g) E σ H):dS K F g E σ H:=by
 obtain⟨A,t,o,R,e,p⟩:=zbg1 h
 obtain⟨A',R',gr⟩:=R.give i
 exact dS_mk R' e (p.back gr)
theorem zad5 {X:Cx}{F:List Addr}{g:DS}{st:Stmt} (i:Nat) (h:PS X st (dS X.K F g)):PS X st (dS X.K F (dFrz i g)):=PS.imp h fun _ _ _ q=>dS_frz q
end DL
namespace L2
open PySem.Spec
noncomputable def Itz (K:zbj6) (a b:Addr):It :=
 ⟨fun i H => ∃xs ys x y,SqL K H a xs∧SqL K H b ys∧xs[i]?=some x∧ys[i]?=some y,
  fun i H x H' => ∃p v u,H p=none∧x=.ref p∧H'=upd H p (.tup [v,u])∧(∀xs,SqL K H a xs→xs[i]?=some v)∧∀ys,SqL K H b ys→ys[i]?=some u,
  fun i H => ∃xs ys,SqL K H a xs∧SqL K H b ys∧i=min xs.length ys.length⟩
noncomputable def ZipAt (z TI TO i1 i2 l1 l2:Addr) (i:Nat) (h:Heap):Prop:=IsZip h z TI TO .none∧IsPair h TI (.ref i1) (.ref i2)∧(∃a b,IsPair h TO a b)∧h.IsListIter i1 l1 i∧h.IsListIter i2 l2 i
theorem turn_zip {P:Program}{w:World}{K:zbj6}{elts:List Expr}{k:Nat}{pos:Pos} (l1 l2 z TI TO i1 i2:Addr) (D:ZipApart z TI TO i1 i2 l1 l2):Turn P w K (.Tuple elts k pos) (Itz K l1 l2) [z,TI,TO,i1,i2] z (ZipAt z TI TO i1 i2 l1 l2) where
 mem:=zbk2 ..
 obj:=fun i h st b hb=>by
  obtain⟨h1,h2,⟨a,c,h3⟩,h4,h5⟩:=st
  simp only [zbk5,zbp0,or_false]at hb
  rcases hb with rfl | rfl | rfl | rfl | rfl
  ·exact⟨_,h1,fun v q=>by cases q⟩
  ·exact⟨_,h2,fun v q=>by cases q⟩
  ·exact⟨_,h3,fun v q=>by cases q⟩
  ·obtain⟨o,e1,_,d⟩:=h4
   exact⟨o,e1,fun v q=>by rw [d]at q;cases q⟩
  ·obtain⟨o,e1,_,d⟩:=h5
   exact⟨o,e1,fun v q=>by rw [d]at q;cases q⟩
 keep:=fun i h h' st kk=>by
  obtain⟨h1,h2,⟨a,c,h3⟩,h4,h5⟩:=st
  exact⟨kk z (by simp) _ h1,kk TI (by simp) _ h2,⟨a,c,kk TO (by simp) _ h3⟩,h4.at fun o q=>kk i1 (by simp) o q,h5.at fun o q=>kk i2 (by simp) o q⟩
 item:=fun X hP hw hK hc i pins s σ H E I hf st hg=>by
  subst hP hw hK
  obtain⟨xs,ys,x,y,hq1,hq2,hx,hy⟩:=hg
  obtain⟨its1,rv1,p1,_⟩:=I.list hq1
  obtain⟨its2,rv2,p2,_⟩:=I.list hq2
  obtain⟨u1,hu1,ru1⟩:=rv1.get hx
  obtain⟨u2,hu2,ru2⟩:=rv2.get hy
  have W:=WalksT.zip2 (prog:=X.prog) (w:=X.w) (I.ok.hd hc) z TI TO i1 i2 l1 l2 D its1.toArray its2.toArray
  have L1:i<its1.length:=(zbn0.mp hu1).1
  have L2':i<its2.length:=(zbn0.mp hu2).1
  obtain⟨z1,z2,z3,z4,z5⟩:=st
  refine W.item i s _ _ (by simp;lia) ⟨z1,z2,z3,z4,z5,p1.isList,p2.isList⟩ fun T vals h1 tk pt hT it md kp=>?_
  obtain⟨w1,w2,e1,e2,rfl⟩:=pt
  have e1':w1=u1:=by
   have:its1[i]?=some w1:=by simpa using e1
   rw [hu1]at this;exact (Option.some.inj this).symm
  have e2':w2=u2:=by
   have:its2[i]?=some w2:=by simpa using e2
   rw [hu2]at this;exact (Option.some.inj this).symm
  subst e1';subst e2'
  have nT:=W.apart i T h1 md
  refine⟨_,rfl,W.go elts k pos i T { s with heap:=h1,toks:=tk } _ _ md fun h2 st2 kp2=>?_⟩
  have kk:∀b o,b∉[z,TI,TO,i1,i2]→s.heap.get? b=some o→h2.get? b=some o:=fun b o nb q=>by
   have nw:b∉[z,TO,i1,i2]:=fun w=>nb (by simp only [zbk5,zbp0,or_false]at w ⊢;rcases w with w | w | w | w<;>simp [w])
   exact kp2 b o nw (kp b o nw q)
  obtain⟨o,t1,t2,t3⟩:=it
  have it2:IsTup h2 T #[w1,w2]:=⟨o,kp2 T o nT t1,t2,t3⟩
  have I2:Inv X pins σ (upd H T (.tup [x,y])) { s with heap:=h2,toks:=tk }:=I.turnedNew (t':=tk) kk hf hT
   ⟨by show 2≤sizeLine;decide,[w1,w2],.cons ru1 (.cons ru2 .nil),it2⟩
  obtain⟨y1,y2,y3,y4,y5,_,_⟩:=st2
  refine⟨.ref T,_,I2,rfl,⟨T,x,y,I.hok.fresh hT,rfl,rfl,fun as ha=>by rw [I.list_inj ha hq1];exact hx,fun bs hb=>by rw [I.list_inj hb hq2];exact hy⟩,⟨y1,y2,y3,y4,y5⟩,fun b hb=>?_⟩
  have hlt:b<s.heap.objs.size:=by
   simp only [zbk5,zbp0,or_false]at hb
   rcases hb with rfl | rfl | rfl | rfl | rfl
   ·exact zbl0 z1
   ·exact zbl0 z2
   ·obtain⟨_,_,e⟩:=z3;exact zbl0 e
   ·obtain⟨_,e,_⟩:=z4;exact zbl0 e
   ·obtain⟨_,e,_⟩:=z5;exact zbl0 e
  have nb:b≠T:=fun e=>by rw [e]at hlt;exact absurd hlt (Nat.not_lt.mpr hT)
  rw [zc9 nb]
  exact (hf b hb).1
 done:=fun X hP hw hK hc i pins s σ H E I hf st hg=>by
  subst hP hw hK
  obtain⟨xs,ys,hq1,hq2,hi⟩:=hg
  obtain⟨its1,rv1,p1,_⟩:=I.list hq1
  obtain⟨its2,rv2,p2,_⟩:=I.list hq2
  have W:=WalksT.zip2 (prog:=X.prog) (w:=X.w) (I.ok.hd hc) z TI TO i1 i2 l1 l2 D its1.toArray its2.toArray
  have e:i=min its1.toArray.size its2.toArray.size:=by
   have:=rv1.length;have:=rv2.length
   simp only [zbl6];lia
  obtain⟨z1,z2,z3,z4,z5⟩:=st
  refine W.done s _ _ (e ▸ ⟨z1,z2,z3,z4,z5,p1.isList,p2.isList⟩) fun h' tk kp=>⟨rfl,I.turnedL (t':=tk) (fun b o nb q=>kp b o (fun w=>nb (by simp only [zbk5,zbp0,or_false]at w ⊢;rcases w with w | w | w | w<;>simp [w])) q) hf⟩
 self:=fun X i s Q E st h=>by
  obtain⟨z1,_⟩:=st
  exact wpAny_pyIter_zip z1 h
noncomputable def iZip (K:zbj6) (ta:TA):TI:=fun σ H R=>ta σ H fun vs H1 => ∃a b,vs=[.ref a,.ref b]∧(∃xs,SqL K H1 a xs)∧(∃ys,SqL K H1 b ys)∧R (Itz K a b) H1
theorem bt_zip:bootBuiltins "zip"=some (.type "zip"):=by decide +kernel
theorem pi_zip {X:Cx}{a b:Expr}{ta:TA}{elts:List Expr}{k:Nat}{tp p pos:Pos} (hg:Gl X "zip") (hm:X.mg "zip"=none) (ha:PA X [a,b] ta) (hs:zbm0 [a,b] X.env=(false,eval a X.env)::zbm0 [b] X.env:=by rfl) (hs2:(zbt6 pos (zbm0 [b] X.env)).any (·.1)=false:=by rfl) :
  PI X (.Tuple elts k tp) (.Call (.Name "zip" p) [a,b] [] pos) (iZip X.K ta):=by
 intro pins s σ H R I h
 refine Call_ (zn7 I hg hm bt_zip (PyProof.Rows.callWith_type1 (thn (ha pos pins s σ H _ I h) fun us s1 ⟨vs,H1,I1,r1,q1⟩=>?_) hs hs2))
 obtain⟨l1,l2,rfl,⟨xs,hx⟩,⟨ys,hy⟩,q⟩:=q1
 obtain⟨u,w,rfl,ru,rw'⟩:=r1.two
 cases ru;cases rw'
 obtain⟨its1,rv1,p1,_⟩:=I1.list hx
 obtain⟨its2,rv2,p2,_⟩:=I1.list hy
 have t1:l1<s1.heap.objs.size:=by obtain⟨_,e,_⟩:=p1.isList;exact zbl0 e
 have t2:l2<s1.heap.objs.size:=by obtain⟨_,e,_⟩:=p2.isList;exact zbl0 e
 refine call_zip_2 p1.isList p2.isList fun h' z1 z2 z3 z4 z5 z6 hk=>?_
 have I2:Inv X pins σ H1 { s1 with heap:=h' }:=I1.kept (t':=s1.toks) hk
 refine wpAny_pyIter_zip z1 ⟨s1.heap.objs.size+4,[s1.heap.objs.size+4,s1.heap.objs.size+2,s1.heap.objs.size+3,s1.heap.objs.size,s1.heap.objs.size+1],ZipAt _ _ _ _ _ l1 l2,Itz X.K l1 l2,H1,rfl,I2,turn_zip l1 l2 _ _ _ _ _ (zipApart_new t1 t2),⟨z1,z2,⟨_,_,z3⟩,z4,z5⟩,fun c hc=>?_,q⟩
 have le:s1.heap.objs.size≤c:=by
  simp only [zbk5,zbp0,or_false]at hc
  rcases hc with rfl | rfl | rfl | rfl | rfl
  ·exact zbw7 _ _
  ·exact zbw7 _ _
  ·exact zbw7 _ _
  ·exact zbl3 _
  ·exact zbw7 _ _
 exact I1.fpOk le (I1.hok.fresh le)
end L2
namespace DL
open PySem.Spec L2
section
variable {X:Cx}{F:List Addr}{a b c:Expr}{es:List Expr}{fa fb fc:DE}{g g1 g2:DS}{pos:Pos}{gt:TG}{kt:D→Th→Option Th}
noncomputable def zipD:List D→List D→List D
 |x::xs,y::ys=>.tup [x,y]::zipD xs ys
 |_,_=>[]
theorem zw4:∀(xs ys:List D),(zipD xs ys).length=min xs.length ys.length
 |[],ys=>by simp [zipD]
 |x::xs,[]=>by simp [zipD]
 |x::xs,y::ys=>by simp [zipD,zw4 xs ys]
theorem zap4:∀(xs ys:List D) (j:Nat) (x y:D),xs[j]?=some x→ys[j]?=some y→(zipD xs ys)[j]?=some (.tup [x,y])
 |[],ys,j,x,y,e1,e2=>by simp at e1
 |x'::xs,[],j,x,y,e1,e2=>by simp at e2
 |x'::xs,y'::ys,0,x,y,e1,e2=>by simp at e1 e2;subst e1;subst e2;rfl
 |x'::xs,y'::ys,j+1,x,y,e1,e2=>by simpa [zipD] using zap4 xs ys j x y (by simpa using e1) (by simpa using e2)
end
end DL
namespace DL
open PySem.Spec L2
section
variable {X:Cx}{F:List Addr}{a b c o:Expr}{es:List Expr}{fa fb fc:DE}{fs:List DE}{ga:DA}{g g1 g2:DS}{ft fu:DT}{pos:Pos}{st:Stmt}{rest:List Stmt}{tg:Expr}{gt:TG}{kt:D→Th→Option Th}
noncomputable def insI (n:Int):List Int→List Int
 |[]=>[n]
 |m::r=>if n≤m then n::m::r else m::insI n r
noncomputable def sortI':List Int→List Int
 |[]=>[]
 |n::r=>insI n (sortI' r)
theorem zy6 (n:Int):∀r:List Int,(insI n r).Perm (n::r)
 |[]=>List.Perm.refl _
 |m::r=>by
  unfold insI
  split
  ·exact List.Perm.refl _
  ·exact (List.Perm.cons m (zy6 n r)).trans (List.Perm.swap n m r)
theorem sortI'_perm:∀r:List Int,(sortI' r).Perm r
 |[]=>List.Perm.refl _
 |n::r=>(zy6 n _).trans (List.Perm.cons n (sortI'_perm r))
theorem zy5 (n:Int):∀r:List Int,r.Pairwise (·≤·)→(insI n r).Pairwise (·≤·)
 |[],_=>by simp [insI]
 |m::r,h=>by
  unfold insI
  have hc:=zbn2.mp h
  split
  ·rename_i hle
   refine zbn2.mpr ⟨fun x hx=>?_,h⟩
   rcases zbk5.mp hx with rfl | z
   ·exact hle
   ·exact zbv2 hle (hc.1 x z)
  ·rename_i hle
   refine zbn2.mpr ⟨fun x hx=>?_,zy5 n r hc.2⟩
   rcases zbk5.mp ((zy6 n r).mem_iff.mp hx) with rfl | z
   ·lia
   ·exact hc.1 x z
theorem sortI'_sorted:∀r:List Int,(sortI' r).Pairwise (·≤·)
 |[]=>List.Pairwise.nil
 |n::r=>zy5 n _ (sortI'_sorted r)
theorem sorted_uniq:∀ {xs ys:List Int},xs.Perm ys→xs.Pairwise (·≤·)→ys.Pairwise (·≤·)→xs=ys
 |[],ys,p,_,_=>(List.Perm.nil_eq p)
 |x::xs,[],p,_,_=>absurd p.length_eq (by simp)
 |x::xs,y::ys,p,h1,h2=>by
  have c1:=zbn2.mp h1
  have c2:=zbn2.mp h2
  have e:x=y:=by
   have m1:x∈y::ys:=p.mem_iff.mp (zbk2 ..)
   have m2:y∈x::xs:=p.mem_iff.mpr (zbk2 ..)
   have l1:y≤x:=by rcases zbk5.mp m1 with z | z;lia;exact c2.1 x z
   have l2:x≤y:=by rcases zbk5.mp m2 with z | z;lia;exact c1.1 y z
   lia
  subst e
  rw [sorted_uniq (List.Perm.cons_inv p) c1.2 c2.2]
end
end DL
namespace L2
open PySem.W
noncomputable def bndS:Nat:=2 ^ 1048576
theorem zab0:∀ {ns:List Int}{n:Int},n∈ns→WData.weight (.int n)≤WData.weightAll (ns.map WData.int)
 |m::r,n,h=>by
  rw [zbl8]
  unfold WData.weightAll
  rcases zbk5.mp h with rfl | z
  ·lia
  ·have:=zab0 z;lia
theorem bnd_of {ns:List Int} (h:WData.layableAll [WData.list (ns.map WData.int)]=true):∀n∈ns,n.natAbs<bndS:=fun n hn=>by
 have h1:WData.layable (WData.list (ns.map WData.int))=true:=by simpa [WData.layableAll] using h
 have h2:WData.weight (WData.list (ns.map WData.int))≤2 ^ 20:=by
  unfold WData.layable at h1
  simp only [zbk7,decide_eq_true_eq]at h1
  exact h1.2
 have h3:WData.weight (.int n)≤2 ^ 20:=by
  refine zbq4 (zab0 hn) ?_
  have e:WData.weight (WData.list (ns.map WData.int))=WData.weightAll (ns.map WData.int):=by simp [WData.weight]
  rw [← e];exact h2
 by_cases z:n=0
 ·subst z;unfold bndS;exact Nat.pow_pos (by decide)
 ·have h4:n.natAbs.log2+1≤2 ^ 20:=by
   have:WData.weight (.int n)=n.natAbs.log2+1:=by simp [WData.weight,z]
   rw [← this];exact h3
  have h5:n.natAbs.log2<1048576:=by lia
  exact (Nat.log2_lt (by lia)).mp h5
end L2
namespace DL
open PySem.Spec L2
section
variable {X:Cx}{F:List Addr}{a b c o:Expr}{es:List Expr}{fa fb fc:DE}{ga:DA}{pos:Pos}
theorem Reps.erase {K:zbj6}{H:Hp}:∀ {ds:List D}{vs:List V} (j:Nat),Reps K H ds vs→Reps K H (ds.eraseIdx j) (vs.eraseIdx j)
 |_,_,_,.nil=>.nil
 |_,_,0,.cons _ rs=>rs
 |_,_,j+1,.cons r rs=>.cons r (Reps.erase j rs)
end
end DL
namespace DL
open PySem.Spec L2
noncomputable def spM (K:zbj6) (G:List D→Option Ev):Sp:=fun vs H Q _ => ∃(Fo:List Addr) (p:Addr) (ws vs':List V) (xs ds:List D) (d:D),vs=.ref p::vs'∧Lists H (p::Fo)∧p∉Fo∧H p=some (.lst ws)∧Reps K (hide (p::Fo) H) xs ws∧Reps K (hide (p::Fo) H) ds vs'∧G (.lst xs::ds)=some (.cl d)∧scD d=true ∧
 ∀v H',(∀b o,b≠p→H b=some o→H' b=some o)→H' p≠none→(∀Hx,Rep K Hx d v)→Q v H'
structure CalM (P:Program) (w:World) (K:zbj6) (mg:Str→Option Value) (base:BHeap) (x:Str) (k:Nat) (G:List D→Option Ev):Prop where
 ex:∃(a:Addr) (fd:FuncData) (ps:List Str),mg x=some (.ref a)∧zbq7 K (.ref a)=true∧L2.Binds K fd ps []∧FnOk P w K mg base CX0 k a fd ps (spM K G)
section
variable {X:Cx}{F:List Addr}{a b c o:Expr}{es:List Expr}{fa fb fc:DE}{ga:DA}{pos pos2:Pos}
noncomputable def ddp (ns:List Int):List Int:=ns.foldl step_dedup []
theorem first_met (ns:List Int):firstMet (fun i=>ns.getD i 0) ns.length=ddp ns:=by
 unfold firstMet ddp
 congr 1
 apply zbw4
 ·simp
 ·intro i h1 h2
  simp [zbl1,h2]
theorem ddp_le (ns:List Int):(ddp ns).length≤ns.length:=by
 rw [← first_met]
 exact firstMet_length_le _ _
theorem bt_set:bootBuiltins "set"=some (.type "set"):=by decide +kernel
end
end DL
namespace DL
open PySem.Spec L2
noncomputable def sV:D→V
 |.bl b=>.bl b
 |.int i=>.int i
 |.str x=>.str x
 |_=>.non
theorem rep_sc {K:zbj6}{H:Hp}{d:D}{v:V} (r:Rep K H d v) (s:scD d=true):v=sV d:=by
 cases r with
 |non=>rfl
 |bl b=>rfl
 |int i=>rfl
 |str x=>rfl
 |tup _ _=>cases s
 |lst _ _=>cases s
 |dct _ _ _=>cases s
 |pdc _=>cases s
theorem sc_rep {K:zbj6}{H:Hp}:∀ {d:D},scD d=true→Rep K H d (sV d)
 |.non,_=>.non
 |.bl b,_=>.bl b
 |.int i,_=>.int i
 |.str x,_=>.str x
 |.tup _,s=>by cases s
 |.lst _,s=>by cases s
 |.dct _ _,s=>by cases s
 |.pdc _,s=>by cases s
theorem sc_flatD:∀ {d:D},scD d=true→flat d=true
 |.non,_=>rfl
 |.bl b,_=>rfl
 |.int i,_=>rfl
 |.str x,_=>rfl
 |.tup _,s=>by cases s
 |.lst _,s=>by cases s
 |.dct _ _,s=>by cases s
 |.pdc _,s=>by cases s
theorem zba1 {K:zbj6}{H:Hp}:∀ {ds:List D}{vs:List V},Reps K H ds vs→ds.all scD=true→vs=ds.map sV
 |_,_,.nil,_=>rfl
 |_,_,.cons h r,s=>by
  simp only [zbo7,zbk7]at s
  rw [rep_sc h s.1,zba1 r s.2];rfl
theorem zar1 {K:zbj6}{H0 H:Hp}:∀ {ds:List D}{vs:List V}{B:List Addr},RepDs K H0 H ds vs B→ds.all scD=true→vs=ds.map sV∧B=[]
 |_,_,_,.nil,_=>⟨rfl,rfl⟩
 |_,_,_,.cons h r,s=>by
  simp only [zbo7,zbk7]at s
  obtain⟨a,b⟩:=zar1 r s.2
  subst a b
  cases h with
  |flat f q=>rw [rep_sc q s.1];exact⟨rfl,rfl⟩
  |tup _ _=>exact absurd s.1 (by simp [scD])
  |lst _ _=>exact absurd s.1 (by simp [scD])
  |dct _ _ _=>exact absurd s.1 (by simp [scD])
  |pdc _=>exact absurd s.1 (by simp [scD])
theorem zaq8 {K:zbj6}{H0 H:Hp}:∀ {ds:List D},ds.all scD=true→RepDs K H0 H ds (ds.map sV) []
 |[],_=>.nil
 |d::ds,s=>by
  simp only [zbo7,zbk7]at s
  exact .cons (B:=[]) (C:=[]) (.flat (sc_flatD s.1) (sc_rep s.1)) (zaq8 s.2)
noncomputable def zba5 (ps:List (Int×Int)) (q:Int×Int):List (Int×Int):=if q∈ps then ps else ps++[q]
theorem zbb3 (q:Int×Int):∀ps:List (Int×Int),((pkv ps).any fun kv=>decide (kv.1=[Sum.inl q.1,Sum.inl q.2]))=decide (q∈ps)
 |[]=>rfl
 |p::ps=>by
  have ih:=zbb3 q ps
  unfold pkv at ih ⊢
  simp only [zbl8,zbs1,ih]
  by_cases e:p=q
  ·subst e;simp
  ·have : ¬ (([Sum.inl p.1,Sum.inl p.2]:List Key)=[Sum.inl q.1,Sum.inl q.2]):=fun z=>by
    simp only [List.cons.injEq,Sum.inl.injEq,and_true]at z
    exact e (Prod.ext z.1 z.2)
   rw [decide_eq_false this,zca1]
   simp only [zbk5]
   by_cases m:q∈ps
   ·rw [decide_eq_true m,decide_eq_true (Or.inr m)]
   ·rw [decide_eq_false m,decide_eq_false (fun z=>z.elim (fun w=>e w.symm) m)]
theorem putK_pkv (ps:List (Int×Int)) (q:Int×Int):putK (pkv ps) [Sum.inl q.1,Sum.inl q.2] (V.bl true)=pkv (zba5 ps q):=by
 unfold putK zba5
 rw [zbb3]
 by_cases m:q∈ps
 ·rw [if_pos (decide_eq_true m),if_pos m]
  unfold pkv
  rw [zbs5]
  refine zcb8 fun p _=>?_
  show (if _ then _ else _)=_
  split<;>rfl
 ·rw [if_neg (by simpa using m),if_neg m]
  unfold pkv
  rw [zbx6]
  rfl
theorem pkv_len (ps:List (Int×Int)):(pkv ps).length=ps.length:=by simp [pkv]
theorem RS.placeP {K:zbj6}{F A:List Addr}{H:Hp}{t:Th}{σ:L2.St}{i:Nat}{ps:List (Int×Int)} (R:RS K F H A t σ) (e:t[i]?=some (.dp (.pdc ps))) :
  ∃p,σ[i]?=some (some (.ref p))∧p∈A∧H p=some (.dT (pkv ps)) ∧
   ∀H2 ps2,(∀b o,b≠p→H b=some o→H2 b=some o)→H2 p=some (.dT (pkv ps2))→∃A2,RS K F H2 A2 (t.set i (.dp (.pdc ps2))) σ∧Gr A H A2 H2:=by
 obtain⟨v,B,a1,a2,a3,a4,a5⟩:=R.rel.focusDp R.nd e
 cases a4 with
 |flat f _=>simp [flat]at f
 |@pdc _ p h =>
  have pA:p∈A:=a2 p (by simp)
  refine⟨p,a1,pA,h,fun H2 ps2 kp hp=>?_⟩
  have hh:Same (hide (A++F) H) (hide (A++F) H2):=fun b o q=>by
   obtain⟨n,q⟩:=zn3 q
   exact zc4 (kp b o (fun z=>n (zbj7 _ (z ▸ pA))) q) n
  obtain⟨A2,d1,d3⟩:=a5 _ _ (.pdc ps2) [p] hh (.pdc hp) (List.Sublist.refl _) (fun q hq nq o w=>kp q o (by simpa using nq) w)
  have sub:∀x∈A2,x∈A:=fun x hx=>d3.subset hx
  have mu:Lists H2 (A++F):=fun q hq=>by
   by_cases z:q=p
   ·exact⟨mT _,by rw [z];exact hp⟩
   ·obtain⟨us,w⟩:=R.mu q hq
    exact⟨us,kp q _ z w⟩
  refine⟨A2,⟨fun q hq=>mu q ?_,R.nd.sublist d3,fun q hq=>R.dj q (sub q hq),RSl.mono (zb2 _ fun a z=>?_) d1 fun _ _ _ h=>h⟩,fun b o n h=>?_,fun b hb=>?_,fun b hb=>.inl (sub b hb)⟩
  ·exact (zbk1.mp hq).elim (fun z=>zbj7 _ (sub q z)) (fun z=>zbj5 _ z)
  ·exact (zbk1.mp z).elim (fun z=>zbj7 _ (sub a z)) (fun z=>zbj5 _ z)
  ·exact kp b o (fun z=>n (z ▸ pA)) h
  ·obtain⟨us,w⟩:=mu b (zbj7 _ hb)
   rw [w];simp
section
variable {X:Cx}{F:List Addr}{a b c o:Expr}{es:List Expr}{fa fb fc:DE}{ga:DA}{pos pos1:Pos}
noncomputable def dNewP:DE:=fun _=>some (.dn (.pdc []))
theorem ped_newP:PE X (.Dict [] [] pos) (dE X.K F dNewP):=by
 refine PE.imp pe_dnewT ?_
 rintro σ H Q ⟨A,t,r,R,e,h⟩
 cases e
 intro p hp
 refine h _ _ (zd2 hp) ⟨[p],by simp,fun b hb=>by simp at hb;subst hb;exact hp,.pdc zc3⟩
noncomputable def spP (G:List (Int×Int)→List Int→Option (List (Int×Int))):Sp:=fun vs H Q _ => ∃(p:Addr) (ps ps':List (Int×Int)) (ns:List Int),vs=.ref p::ns.map V.int∧H p=some (.dT (pkv ps))∧G ps ns=some ps' ∧
 ∀H',(∀b o,b≠p→H b=some o→H' b=some o)→H' p=some (.dT (pkv ps'))→Q .non H'
structure CalP (P:Program) (w:World) (K:zbj6) (mg:Str→Option Value) (base:BHeap) (x:Str) (k:Nat) (G:List (Int×Int)→List Int→Option (List (Int×Int))):Prop where
 ex:∃(a:Addr) (fd:FuncData) (ps:List Str),mg x=some (.ref a)∧zbq7 K (.ref a)=true∧L2.Binds K fd ps []∧FnOk P w K mg base CX0 k a fd ps (spP G)
theorem Df.calP {P:Program}{w:World}{K:zbj6}{mg:Str→Option Value}{base:BHeap}{x:Str}{st:Stmt}{ps:List Str}{a:Addr}{fd:FuncData}{k:Nat}{G:List (Int×Int)→List Int→Option (List (Int×Int))} (d:Df K mg x st ps a fd) (h:FnOk P w K mg base CX0 k a fd ps (spP G)):CalP P w K mg base x k G :=
 ⟨a,fd,ps,d.mgx,d.fn.kp,d.bd,h⟩
noncomputable def zac3 (i:Nat) (G:List (Int×Int)→List Int→Option (List (Int×Int))) (ga:DA):DS:=fun t=>match t[i]? with
 |some (.dp (.pdc ps))=>(ga t).bind fun rs=>(zm3 (rs.map Ev.d)).bind fun ns=>(G ps ns).map fun ps'=>.nx (t.set i (.dp (.pdc ps')))
 |_=>none
theorem zae8 {K:zbj6}{F A:List Addr}{H H':Hp}:∀ {rs:List Ev}{vs:List V}{ns:List Int},RepEvs K F A H H' rs vs→zm3 (rs.map Ev.d)=some ns→vs=ns.map V.int
 |_,_,ns,.nil,e=>by cases e;rfl
 |_,_,ns,.cons (r:=r) (rs:=rs) h q,e=>by
  have e':=zq0 e
  cases ns with
  |nil=>simp at e'
  |cons n ns =>
   simp only [zbl8,List.cons.injEq]at e'
   have p:=h.full
   rw [e'.1]at p
   cases zd4 p
   rw [zae8 q (by rw [e'.2];exact zm2 ns)]
   rfl
theorem zah0 {k:Nat}{G:List (Int×Int)→List Int→Option (List (Int×Int))}{x y:Str}{p py:Pos} (i:Nat) (c:CalP X.prog X.w X.K X.mg X.base x k G) (hr:Room k X.A) (ha:PA X es (dA X.K F ga)) (hN:X.N[i]?=some y:=by rfl) (hv:Vis X.env.scope y:=by first | exact Or.inl rfl | exact Or.inr (Or.inl rfl) |exact Or.inr (Or.inr rfl)) (hd:(y ==("__debug__":Str))=false:=by decide)
  (hcd:(y ==("__classdict__":Str))=false:=by decide) (hg:Gl X x:=by rfl) (hdb:(x ==("__debug__":Str))=false:=by decide)
  (he:zbm0 (.Name y py::es) X.env=(false,eval (.Name y py) X.env)::zbm0 es X.env:=by rfl) (hpl:(zbt6 pos1 (zbm0 es X.env)).any (·.1)=false:=by rfl)
  (hs:swapsWith (.Call (.Name x p) (.Name y py::es) [] pos1) none pos.line X.env=pure false:=by rfl) :
  PS X (.Expr (.Call (.Name x p) (.Name y py::es) [] pos1) pos) (dS X.K F (zac3 i G ga)):=by
 obtain⟨f,fd,ps,h1,h2,h3,h4⟩:=c.ex
 refine PS.imp (zad7 (zbc0 h4 hr hg h1 h2 h3 .nil (E:=E0) pass0 (zh2 (zr0 (i:=i) hN hv hd hcd) ha he) hdb he hpl) hs) ?_
 rintro E σ H ⟨A,t,o,R,e,h⟩
 unfold zac3 at e
 split at e
 case h_2=>cases e
 rename_i pz z
 cases e1:ga t with
 |none=>rw [e1]at e;cases e
 |some rs =>
  rw [e1]at e
  simp only [zbk3]at e
  cases e2:zm3 (rs.map Ev.d) with
  |none=>rw [e2]at e;cases e
  |some ns =>
   rw [e2]at e
   simp only [zbk3]at e
   cases e3:G pz ns with
   |none=>rw [e3]at e;cases e
   |some pz' =>
    rw [e3]at e
    cases e
    obtain⟨q,a1,a2,a3,a4⟩:=R.placeP z
    refine⟨_,a1,A,t,rs,R,e1,fun vs H1 gs q1=>?_⟩
    show spP G ((.ref q::vs)++[]) H1 _ E0
    rw [zbr1,zae8 q1 e2]
    refine⟨q,pz,pz',ns,rfl,gs _ _ a3,e3,fun H' kp hp=>?_⟩
    obtain⟨A2,R2,gr⟩:=a4 H' pz' (fun b o n w=>kp b o n (gs _ _ w)) hp
    exact h _ _ _ gr R2
end
end DL
namespace DL
open PySem.Spec L2
noncomputable def zam6 (m k:Int):Int×Int:=((if (k.fdiv m).fmod m<k.fmod m then (k.fdiv m).fmod m else k.fmod m),(if k.fmod m<(k.fdiv m).fmod m then (k.fdiv m).fmod m else k.fmod m))
noncomputable def putG (ps:List (Int×Int)) (ns:List Int):Option (List (Int×Int)):=match ns with
 |[m,k]=>if 0<m∧sm m=true∧ps.length<100000 then some (if k.fmod m=(k.fdiv m).fmod m then ps else zba5 ps (zam6 m k)) else none
 |_=>none
section
variable {X:Cx}{F:List Addr}{e1 e2 c o ke kv:Expr}{pos:Pos}
noncomputable def tPutB (K:zbj6) (f1 f2:DE) (ft:DT) (gk:DA) (fv:DE):TS:=tSeq (tAsg (dE K [] f1) (zbe8 3)) (tSeq (tAsg (dE K [] f2) (zbe8 4)) (tIfS (dT K [] ft) (sDPut (tVar 0) (tTup (dA K [] gk)) (dE K [] fv)) tNext))
theorem put_runs {K:zbj6}{H:Hp}{Q:VK}{p:Addr}{ps ps':List (Int×Int)}{m k:Int}{f1 f2:DE}{ft:DT}{gk:DA}{fv:DE} (hp:H p=some (.dT (pkv ps))) (hg:putG ps [m,k]=some ps')
  (h1:∀s3 s4,f1 [.dp (.pdc ps),.val (.int m),.val (.int k),s3,s4]=some (.cl (.int (k.fmod m)))) (h2:∀s3 s4,f2 [.dp (.pdc ps),.val (.int m),.val (.int k),s3,s4]=some (.cl (.int ((k.fdiv m).fmod m))))
  (h3:∀a b:Int,ft [.dp (.pdc ps),.val (.int m),.val (.int k),.val (.int a),.val (.int b)]=some (!decide (a=b)))
  (h4:∀a b:Int,gk [.dp (.pdc ps),.val (.int m),.val (.int k),.val (.int a),.val (.int b)]=some [.cl (.int (if b<a then b else a)),.cl (.int (if a<b then b else a))])
  (h5:∀a b:Int,fv [.dp (.pdc ps),.val (.int m),.val (.int k),.val (.int a),.val (.int b)]=some (.cl (.bl true)))
  (cont:∀H',(∀b o,b≠p→H b=some o→H' b=some o)→H' p=some (.dT (pkv ps'))→Q .non H') :
  tPutB K f1 f2 ft gk fv { nx:=fun _ H'=>Q .non H',rt:=Q } [some (.ref p),some (.int m),some (.int k),none,none] H:=by
 unfold putG at hg
 simp only at hg
 split at hg
 case isFalse=>cases hg
 rename_i hm
 have hg:=Option.some.inj hg
 have rs:∀(H1:Hp) (t3:Th) (σ3:L2.St),H1 p=some (.dT (pkv ps))→RSl K (hide ([p]++[]) H1) H1 t3 σ3 []→RS K [] H1 [p] (.dp (.pdc ps)::.val (.int m)::.val (.int k)::t3) (some (.ref p)::some (.int m)::some (.int k)::σ3):=fun H1 t3 σ3 hq r =>
  ⟨fun q hq'=>by simp at hq';subst hq';exact⟨mT _,hq⟩,by simp,fun q _=>by simp,.dp (B:=[p]) (.pdc hq) (.val (.int m) (.val (.int k) r))⟩
 refine⟨[p],_,_,rs H [.no,.no] [none,none] hp (.no (.no .nil)),h1 _ _,fun v H1 g1 q1=>?_⟩
 have ev:=q1.full
 cases zd4 ev
 refine⟨[p],_,_,rs H1 [.val (.int (k.fmod m)),.no] [some (.int (k.fmod m)),none] (g1 _ _ hp) (.val (.int _) (.no .nil)),h2 _ _,fun v H2 g2 q2=>?_⟩
 have ev:=q2.full
 cases zd4 ev
 have hp2:H2 p=some (.dT (pkv ps)):=g2 _ _ (g1 _ _ hp)
 have R2:=fun H' (hq:H' p=some (.dT (pkv ps)))=>rs H' [.val (.int (k.fmod m)),.val (.int ((k.fdiv m).fmod m))] [some (.int (k.fmod m)),some (.int ((k.fdiv m).fmod m))] hq (.val (.int _) (.val (.int _) .nil))
 refine⟨[p],_,_,R2 H2 hp2,h3 _ _,fun H3 g3=>?_⟩
 have hp3:=g3 _ _ hp2
 have s3:∀b o,H b=some o→H3 b=some o:=fun b o w=>g3 _ _ (g2 _ _ (g1 _ _ w))
 by_cases z:k.fmod m=(k.fdiv m).fmod m
 ·rw [decide_eq_true z]
  refine iteF ?_
  rw [if_pos z]at hg
  subst hg
  exact cont H3 (fun b o _ w=>s3 b o w) hp3
 ·rw [decide_eq_false z]
  refine iteT ?_
  rw [if_neg z]at hg
  subst hg
  refine⟨[p],_,_,R2 H3 hp3,h5 _ _,fun v H4 g4 q4=>?_⟩
  have ev:=q4.full
  cases ev with
  |bl =>
   refine⟨_,rfl,[p],_,_,R2 H4 (g4 _ _ hp3),h4 _ _,fun vs H5 g5 q5=>?_⟩
   have evs:=zae8 q5 (ns:=[(zam6 m k).1,(zam6 m k).2]) rfl
   subst evs
   refine⟨by simp [sizeLine_eq],fun b hb=>?_⟩
   have hp5:=g5 _ _ (g4 _ _ hp3)
   have nb:p≠b:=fun w=>by rw [w,hb]at hp5;cases hp5
   refine⟨p,_,rfl,DPut.t (k:=[Sum.inl (zam6 m k).1,Sum.inl (zam6 m k).2]) (by rw [zc9 nb];exact hp5) zc3 (by rw [pkv_len];exact zbm4 hm.2.2 (by rw [sizeLine_eq];decide)),?_⟩
   refine cont _ (fun b' o n w=>?_) (by rw [zc3,putK_pkv])
   rw [zc9 n]
   have w5:=g5 _ _ (g4 _ _ (s3 _ _ w))
   rw [zc9 (fun q=>by rw [q,hb]at w5;cases w5)]
   exact w5
theorem zba4 {ps ps':List (Int×Int)}{ns:List Int} (h:putG ps ns=some ps'):∃m k,ns=[m,k]:=by
 unfold putG at h
 split at h
 ·exact⟨_,_,rfl⟩
 ·cases h
theorem put_len {p:Addr}{ps ps':List (Int×Int)}{ns:List Int} (h:putG ps ns=some ps'):(V.ref p::ns.map V.int).length=3:=by
 obtain⟨m,k,rfl⟩:=zba4 h
 rfl
noncomputable def fP1:DE:=(d2 (kI cMod fun i j=>.int (i.fmod j)) (dVar 2) (dVar 1))
noncomputable def fP2:DE:=(d2 (kI cMod fun i j=>.int (i.fmod j)) (d2 (kI cDiv fun i j=>.int (i.fdiv j)) (dVar 2) (dVar 1)) (dVar 1))
noncomputable def ftP:DT:=(dBo (d2 kNe (dVar 3) (dVar 4)))
noncomputable def gkP:DA:=(za2 (dT1 (k2I fun i j=>if j<i then j else i) (za2 (dVar 3) (za2 (dVar 4) dNil))) (za2 (dT1 (k2I fun i j=>if j > i then j else i) (za2 (dVar 3) (za2 (dVar 4) dNil))) dNil))
noncomputable def fvP:DE:=dC (.bl true)
theorem put_law {K:zbj6}{H:Hp}{Q:VK}{p:Addr}{ps ps':List (Int×Int)}{m k:Int} (hp:H p=some (.dT (pkv ps))) (hg:putG ps [m,k]=some ps')
  (cont:∀H',(∀b o,b≠p→H b=some o→H' b=some o)→H' p=some (.dT (pkv ps'))→Q .non H') :
  tPutB K fP1 fP2 ftP gkP fvP { nx:=fun _ H'=>Q .non H',rt:=Q } [some (.ref p),some (.int m),some (.int k),none,none] H:=by
 have hm:0<m∧sm m=true:=by
  unfold putG at hg
  simp only at hg
  split at hg
  ·rename_i h;exact⟨h.1,h.2.1⟩
  ·cases hg
 have m0 : ¬ m=0:=by lia
 have cm:∀a:Int,cMod a m=true:=fun a=>by simp [cMod,m0]
 have cd:∀a:Int,cDiv a m=true:=fun a=>by simp [cDiv,m0,hm.2]
 refine put_runs hp hg (fun _ _=>?_) (fun _ _=>?_) (fun a b=>?_) (fun a b=>rfl) (fun a b=>rfl) cont
 ·show kI cMod (fun i j=>.int (i.fmod j)) (.cl (.int k)) (.cl (.int m))=_
  simp [kI,Ev.d,cm]
 ·show Option.bind (kI cDiv (fun i j=>.int (i.fdiv j)) (.cl (.int k)) (.cl (.int m))) (fun r=>kI cMod (fun i j=>.int (i.fmod j)) r (.cl (.int m)))=_
  simp [kI,Ev.d,cm,cd]
 ·unfold ftP dBo
  rw [show d2 kNe (dVar 3) (dVar 4) [.dp (.pdc ps),.val (.int m),.val (.int k),.val (.int a),.val (.int b)]=some (.cl (.bl (!eqD (.int a) (.int b)))) from rfl]
  show some (!eqD (.int a) (.int b))=_
  simp [eqD]
end
end DL
namespace DL
open PySem.Spec L2
noncomputable def cmpI (mx:Bool) (i j:Int):Bool:=if mx then decide (i > j) else decide (i<j)
noncomputable def lexI (mx:Bool):List Int→List Int→Bool
 |i::r,j::q=>if decide (i=j) then lexI mx r q else cmpI mx i j
 |_,_=>false
noncomputable def cmpD (mx:Bool):D→D→Option Bool
 |.int i,.int j=>some (cmpI mx i j)
 |.tup xs,.tup ys=>(zm3 xs).bind fun is=>(zm3 ys).bind fun js=>if is.length=js.length then some (lexI mx is js) else none
 |_,_=>none
noncomputable def pD (K:zbj6) (mx:Bool):V→V→Hp→Bool→Prop:=fun y z H c => ∃d e,Rep K H d y∧Rep K H e z∧cmpD mx d e=some c
noncomputable def zbi7 (mx:Bool) (fb:DE) (cs:List D):D→D→List D→Option D
 |b,_,[]=>some b
 |b,k,d::ds=>(fb (.val d::cs.map Sl.val)).bind fun r=>if flat r.d then (cmpD mx r.d k).bind fun c=>if c then zbi7 mx fb cs d r.d ds else zbi7 mx fb cs b k ds else none
noncomputable def dKey (mx:Bool) (cap:List Nat) (fa fb:DE):DE:=fun t=>(fa t).bind fun r=>(capD t cap).bind fun c=>match r.d with
 |.lst (d::ds)=>if (zm3 (d::ds)).isSome then (fb (.val d::c.2.map Sl.val)).bind fun k=>if flat k.d then (zbi7 mx fb c.2 d k.d ds).map Ev.cl else none else none
 |_=>none
end DL
namespace L2
open PySem.Spec PySem.W
noncomputable def lamOf (x:Str):Str:=x++".<locals>."++"<lambda>"
theorem zai5 {β:Type}:∀ {l:List (Nat×β)}{a:Nat}{o:β},l.lookup a=some o→(a,o)∈l
 |[],_,_,e=>by cases e
 |(b,x)::r,a,o,e=>by
  rw [zbo0]at e
  cases hb:a == b with
  |true=>rw [hb]at e;cases e;rw [eq_of_beq hb];exact .head _
  |false=>rw [hb]at e;exact .tail _ (zai5 e)
noncomputable def tbOf (K:Frag) (names:List Str):List (Addr×Str):=names.filterMap fun x=>(tabIn K x).map fun q=>(q.2,lamOf x)
theorem of_tbOf {K:Frag}{names:List Str}{p:Addr×Str} (h:p∈tbOf K names):∃x∈names,∃c,tabIn K x=some (c,p.1):=by
 obtain⟨x,hx,e⟩:=zbx9.mp h
 cases q:tabIn K x with
 |none=>rw [q]at e;cases e
 |some r=>rw [q]at e;cases e;exact⟨x,hx,r.1,q⟩
noncomputable def TbOk (K:Frag) (names:List Str):Prop := ∀p∈tbOf K names,(tbOf K names).lookup p.1=some p.2∧K.lookup p.1=none
theorem tbOk_nil {K:Frag}:TbOk K []:=fun p hp=>by cases hp
theorem zbd4 {P:Program}{w:World}{K:Frag}{mg mb:Str→Option Value}{CX:CXT}{k:Nat}{fa a:Addr}{fd:FuncData}{x:Str}{sp:Sp}{s₁:zbk8}{vs:List Value}{ns:List Int}{names:List Str}
  (KX:K.In s₁.heap) (hns:s₁.heap.Ns mainGlobals mg) (hb:s₁.heap.Ns builtinsNs mb) (hbb:∀x:Str,x≠"__name__"→mb x=bootBuiltins x) (hlim:s₁.heap.NoLimit)
  (hbm:∃(bm:Addr) (ob:Obj),mg "__builtins__"=some (.ref bm)∧bm≠builtinsNs∧s₁.heap.get? bm=some ob∧ob.cls=.type "module"∧ob.dict=some builtinsNs∧ob.data=.plain) (hg:s₁.gens = #[])
  (ha:s₁.heap.get? a=some { cls:=.type "list",data:=.seq vs.toArray }) (hi:IntsAre vs ns) (hl:ns.length≤sizeLine) (hr:Room k callerA)
  (hT:∀x∈names,∀c P,tabIn K x=some (c,P)→CodeHd s₁.heap c P∧s₁.heap.get? P=some (tabObj #[])) (hn:TbOk K names)
  (F:∀base:BHeap,base.tabs=tbOf K names→K.In base→base.Ns mainGlobals mg→(∀x∈names,∀c P,tabIn K x=some (c,P)→CodeHd base c P)→FnOk P w K mg base CX k fa fd [x] sp)
  (hbind:∀(s:zbk8) (u:Value),BindsTo s fd ⟨[u],[]⟩ [(x,u)]) (hsp:∀H:Hp,SqL K H a (ns.map V.int)→sp [.ref a] H (fun v _=>v=.bl true) fun _ _ _=>False)
  (hCX:∀H e s',CX [] H s₁ (fun _ _ _=>False) e s'→False) :
  codeAny (model P w) callerA (.call (.ref fa) ⟨[.ref a],[]⟩) (fun r s'=>r=.ok (.ret (.bool true))∧OldK s₁.heap s'.heap∧s'.os=s₁.os∧AllBare s'.gens) s₁:=by
 have rv:=zx0 hi
 have lenV:=hi.length
 have tabH:∀p∈tbOf K names,∃c,CodeHd s₁.heap c p.1∧s₁.heap.get? p.1=some (tabObj #[]):=fun p hp=>by
  obtain⟨y,hy,c,e⟩:=of_tbOf hp
  exact⟨c,hT y hy c p.1 e⟩
 have core:∀H:Hp,SqL K H a (ns.map V.int)→HOk P w H s₁.heap→(∀p∈tbOf K names,H p.1=some (.tbl p.2)) →
   (∀b o,H b=some o→(b=a∧K.lookup a=none∧∃ob xs,o=.frz ob (.lst xs))∨∃q,o=.tbl q∧(b,q)∈tbOf K names) →
   codeAny (model P w) callerA (.call (.ref fa) ⟨[.ref a],[]⟩) (fun r s'=>r=.ok (.ret (.bool true))∧OldK s₁.heap s'.heap∧s'.os=s₁.os∧AllBare s'.gens) s₁:=by
  intro H hS hok hTB hH
  have free:∀ {b:Addr}{o:Obj},s₁.heap.get? b=some o→(o.cls=.type "list"→False)→o≠tabObj #[]→H b=none:=fun {b o} e n1 n2=>by
   cases q:H b with
   |none=>rfl
   |some u =>
    rcases hH b u q with ⟨rfl,_⟩ | ⟨qq,rfl,hm⟩
    ·rw [ha]at e;cases e;exact (n1 rfl).elim
    ·obtain⟨c,_,e2⟩:=tabH _ hm
     have e2:s₁.heap.get? b=some (tabObj #[]):=e2
     rw [e]at e2;cases e2;exact (n2 rfl).elim
  have nsK:∀ {b:Addr}{m:Str→Option Value},s₁.heap.Ns b m→(hidT s₁.heap H).Ns b m:=fun {b m} ⟨o,es,ep,e,d,r⟩=>⟨o,es,ep,zw7 e (by
   cases q:H b with
   |none=>rfl
   |some u =>
    rcases hH b u q with ⟨rfl,_⟩ | ⟨qq,rfl,hm⟩
    ·rw [ha]at e;cases e;cases d
    ·obtain⟨c,_,e2⟩:=tabH _ hm
     have e2:s₁.heap.get? b=some (tabObj #[]):=e2
     rw [e]at e2;cases e2;cases d),d,r⟩
  have hKb:K.In (hidT s₁.heap H):=fun b o e=>zw7 (KX b o e) (by
   cases q:H b with
   |none=>rfl
   |some u =>
    rcases hH b u q with ⟨rfl,n,_⟩ | ⟨qq,rfl,hm⟩
    ·rw [n]at e;cases e
    ·have n:K.lookup b=none:=(hn _ hm).2
     rw [n]at e;cases e)
  have hM:Mod K mg ⟨hidT s₁.heap H,tbOf K names⟩:=⟨hKb,nsK hns,⟨mb,nsK hb,hbb⟩,let ⟨mc,h1,h2⟩:=hlim;⟨mc,nsK h1,h2⟩,by
   obtain⟨bm,ob,b1,b2,b3,b4,b5,b6⟩:=hbm
   exact⟨bm,ob,b1,b2,zw7 b3 (free b3 (fun z=>by rw [b4]at z;simp at z) fun z=>by rw [z]at b4;cases b4),b4,b5,b6⟩⟩
  have hCd:∀x∈names,∀c P,tabIn K x=some (c,P)→CodeHd (hidT s₁.heap H) c P:=fun x hx c P e=>by
   obtain⟨⟨o,vs,file,tf,flags,tg,inF,text,tt,e1,r1,r⟩,_⟩:=hT x hx c P e
   exact⟨o,vs,file,tf,flags,tg,inF,text,tt,zw7 e1 (free e1 (fun z=>by rw [r1]at z;simp at z) fun z=>by rw [z]at r1;cases r1),r1,r⟩
  have e0:Env0 P w K mg ⟨hidT s₁.heap H,tbOf K names⟩ callerA [] s₁ H:=⟨rfl,hM,fun b o e=>of_hidT e,Nat.le_of_eq (zbe5 _ _),trivial,fun b hb=>absurd (show b∈([]:List Addr) from hb) (by simp),hok,.of_eq hg,hTB⟩
  refine codeAny_mono ((F ⟨hidT s₁.heap H,tbOf K names⟩ rfl hKb (nsK hns) hCd).run callerA [] s₁ H ⟨[.ref a],[]⟩ [.ref a] [.ref a] _ _ hr e0 (hbind s₁ (.ref a)) (.cons rfl .nil) (hsp H hS)) fun r s' h=>?_
  cases r with
  |error e=>exact (hCX H e s' h).elim
  |ok fl =>
   cases fl with
   |next=>exact False.elim h
   |brk=>exact False.elim h
   |cont=>exact False.elim h
   |ret u =>
    obtain⟨v,H',os,bare,un,hok',r',q⟩:=h
    have q':v=.bl true:=q
    subst q'
    obtain rfl:u=Value.bool true:=r'
    have kp:∀b o,s₁.heap.get? b=some o→s'.heap.get? b=some o∨∃qq,H b=some (.tbl qq):=fun b o e=>by
     cases q:H b with
     |none=>exact .inl (un.keep b o e q (by intro z;exact absurd (show b∈([]:List Addr) from z) (by simp)) (by simp))
     |some u =>
      rcases hH b u q with ⟨rfl,_,ob,xs,rfl⟩ | ⟨qq,rfl,hm⟩
      ·obtain⟨e1,_⟩:=hok b _ q
       obtain⟨e2,_⟩:=hok' b _ (un.frzs b ob _ q)
       rw [e]at e1;cases e1
       exact .inl e2
      ·exact .inr ⟨qq,rfl⟩
    refine⟨rfl,⟨fun b o e=>?_,fun b o e=>?_⟩,os,bare⟩
    ·rcases kp b o e with z | ⟨qq,z⟩
     ·exact .inl z
     ·rcases hH b _ z with ⟨_,_,ob,xs,z2⟩ | ⟨q2,z2,hm⟩
      ·cases z2
      ·obtain⟨c,C,e2⟩:=tabH _ hm
       have e2:s₁.heap.get? b=some (tabObj #[]):=e2
       rw [e]at e2
       cases e2
       obtain⟨ps,e3,_⟩:=hok' b _ (un.tbls b _ z)
       have C:CodeHd s₁.heap c b:=C
       exact .inr (.inl ⟨(C.tab e).isCodeTable,rfl, #[],ps,rfl,by simpa using e3⟩)
    ·rcases kp b o e with z | ⟨qq,z⟩
     ·exact⟨o,z⟩
     ·obtain⟨ps,e3,_⟩:=hok' b _ (un.tbls b _ z)
      exact⟨_,e3⟩
 have tabO:∀(H:Hp) (p:Addr×Str),p∈tbOf K names→ObjOk P w H s₁.heap p.1 (.tbl p.2):=fun H p hp=>by
  obtain⟨c,_,e⟩:=tabH p hp
  exact⟨#[],e,trivial,fun pos cv z=>by cases z⟩
 have lk:∀b q,(tbOf K names).lookup b=some q→(b,q)∈tbOf K names:=fun b q e=>zai5 e
 have aT:∀q,(a,q)∈tbOf K names→False:=fun q hm=>by
  obtain⟨c,_,e⟩:=tabH _ hm
  have e:s₁.heap.get? a=some (tabObj #[]):=e
  rw [ha]at e;cases e
 cases hk:K.lookup a with
 |some o =>
  have e:=KX a o hk
  rw [ha]at e
  cases e
  refine core (fun b=>((tbOf K names).lookup b).map HO.tbl) (.inr ⟨_,vs.toArray,_,hk,rfl,rfl,rfl,by rw [zbl6,lenV];exact hl,by simpa using rv⟩) (fun b u z=>?_) (fun p hp=>by simp only [(hn p hp).1,zbp8]) fun b u z=>?_
  ·cases q:(tbOf K names).lookup b with
   |none=>simp only [q]at z;cases z
   |some qq=>simp only [q]at z;cases z;exact tabO _ _ (lk b qq q)
  ·cases q:(tbOf K names).lookup b with
   |none=>simp only [q]at z;cases z
   |some qq=>simp only [q]at z;cases z;exact .inr ⟨qq,rfl,lk b qq q⟩
 |none =>
  refine core (fun b=>if b=a then some (.frz { cls:=.type "list",data:=.seq vs.toArray } (.lst (ns.map V.int))) else ((tbOf K names).lookup b).map HO.tbl) (.inl (.inr ⟨{ cls:=.type "list",data:=.seq vs.toArray },if_pos rfl⟩)) (fun b u z=>?_) (fun p hp=>?_) fun b u z=>?_
  ·by_cases hb:b=a
   ·have z':=(if_pos hb).symm.trans z
    cases z'
    subst hb
    exact⟨ha,by rw [zbm6];exact hl,vs,_,rv,ha⟩
   ·have z':=(if_neg hb).symm.trans z
    cases q:(tbOf K names).lookup b with
    |none=>simp only [q]at z';cases z'
    |some qq=>simp only [q]at z';cases z';exact tabO _ _ (lk b qq q)
  ·have:p.1≠a:=fun e=>aT p.2 (by rw [← e];exact hp)
   simp only [this,if_false,(hn p hp).1,zbp8]
  ·by_cases hb:b=a
   ·have z':=(if_pos hb).symm.trans z
    cases z'
    exact .inl ⟨hb,hk,_,_,rfl⟩
   ·have z':=(if_neg hb).symm.trans z
    cases q:(tbOf K names).lookup b with
    |none=>simp only [q]at z';cases z'
    |some qq=>simp only [q]at z';cases z';exact .inr ⟨qq,rfl,lk b qq q⟩
end L2
namespace L2
open PySem.W
theorem walk_ofT {l:zce9}{n k:Nat}{q:Program}{loose:List Str}{XP:(Str→Option Value)→Heap→Prop}{YP:World→Heap→Prop}{d:DefRec}{K:Params→zbj6}{CX:World→CXT}{sp:World→Sp}{x:Str}{names:List Str}
  (hn:l.most=some n) (hn2:n≤sizeLine) (hdf:d.params.defaults=[]) (hr:Room k callerA)
  (hY:∀(w:World) (h:Heap),YP w h→(K w.params).In h) (hrec:∀x∈names,∃dr,(recsOf q).find? (fun e=>e.name == x)=some dr)
  (F:∀(w:World) (mg:Str→Option Value) (fa:Addr) (h:Heap),(K w.params).In h→h.Ns mainGlobals mg→mg d.name=some (.ref fa) →
   TbOk (K w.params) names∧∃fd:FuncData,(∀(s:zbk8) (u:Value),BindsTo s fd ⟨[u],[]⟩ [(x,u)]) ∧
    ∀base:BHeap,base.tabs=tbOf (K w.params) names→(K w.params).In base→base.Ns mainGlobals mg→(∀x∈names,∀c P,tabIn (K w.params) x=some (c,P)→CodeHd base c P)→FnOk l.prog w (K w.params) mg base (CX w) k fa fd [x] (sp w))
  (hsp:∀(w:World) (H:Hp) (a:Addr) (ns:List Int),ns.length≤n→(∀i∈ns,i.natAbs<bndS)→SqL (K w.params) H a (ns.map V.int)→sp w [.ref a] H (fun v _=>v=.bl true) fun _ _ _=>False)
  (hCX:∀(w:World) (H:Hp) (s:zbk8) (e:Value) (s':zbk8),CX w [] H s (fun _ _ _=>False) e s'→False) :
  zci5 q loose XP YP l.row.toRowW d [] (fun f vs=>PySem.call f vs):=by
 intro w s₀ s₁ mg mb G Y fa o pm cd doc dV kV ho hd hcd hD hmg hg args vals as hpre hlay hrd hwl hlo
 obtain rfl:dV=.none:=Dflts.none hD hdf
 obtain rfl:kV=.none:=Dflts.noKw hD
 obtain⟨a,vs,ns,rfl,rfl,hobj,hints,hlen⟩:=Att.script_of hn hpre hwl
 have hb:=bnd_of hlay
 have KX:=hY w _ Y
 obtain⟨hok,fd,hbd,hF⟩:=F w mg fa _ KX G.T.g hmg
 refine enter_call (codeAny_mono (zbd4 KX G.T.g G.T.b G.T.builtins G.T.nolimit G.T.bmain hg hobj hints (zbq4 hlen hn2) hr (fun x hx c P e=>by
  obtain⟨dr,h⟩:=hrec x hx
  exact tab_of G.T KX h e) hok hF hbd (fun H hS=>hsp w H a ns hlen hb hS) fun H e s'=>hCX w H s₁ e s') fun r s' hq=>?_)
 obtain⟨rfl,h2,h3,h4⟩:=hq
 exact⟨.inl ⟨.bool true,.bool true,[],rfl,fun _=>rfl,.bool true,Att.post_true l _,fun _=>⟨List.Pairwise.nil,fun _ hm=>(nomatch hm)⟩⟩,h2,h3,h4⟩
end L2
namespace DL
open PySem.Spec L2
noncomputable def isSt:Expr→Bool
 |.Starred _ _=>true
 |_=>false
theorem zc2 {a:Expr}{es:List Expr}{env:Env} (h:isSt a=false):zbm0 (a::es) env=(false,eval a env)::zbm0 es env:=by
 cases a<;>first | rfl | cases h
theorem RS.putOwned {K:zbj6}{F A:List Addr}{H:Hp}{t:Th}{σ:L2.St}{i:Nat}{d:D}{v:V}{B:List Addr} (R:RS K (B++F) H A t σ) (nb:B.Nodup) (dj:∀b∈B,b∉F) (r:RepD K (hide (A++(B++F)) H) H d v B) (hi:i<t.length) :
  ∃A',(∀x∈A',x∈B∨x∈A)∧RS K F H A' (t.set i (.dp d)) (σ.set i (some v)):=by
 have lb:=r.lists
 obtain⟨A2,r2,sub2,nd2⟩:=RSl.setAny (s:=.dp d) (v:=v) (B:=B) (fun q=>.dp r q) i R.rel hi
 refine⟨A2,sub2,⟨fun p hp=>?_,nd2 R.nd nb (fun b hb z=>R.dj b z (zbj7 _ hb)),fun p hp=>?_,RSl.mono (zb2 H fun x hx=>?_) r2 fun _ _ _ w=>w⟩⟩
 ·rcases zbk1.mp hp with z | z
  ·rcases sub2 p z with w | w
   ·exact lb p w
   ·exact R.mu p (zbj7 _ w)
  ·exact R.mu p (zbj5 _ (zbj5 _ z))
 ·rcases sub2 p hp with w | w
  ·exact dj p w
  ·exact fun z=>R.dj p w (zbj5 _ z)
 ·rcases zbk1.mp hx with z | z
  ·rcases sub2 x z with w | w
   ·exact zbj5 _ (zbj7 _ w)
   ·exact zbj7 _ w
  ·exact zbj5 _ (zbj5 _ z)
theorem RS.less {K:zbj6}{F F' A:List Addr}{H:Hp}{t:Th}{σ:L2.St} (R:RS K F H A t σ) (h:∀b∈F',b∈F):RS K F' H A t σ :=
 ⟨fun p hp=>R.mu p ((zbk1.mp hp).elim (zbj7 _) fun z=>zbj5 _ (h p z)),R.nd,fun p hp z=>R.dj p hp (h p z),
  RSl.mono (zb2 H fun x hx=>(zbk1.mp hx).elim (zbj7 _) fun z=>zbj5 _ (h x z)) R.rel fun _ _ _ w=>w⟩
theorem RSl.loseDp {K:zbj6}{H0 H:Hp}:∀ {t:Th}{σ:L2.St}{A:List Addr},RSl K H0 H t σ A→A.Nodup→∀ {i:Nat}{d:D},t[i]?=some (.dp d)→∃v B A',σ[i]?=some (some v)∧RepD K H0 H d v B∧RSl K H0 H (t.set i .no) σ A'∧(∀x∈A',x∈A)∧(∀x∈B,x∈A)∧(∀x∈A,x∈B∨x∈A')∧B.Nodup∧A'.Nodup∧(∀x∈A',x∉B):=by
 intro _ _ _ h
 induction h with
 |nil =>
  intro n i d e
  simp at e
 |@no _ _ _ _ r ih =>
  intro n i d e
  cases i with
  |zero =>
   simp at e
  |succ i =>
   obtain⟨v,B,A',a1,a2,a3,a4⟩:=ih n (i:=i) (d:=d) (by simpa using e)
   exact⟨v,B,A',by simpa using a1,a2,.no a3,a4⟩
 |@val _ _ _ _ _ h r ih =>
  intro n i d e
  cases i with
  |zero =>
   simp at e
  |succ i =>
   obtain⟨v,B,A',a1,a2,a3,a4⟩:=ih n (i:=i) (d:=d) (by simpa using e)
   exact⟨v,B,A',by simpa using a1,a2,.val h a3,a4⟩
 |@own p _ _ _ _ _ h1 h2 r ih =>
  intro n i d e
  cases i with
  |zero =>
   simp at e
  |succ i =>
   have n0:=zbm9.mp n
   obtain⟨v,B,A',a1,a2,a3,a4,a5,a6,a7,a8,a9⟩:=ih n0.2 (i:=i) (d:=d) (by simpa using e)
   refine⟨v,B,p::A',by simpa using a1,a2,.own h1 h2 a3,fun x hx=>?_,fun x hx=>zbj9 _ (a5 x hx),fun x hx=>?_,a7,zbm9.mpr ⟨fun z=>n0.1 (a4 p z),a8⟩,fun x hx z=>?_⟩
   ·rcases zbk5.mp hx with w | w
    ·rw [w];exact zbk2 ..
    ·exact zbj9 _ (a4 x w)
   ·rcases zbk5.mp hx with w | w
    ·rw [w];exact .inr (zbk2 ..)
    ·exact (a6 x w).imp id (zbj9 _)
   ·rcases zbk5.mp hx with w | w
    ·exact n0.1 (w ▸ a5 x z)
    ·exact a9 x w z
 |@dp _ v C _ _ A h r ih =>
  intro n i d e
  cases i with
  |zero =>
   simp at e;subst e
   have n0:=zbm8.mp n
   exact⟨v,C,A,rfl,h,.no r,fun x hx=>zbj5 _ hx,fun x hx=>zbj7 _ hx,fun x hx=>zbk1.mp hx,n0.1,n0.2.1,fun x hx z=>n0.2.2 x z x hx rfl⟩
  |succ i =>
   have n0:=zbm8.mp n
   obtain⟨v,B,A',a1,a2,a3,a4,a5,a6,a7,a8,a9⟩:=ih n0.2.1 (i:=i) (d:=d) (by simpa using e)
   refine⟨v,B,C++A',by simpa using a1,a2,.dp h a3,fun x hx=>?_,fun x hx=>zbj5 _ (a5 x hx),fun x hx=>?_,a7,zbm8.mpr ⟨n0.1,a8,fun x hx y hy e=>n0.2.2 x hx y (a4 y hy) e⟩,fun x hx z=>?_⟩
   ·rcases zbk1.mp hx with w | w
    ·exact zbj7 _ w
    ·exact zbj5 _ (a4 x w)
   ·rcases zbk1.mp hx with w | w
    ·exact .inr (zbj7 _ w)
    ·exact (a6 x w).imp id (zbj5 _)
   ·rcases zbk1.mp hx with w | w
    ·exact n0.2.2 x w x (a5 x z) rfl
    ·exact a9 x w z
theorem RS.takeDp {K:zbj6}{F A:List Addr}{H:Hp}{t:Th}{σ:L2.St}{i:Nat}{d:D} (R:RS K F H A t σ) (e:t[i]?=some (.dp d)) :
  ∃v B A',σ[i]?=some (some v)∧RS K (B++F) H A' (t.set i .no) σ∧B.Nodup∧(∀b∈B,b∉F)∧RepD K (hide (A'++(B++F)) H) H d v B∧(∀x∈A',x∈A)∧(∀x∈B,x∈A):=by
 obtain⟨v,B,A',a1,a2,a3,a4,a5,a6,a7,a8,a9⟩:=R.rel.loseDp R.nd e
 have s:Same (hide (A++F) H) (hide (A'++(B++F)) H):=zb2 H fun x hx=>by
  rcases zbk1.mp hx with z | z
  ·exact zbj7 _ (a4 x z)
  ·rcases zbk1.mp z with z | z
   ·exact zbj7 _ (a5 x z)
   ·exact zbj5 _ z
 refine⟨v,B,A',a1,⟨fun p hp=>?_,a8,fun p hp z=>?_,RSl.mono s a3 fun _ _ _ w=>w⟩,a7,fun b hb=>R.dj b (a5 b hb),RepD.mono s a2 fun _ _ _ w=>w,a4,a5⟩
 ·rcases zbk1.mp hp with z | z
  ·exact R.mu p (zbj7 _ (a4 p z))
  ·rcases zbk1.mp z with z | z
   ·exact R.mu p (zbj7 _ (a5 p z))
   ·exact R.mu p (zbj5 _ z)
 ·rcases zbk1.mp z with z | z
  ·exact a9 p hp z
  ·exact R.dj p (a4 p hp) z
noncomputable abbrev DM:=Th→Option (D×Th)
noncomputable abbrev DMs:=Th→Option (List D×Th)
structure Mv (K:zbj6) (F A:List Addr) (H H':Hp) (B A':List Addr) (t':Th) (σ:L2.St):Prop where
 sm:Same H H'
 nd:B.Nodup
 dj:∀b∈B,b∉F
 rs:RS K (B++F) H' A' t' σ
 fr:∀b∈B,b∈A∨H b=none
 sb:∀b∈A',b∈A
theorem RSl.loseOwn {K:zbj6}{H0 H:Hp}:∀ {t:Th}{σ:L2.St}{A:List Addr},RSl K H0 H t σ A→A.Nodup→∀ {i:Nat}{ds:List D},t[i]?=some (.own ds)→∃p vs A',σ[i]?=some (some (.ref p))∧H p=some (.lst vs)∧Reps K H0 ds vs∧RSl K H0 H (t.set i .no) σ A'∧(∀x∈A',x∈A)∧p∈A∧(∀x∈A,x=p∨x∈A')∧A'.Nodup∧p∉A':=by
 intro _ _ _ h
 induction h with
 |nil =>
  intro n i d e
  simp at e
 |@no _ _ _ _ r ih =>
  intro n i d e
  cases i with
  |zero =>
   simp at e
  |succ i =>
   obtain⟨v,B,A',a1,a2,a2',a3,a4⟩:=ih n (i:=i) (ds:=d) (by simpa using e)
   exact⟨v,B,A',by simpa using a1,a2,a2',.no a3,a4⟩
 |@val _ _ _ _ _ h r ih =>
  intro n i d e
  cases i with
  |zero =>
   simp at e
  |succ i =>
   obtain⟨v,B,A',a1,a2,a2',a3,a4⟩:=ih n (i:=i) (ds:=d) (by simpa using e)
   exact⟨v,B,A',by simpa using a1,a2,a2',.val h a3,a4⟩
 |@own q vs _ _ _ A h1 h2 r ih =>
  intro n i d e
  cases i with
  |zero =>
   simp at e;subst e
   have n0:=zbm9.mp n
   exact⟨q,vs,A,rfl,h1,h2,.no r,fun x hx=>zbj9 _ hx,zbk2 ..,fun x hx=>zbk5.mp hx,n0.2,n0.1⟩
  |succ i =>
   have n0:=zbm9.mp n
   obtain⟨p,vs,A',a1,a2,a2',a3,a4,a5,a6,a7,a8⟩:=ih n0.2 (i:=i) (ds:=d) (by simpa using e)
   refine⟨p,vs,q::A',by simpa using a1,a2,a2',.own h1 h2 a3,fun x hx=>?_,zbj9 _ a5,fun x hx=>?_,zbm9.mpr ⟨fun z=>n0.1 (a4 q z),a7⟩,fun z=>?_⟩
   ·rcases zbk5.mp hx with w | w
    ·rw [w];exact zbk2 ..
    ·exact zbj9 _ (a4 x w)
   ·rcases zbk5.mp hx with w | w
    ·rw [w];exact .inr (zbk2 ..)
    ·exact (a6 x w).imp id (zbj9 _)
   ·rcases zbk5.mp z with w | w
    ·exact n0.1 (w ▸ a5)
    ·exact a8 w
 |@dp _ _ C _ _ _ h r ih =>
  intro n i d e
  cases i with
  |zero =>
   simp at e
  |succ i =>
   have n0:=zbm8.mp n
   obtain⟨p,vs,A',a1,a2,a2',a3,a4,a5,a6,a7,a8⟩:=ih n0.2.1 (i:=i) (ds:=d) (by simpa using e)
   refine⟨p,vs,C++A',by simpa using a1,a2,a2',.dp h a3,fun x hx=>?_,zbj5 _ a5,fun x hx=>?_,zbm8.mpr ⟨n0.1,a7,fun x hx y hy e=>n0.2.2 x hx y (a4 y hy) e⟩,fun z=>?_⟩
   ·rcases zbk1.mp hx with w | w
    ·exact zbj7 _ w
    ·exact zbj5 _ (a4 x w)
   ·rcases zbk1.mp hx with w | w
    ·exact .inr (zbj7 _ w)
    ·exact (a6 x w).imp id (zbj5 _)
   ·rcases zbk1.mp z with w | w
    ·exact n0.2.2 p w p a5 rfl
    ·exact a8 w
theorem RS.takeOwn {K:zbj6}{F A:List Addr}{H:Hp}{t:Th}{σ:L2.St}{i:Nat}{ds:List D} (R:RS K F H A t σ) (e:t[i]?=some (.own ds)) :
  ∃p vs A',σ[i]?=some (some (.ref p))∧RS K ([p]++F) H A' (t.set i .no) σ∧p∉F∧H p=some (.lst vs)∧Reps K (hide (A'++([p]++F)) H) ds vs∧(∀x∈A',x∈A)∧p∈A:=by
 obtain⟨p,vs,A',a1,a2,a2',a3,a4,a5,a6,a7,a8⟩:=R.rel.loseOwn R.nd e
 have s:Same (hide (A++F) H) (hide (A'++([p]++F)) H):=zb2 H fun x hx=>by
  rcases zbk1.mp hx with z | z
  ·exact zbj7 _ (a4 x z)
  ·rcases zbk1.mp z with z | z
   ·rw [zbm2.mp z];exact zbj7 _ a5
   ·exact zbj5 _ z
 refine⟨p,vs,A',a1,⟨fun q hp=>?_,a7,fun q hp z=>?_,RSl.mono s a3 fun _ _ _ w=>w⟩,R.dj p a5,a2,Reps.mono s a2',a4,a5⟩
 ·rcases zbk1.mp hp with z | z
  ·exact R.mu q (zbj7 _ (a4 q z))
  ·rcases zbk1.mp z with z | z
   ·rw [zbm2.mp z];exact R.mu p (zbj7 _ a5)
   ·exact R.mu q (zbj5 _ z)
 ·rcases zbk1.mp z with z | z
  ·rw [zbm2.mp z]at hp;exact a8 hp
  ·exact R.dj q (a4 q hp) z
end DL
namespace TS
section
variable (κ π:Keyed→Int)
noncomputable def rk (x:Keyed):Int:=κ x*1048576+π x
noncomputable def Ris (l:List Keyed):Prop:=l.Pairwise fun a b=>rk κ π a≤rk κ π b
noncomputable def ze4 (l m:List Keyed):Prop := ∀a∈l,∀b∈m,rk κ π a≤rk κ π b
variable {κ π}
theorem zf6 {l m:List Keyed} (h1:Ris κ π l) (h2:Ris κ π m) (h:ze4 κ π l m):Ris κ π (l++m):=zbo8.mpr ⟨h1,h2,h⟩
theorem ris_left {l m:List Keyed} (h:Ris κ π (l++m)):Ris κ π l:=(zbo8.mp h).1
theorem zaz9 {l m:List Keyed} (h:Ris κ π (l++m)):Ris κ π m:=(zbo8.mp h).2.1
theorem zba0 {l m:List Keyed} (h:Ris κ π (l++m)):ze4 κ π l m:=(zbo8.mp h).2.2
theorem zak8 {l:List Keyed}:ze4 κ π l []:=fun _ _ b hb=>by cases hb
theorem zai2 {l:List Keyed}:ze4 κ π [] l:=fun _ ha=>by cases ha
theorem zk3 {l m n:List Keyed} (h1:ze4 κ π l n) (h2:ze4 κ π m n):ze4 κ π (l++m) n:=fun a ha b hb=>(zbk1.mp ha).elim (fun z=>h1 a z b hb) fun z=>h2 a z b hb
theorem zu4 {l m n:List Keyed} (h1:ze4 κ π l m) (h2:ze4 κ π l n):ze4 κ π l (m++n):=fun a ha b hb=>(zbk1.mp hb).elim (fun z=>h1 a ha b z) fun z=>h2 a ha b z
theorem zo7 {l m n:List Keyed} (h:ze4 κ π l m) (hs:∀b∈n,b∈m):ze4 κ π l n:=fun a ha b hb=>h a ha b (hs b hb)
theorem zs2 {l m n:List Keyed} (h:ze4 κ π l m) (hs:∀a∈n,a∈l):ze4 κ π n m:=fun a ha b hb=>h a (hs a ha) b hb
theorem zf4 {l:List Keyed} (h:Ris κ π l) (n:Nat):Ris κ π (l.drop n):=by
 have:=zbl5 n l
 rw [← this]at h
 exact zaz9 h
theorem zg3 {l:List Keyed} (h:Ris κ π l) (n:Nat):Ris κ π (l.take n):=by
 have:=zbl5 n l
 rw [← this]at h
 exact ris_left h
theorem ze2 {l:List Keyed} (h:Ris κ π l) (n:Nat):ze4 κ π (l.take n) (l.drop n):=by
 have:=zbl5 n l
 rw [← this]at h
 exact zba0 h
theorem zag1 {α:Type} (l:List α) (i k:Nat):l.take (i+k)=l.take i++(l.drop i).take k:=List.take_add
structure Lo (X Y out:List Keyed) (i j:Nat):Prop where
 pm:out.Perm (X.take i++Y.take j)
 rs:Ris κ π out
 bx:ze4 κ π out (X.drop i)
 by':ze4 κ π out (Y.drop j)
variable {X Y out:List Keyed}{i j:Nat}
theorem Lo.x (h:Lo (κ:=κ) (π:=π) X Y out i j) (hX:Ris κ π X) (k:Nat) (hk:ze4 κ π ((X.drop i).take k) (Y.drop j)):Lo (κ:=κ) (π:=π) X Y (out++(X.drop i).take k) (i+k) j where
 pm:=by
  rw [zag1]
  refine (List.Perm.append_right _ h.pm).trans ?_
  rw [zbk9,zbk9]
  exact List.Perm.append_left _ zbp7
 rs:=zf6 h.rs (zg3 (zf4 hX i) k) (zo7 h.bx fun b hb=>zbo9 hb)
 bx:=by
  rw [← zbw1]
  refine zk3 (zo7 h.bx fun b hb=>zbn7 hb) (ze2 (zf4 hX i) k)
 by':=zk3 h.by' hk
theorem Lo.y (h:Lo (κ:=κ) (π:=π) X Y out i j) (hY:Ris κ π Y) (k:Nat) (hk:ze4 κ π ((Y.drop j).take k) (X.drop i)):Lo (κ:=κ) (π:=π) X Y (out++(Y.drop j).take k) i (j+k) where
 pm:=by
  rw [zag1, ← zbk9]
  exact List.Perm.append_right _ h.pm
 rs:=zf6 h.rs (zg3 (zf4 hY j) k) (zo7 h.by' fun b hb=>zbo9 hb)
 by':=by
  rw [← zbw1]
  refine zk3 (zo7 h.by' fun b hb=>zbn7 hb) (ze2 (zf4 hY j) k)
 bx:=zk3 h.bx hk
theorem Lo.endX (h:Lo (κ:=κ) (π:=π) X Y out i j) (hX:Ris κ π X) (hj:Y.length≤j):Ris κ π (out++X.drop i)∧(out++X.drop i).Perm (X++Y):=by
 refine⟨zf6 h.rs (zf4 hX i) h.bx,?_⟩
 refine (List.Perm.append_right _ h.pm).trans ?_
 rw [zbo1 hj,zbk9]
 refine (List.Perm.append_left _ zbp7).trans ?_
 rw [← zbk9,zbl5]
theorem Lo.endY (h:Lo (κ:=κ) (π:=π) X Y out i j) (hY:Ris κ π Y) (hi:X.length≤i):Ris κ π (out++Y.drop j)∧(out++Y.drop j).Perm (X++Y):=by
 refine⟨zf6 h.rs (zf4 hY j) h.by',?_⟩
 refine (List.Perm.append_right _ h.pm).trans ?_
 rw [zbo1 hi,zbk9,zbl5]
theorem Lo.last (h:Lo (κ:=κ) (π:=π) X Y out i j) (hX:Ris κ π X) (hY:Ris κ π Y) (hl:ze4 κ π (Y.drop j) (X.drop i)):Ris κ π (out++Y.drop j++X.drop i)∧(out++Y.drop j++X.drop i).Perm (X++Y):=by
 refine⟨zf6 (zf6 h.rs (zf4 hY j) h.by') (zf4 hX i) (zk3 h.bx hl),?_⟩
 refine (List.Perm.append_right _ (List.Perm.append_right _ h.pm)).trans ?_
 rw [zbk9,zbk9, ← zbk9 (Y.take j),zbl5]
 refine (List.Perm.append_left _ zbp7).trans ?_
 rw [← zbk9,zbl5]
theorem zac2 {α:Type}{l:List α}{i k:Nat} (h:k≤i):l.drop k=(l.take i).drop k++l.drop i:=by
 have e:=zbl5 (i - k) (l.drop k)
 rw [zbw1,show k+(i - k)=i by lia]at e
 rw [zbw2,e]
structure Hi (X Y out:List Keyed) (i j:Nat):Prop where
 pm:out.Perm (X.drop i++Y.drop j)
 rs:Ris κ π out.reverse
 bx:ze4 κ π (X.take i) out
 by':ze4 κ π (Y.take j) out
theorem zf9 {l m:List Keyed} (h:ze4 κ π l m):ze4 κ π l m.reverse:=fun a ha b hb=>h a ha b (List.mem_reverse.mp hb)
theorem Hi.x (h:Hi (κ:=κ) (π:=π) X Y out i j) (hX:Ris κ π X) (k:Nat) (hki:k≤i) (hk:ze4 κ π (Y.take j) ((X.take i).drop k)):Hi (κ:=κ) (π:=π) X Y (out++((X.take i).drop k).reverse) k j where
 pm:=by
  rw [zac2 (l:=X) hki]
  refine (List.Perm.append h.pm (zbt9 _)).trans ?_
  refine zbp7.trans ?_
  rw [zbk9]
 rs:=by
  rw [zcb9,zcb4]
  refine zf6 (zf4 (zg3 hX i) k) h.rs (zf9 (zs2 h.bx fun a ha=>zbn7 ha))
 bx:=by
  have e:X.take k=(X.take i).take k:=by rw [List.take_take];congr 1;lia
  rw [e]
  refine zu4 (zs2 h.bx fun a ha=>zbo9 ha) (zf9 (ze2 (zg3 hX i) k))
 by':=zu4 h.by' (zf9 hk)
theorem Hi.y (h:Hi (κ:=κ) (π:=π) X Y out i j) (hY:Ris κ π Y) (k:Nat) (hkj:k≤j) (hk:ze4 κ π (X.take i) ((Y.take j).drop k)):Hi (κ:=κ) (π:=π) X Y (out++((Y.take j).drop k).reverse) i k where
 pm:=by
  rw [zac2 (l:=Y) hkj]
  refine (List.Perm.append h.pm (zbt9 _)).trans ?_
  rw [zbk9]
  exact List.Perm.append_left _ zbp7
 rs:=by
  rw [zcb9,zcb4]
  refine zf6 (zf4 (zg3 hY j) k) h.rs (zf9 (zs2 h.by' fun a ha=>zbn7 ha))
 by':=by
  have e:Y.take k=(Y.take j).take k:=by rw [List.take_take];congr 1;lia
  rw [e]
  refine zu4 (zs2 h.by' fun a ha=>zbo9 ha) (zf9 (ze2 (zg3 hY j) k))
 bx:=zu4 h.bx (zf9 hk)
theorem Hi.endY (h:Hi (κ:=κ) (π:=π) X Y out i j) (hY:Ris κ π Y) (hi:i=0):Ris κ π (Y.take j++out.reverse)∧(Y.take j++out.reverse).Perm (X++Y):=by
 subst hi
 refine⟨zf6 (zg3 hY j) h.rs (zf9 h.by'),?_⟩
 refine (List.Perm.append_left _ ((zbt9 _).trans h.pm)).trans ?_
 refine zbp7.trans ?_
 rw [zbk9]
 refine List.Perm.append_left _ (zbp7.trans ?_)
 rw [zbl5]
theorem Hi.endX (h:Hi (κ:=κ) (π:=π) X Y out i j) (hX:Ris κ π X) (hj:j=0):Ris κ π (X.take i++out.reverse)∧(X.take i++out.reverse).Perm (X++Y):=by
 subst hj
 refine⟨zf6 (zg3 hX i) h.rs (zf9 h.bx),?_⟩
 refine (List.Perm.append_left _ ((zbt9 _).trans h.pm)).trans ?_
 rw [← zbk9,zbl5]
 simp
theorem Hi.first (h:Hi (κ:=κ) (π:=π) X Y out i j) (hX:Ris κ π X) (hY:Ris κ π Y) (hl:ze4 κ π (Y.take j) (X.take i)):Ris κ π (Y.take j++X.take i++out.reverse)∧(Y.take j++X.take i++out.reverse).Perm (X++Y):=by
 refine⟨zf6 (zf6 (zg3 hY j) (zg3 hX i) hl) h.rs (zk3 (zf9 h.by') (zf9 h.bx)),?_⟩
 refine (List.Perm.append_left _ ((zbt9 _).trans h.pm)).trans ?_
 rw [zbk9, ← zbk9 (X.take i),zbl5, ← zbk9]
 refine (List.Perm.append_right _ zbp7).trans ?_
 rw [zbk9,zbl5]
end
end TS
namespace TS
noncomputable def gal':Bool→Keyed→Array Keyed→Nat→Nat→Nat→StateT SortSt Sem (Option Nat):=sortPriv% PySem.Builtin.gallop
noncomputable def bey (lf:Bool) (ky:Keyed) (ar:Array Keyed) (bs i:Nat):StateT SortSt Sem (Option Bool):=do
 let z ← elem' ar (bs+i)
 if lf then lt' z ky else return (← lt' ky z).map (!·)
noncomputable def galEnd (lf:Bool) (ky:Keyed) (ar:Array Keyed) (bs m l0 u0:Nat):StateT SortSt Sem (Option Nat):=do
 let mut lw:=l0
 let mut up:=u0
 for _ in [0:m] do
  if lw ≥ up then break
  let md:=lw+(up - lw) / 2
  let some mr ← bey lf ky ar bs md | return none
  if mr then lw:=md+1 else up:=md
 return some up
theorem gal'_eq (lf:Bool) (ky:Keyed) (ar:Array Keyed) (bs m ht:Nat):gal' lf ky ar bs m ht=(do
 let mut la:=0
 let mut of1:=1
 let mut lw:=0
 let mut up:=0
 let some rt ← bey lf ky ar bs ht | return none
 if rt then
  let mx:=m - ht
  for _ in [0:m] do
   if of1 ≥ mx then break
   let some mr ← bey lf ky ar bs (ht+of1) |return none
   if !mr then break
   la:=of1
   of1:=2*of1+1
  lw:=ht+la+1
  up:=ht+min of1 mx
 else
  let mx:=ht+1
  for _ in [0:m] do
   if of1 ≥ mx then break
   let some fd ← bey lf ky ar bs (ht - of1) |return none
   if fd then break
   la:=of1
   of1:=2*of1+1
  lw:=ht+1 - min of1 mx
  up:=ht - la
 for _ in [0:m] do
  if lw ≥ up then break
  let md:=lw+(up - lw) / 2
  let some mr ← bey lf ky ar bs md | return none
  if mr then lw:=md+1 else up:=md
 return some up):=rfl
structure Cmp (M:Model) (A:Around) (E:Value→zbk8→Prop) (s:zbk8) (κ π:Keyed→Int) (a₀:Array Keyed) (kd:SortKind):Prop where
 lt:∀(st:SortSt) (x y:Keyed) (Q:Option Bool→SortSt→Prop),kindOf st=kd→x∈a₀.toList→y∈a₀.toList→Q (some (decide (κ x<κ y))) st→wpS M A E s (lt' x y) Q st
 pi:∀x∈a₀.toList,0≤π x∧π x<1048576
section
variable {M:Model}{A:Around}{E:Value→zbk8→Prop}{s:zbk8}{κ π:Keyed→Int}{a₀:Array Keyed}{kd:SortKind} (C:Cmp M A E s κ π a₀ kd)
theorem zd6 {ar:Array Keyed}{i:Nat}{z:Keyed}{Q:Keyed→SortSt→Prop}{st:SortSt} (hz:ar[i]?=some z) (h:Q z st):wpS M A E s (elem' ar i) Q st:=by
 rw [elem'_eq,hz];exact zbm3 h
noncomputable def bv (κ:Keyed→Int) (lf:Bool) (ky z:Keyed):Bool:=if lf then decide (κ z<κ ky) else !decide (κ ky<κ z)
include C in
theorem wp_bey {lf:Bool}{ky z:Keyed}{ar:Array Keyed}{bs i:Nat}{Q:Option Bool→SortSt→Prop}{st:SortSt} (hk:kindOf st=kd) (hz:ar[bs+i]?=some z) (mz:z∈a₀.toList) (mk:ky∈a₀.toList) (h:Q (some (bv κ lf ky z)) st) :
  wpS M A E s (bey lf ky ar bs i) Q st:=by
 unfold bey
 refine zbl7 (zd6 hz ?_)
 cases lf with
 |true=>exact C.lt st z ky Q hk mz mk h
 |false=>exact zbl7 (C.lt st ky z _ hk mk mz (zbm3 h))
include C in
theorem zaa9 {lf:Bool}{ky:Keyed}{ar:Array Keyed}{bs m ht:Nat}{Q:Option Nat→SortSt→Prop}{st:SortSt} (hk:kindOf st=kd) (f:Nat→Bool) (hz:∀i,i<m→∃z,ar[bs+i]?=some z∧z∈a₀.toList∧bv κ lf ky z=f i) (mk:ky∈a₀.toList)
  (mono:∀i j,i≤j→j<m→f j=true→f i=true) (hht:ht<m) (h:∀n,n≤m→(∀i,i<n→f i=true)→(∀i,n≤i→i<m→f i=false)→Q (some n) st) :
  wpS M A E s (gal' lf ky ar bs m ht) Q st:=by
 have by':∀i {Q':Option Bool→SortSt→Prop},i<m→Q' (some (f i)) st→wpS M A E s (bey lf ky ar bs i) Q' st:=fun i Q' hi hq=>by
  obtain⟨z,z1,z2,z3⟩:=hz i hi
  exact wp_bey C hk z1 z2 mk (by rw [z3];exact hq)
 have nf:∀i j,i≤j→j<m→f i=false→f j=false:=fun i j h1 h2 h3=>by
  cases e:f j with
  |false=>rfl
  |true=>rw [mono i j h1 h2 e]at h3;cases h3
 have fin:∀lw up,lw≤up→up≤m→(∀i,i<lw→f i=true)→(∀i,up≤i→i<m→f i=false) →
   wpS M A E s (galEnd lf ky ar bs m lw up) Q st:=fun lw up h1 h2 h3 h4=>by
  unfold galEnd
  refine zbl7 (wpS_forRange (I:=fun x c st'=>st'=st∧∃l u,c=(none,l,u)∧l≤u∧u≤m∧u - l≤m - x∧(∀i,i<l→f i=true)∧(∀i,u≤i→i<m→f i=false)) ?_ ?_ ⟨rfl,lw,up,rfl,h1,h2,by lia,h3,h4⟩)
  ·rintro x c st' _ hx ⟨rfl,l,u,rfl,a1,a2,a3,a4,a5⟩
   dsimp only
   by_cases hge:l ≥ u
   ·rw [if_pos hge]
    refine zbm3 ?_
    have:l=u:=by lia
    subst this
    exact zbm3 (h l a2 a4 a5)
   ·rw [if_neg hge]
    refine zbl7 (by' _ (by lia) ?_)
    cases e:f (l+(u - l) / 2) with
    |true=>exact zbm3 ⟨rfl,_,_,rfl,by lia,a2,by lia,fun i hi=>mono i _ (by lia) (by lia) e,a5⟩
    |false=>exact zbm3 ⟨rfl,_,_,rfl,by lia,by lia,by lia,a4,fun i h1 h2=>nf _ i h1 h2 e⟩
  ·rintro c st' ⟨rfl,l,u,rfl,a1,a2,a3,a4,a5⟩
   have:l=u:=by lia
   subst this
   exact zbm3 (h l a2 a4 a5)
 rw [gal'_eq]
 refine zbl7 (by' ht hht ?_)
 cases e:f ht with
 |true =>
  dsimp only
  rw [if_pos rfl]
  refine zbl7 (wpS_forRange (I:=fun x c st'=>st'=st∧∃la o,c=(none,la,o)∧la<o∧x+1≤o∧ht+la<m∧f (ht+la)=true) ?_ ?_ ⟨rfl,0,1,rfl,by lia,by lia,by lia,e⟩)
  ·rintro x c st' _ hx ⟨rfl,la,o,rfl,a1,a2,a3,a4⟩
   dsimp only
   by_cases hge:o ≥ m - ht
   ·rw [if_pos hge]
    refine zbm3 ?_
    exact fin (ht+la+1) (ht+min o (m - ht)) (by lia) (by lia) (fun i hi=>mono i _ (by lia) a3 a4) (fun i h1 h2=>by lia)
   ·rw [if_neg hge]
    refine zbl7 (by' _ (by lia) ?_)
    cases e2:f (ht+o) with
    |true=>exact zbm3 ⟨rfl,_,_,rfl,by lia,by lia,by lia,e2⟩
    |false =>
     refine zbm3 ?_
     exact fin (ht+la+1) (ht+min o (m - ht)) (by lia) (by lia) (fun i hi=>mono i _ (by lia) a3 a4) (fun i h1 h2=>nf _ i (by lia) h2 e2)
  ·rintro c st' ⟨rfl,la,o,rfl,a1,a2,a3,a4⟩
   exact fin (ht+la+1) (ht+min o (m - ht)) (by lia) (by lia) (fun i hi=>mono i _ (by lia) a3 a4) (fun i h1 h2=>by lia)
 |false =>
  dsimp only
  rw [if_neg (by decide)]
  refine zbl7 (wpS_forRange (I:=fun x c st'=>st'=st∧∃la o,c=(none,la,o)∧la<o∧x+1≤o∧la≤ht∧f (ht - la)=false) ?_ ?_ ⟨rfl,0,1,rfl,by lia,by lia,by lia,e⟩)
  ·rintro x c st' _ hx ⟨rfl,la,o,rfl,a1,a2,a3,a4⟩
   dsimp only
   by_cases hge:o ≥ ht+1
   ·rw [if_pos hge]
    refine zbm3 ?_
    exact fin (ht+1 - min o (ht+1)) (ht - la) (by lia) (by lia) (fun i hi=>by lia) (fun i h1 h2=>nf _ i h1 h2 a4)
   ·rw [if_neg hge]
    refine zbl7 (by' _ (by lia) ?_)
    cases e2:f (ht - o) with
    |true =>
     refine zbm3 ?_
     exact fin (ht+1 - min o (ht+1)) (ht - la) (by lia) (by lia) (fun i hi=>mono i _ (by lia) (by lia) e2) (fun i h1 h2=>nf _ i h1 h2 a4)
    |false=>exact zbm3 ⟨rfl,_,_,rfl,by lia,by lia,by lia,e2⟩
  ·rintro c st' ⟨rfl,la,o,rfl,a1,a2,a3,a4⟩
   exact fin (ht+1 - min o (ht+1)) (ht - la) (by lia) (by lia) (fun i hi=>by lia) (fun i h1 h2=>nf _ i h1 h2 a4)
end
end TS
namespace TS
noncomputable def mLo':Array Keyed→Array Keyed→StateT SortSt Sem (Array Keyed):=sortPriv% PySem.Builtin.mergeLo
noncomputable def mHi':Array Keyed→Array Keyed→StateT SortSt Sem (Array Keyed):=sortPriv% PySem.Builtin.mergeHi
noncomputable abbrev setG (st:SortSt) (g:Nat):SortSt:=SortSt.mk' (kindOf st) (arrOf st) (pendingOf st) g (failedOf st)
noncomputable def smg (g:Nat):StateT SortSt Sem Unit:=modify fun q=>setG q g
theorem mLo'_eq (xs ys:Array Keyed):mLo' xs ys=(do
 rule "list.sort.merge-lo"
 let tot:=xs.size+ys.size
 let fin (o:Array Keyed) (i j:Nat):=o++xs.extract i xs.size++ys.extract j ys.size
 let lst (o:Array Keyed) (i j:Nat):=o++ys.extract j ys.size++xs.extract i xs.size
 let mut o:Array Keyed := #[← elem' ys 0]
 let mut i:=0
 let mut j:=1
 if j == ys.size then return fin o i j
 if i+1 == xs.size then return lst o i j
 let mut mg:=gallopOf (← get)
 for _ in [0:tot] do
  let mut ac:=0
  let mut bc:=0
  for _ in [0:tot] do
   let some bw ← lt' (← elem' ys j) (← elem' xs i) |return fin o i j
   if bw then
    o:=o.push (← elem' ys j);j:=j+1;bc:=bc+1;ac:=0
    if j == ys.size then return fin o i j
    if bc ≥ mg then break
   else
    o:=o.push (← elem' xs i);i:=i+1;ac:=ac+1;bc:=0
    if i+1 == xs.size then return lst o i j
    if ac ≥ mg then break
  rule "list.sort.gallop"
  mg:=mg+1
  for _ in [0:tot] do
   if mg > 1 then mg:=mg - 1
   smg mg
   let some k ← gal' false (← elem' ys j) xs i (xs.size - i) 0 | return fin o i j
   ac:=k
   if k > 0 then
    o:=o++xs.extract i (i+k);i:=i+k
    if i+1 == xs.size then return lst o i j
    if i == xs.size then return fin o i j
   o:=o.push (← elem' ys j);j:=j+1
   if j == ys.size then return fin o i j
   let some k ← gal' true (← elem' xs i) ys j (ys.size - j) 0 | return fin o i j
   bc:=k
   if k > 0 then
    o:=o++ys.extract j (j+k);j:=j+k
    if j == ys.size then return fin o i j
   o:=o.push (← elem' xs i);i:=i+1
   if i+1 == xs.size then return lst o i j
   if ac<7&&bc<7 then break
  mg:=mg+1
  smg mg
 unsupported "internal:list.sort.merge-bound"):=rfl
section
variable {κ π:Keyed→Int}
theorem rk_le {x y:Keyed} (h1:κ x≤κ y) (h2:π x≤π y):rk κ π x≤rk κ π y:=by unfold rk;lia
theorem rk_lt {a₀:Array Keyed} (hp:∀x∈a₀.toList,0≤π x∧π x<1048576) {x y:Keyed} (mx:x∈a₀.toList) (my:y∈a₀.toList) (h:κ x<κ y):rk κ π x≤rk κ π y:=by
 have a:=hp x mx
 have b:=hp y my
 unfold rk;lia
theorem zz1 {α:Type}{X:List α}{i:Nat}{x:α} (h:X[i]?=some x):X.drop i=x::X.drop (i+1):=by
 obtain⟨hi,e⟩:=zbn0.mp h
 rw [zbu3 hi,e]
theorem zk2 {X:List Keyed}{i:Nat}{x c:Keyed} (hX:Ris κ π X) (h:X[i]?=some x) (hc:rk κ π c≤rk κ π x):ze4 κ π [c] (X.drop i):=by
 intro a ha b hb
 rw [zbm2.mp ha]
 have e:=zz1 h
 rw [e]at hb
 rcases zbk5.mp hb with z | z
 ·rw [z];exact hc
 ·have r:=zf4 hX i
  rw [e]at r
  exact zbv2 hc ((zbn2.mp r).1 b z)
theorem zs1 {α:Type}{X:List α}{i:Nat}{x:α} (h:X[i]?=some x):(X.drop i).take 1=[x]:=by rw [zz1 h];rfl
theorem zo2 {α:Type}{X:List α}{i k:Nat}{c:α} (h:c∈(X.drop i).take k):∃n,n<k∧X[i+n]?=some c:=by
 obtain⟨n,hn,e⟩:=zbu2.mp h
 refine⟨n,by simp at hn;lia,?_⟩
 rw [zcd3,zbz3]at e
 rw [zbn0]
 exact⟨by simp at hn;lia,e⟩
end
section
variable {M:Model}{A:Around}{E:Value→zbk8→Prop}{s:zbk8}{κ π:Keyed→Int}{a₀:Array Keyed}{kd:SortKind} (C:Cmp M A E s κ π a₀ kd)
structure SameS (st st':SortSt):Prop where
 arr:arrOf st'=arrOf st
 knd:kindOf st'=kindOf st
 pnd:pendingOf st'=pendingOf st
 fld:failedOf st'=failedOf st
theorem SameS.refl (st:SortSt):SameS st st:=⟨rfl,rfl,rfl,rfl⟩
theorem SameS.trans {a b c:SortSt} (h:SameS a b) (g:SameS b c):SameS a c:=⟨g.arr.trans h.arr,g.knd.trans h.knd,g.pnd.trans h.pnd,g.fld.trans h.fld⟩
theorem zap6 {g:Nat}{Q:Unit→SortSt→Prop}{st:SortSt} (h:Q () (setG st g)):wpS M A E s (smg g) Q st:=wpS_modify h
theorem sameG {st st':SortSt}{g:Nat} (h:SameS st st'):SameS st (setG st' g):=⟨h.arr,h.knd,h.pnd,h.fld⟩
structure Two (κ π:Keyed→Int) (a₀:Array Keyed) (xs ys:Array Keyed):Prop where
 mx:∀x∈xs.toList,x∈a₀.toList
 my:∀y∈ys.toList,y∈a₀.toList
 rx:Ris κ π xs.toList
 ry:Ris κ π ys.toList
 sep:∀x∈xs.toList,∀y∈ys.toList,π x≤π y
 px:0<xs.size
 py:0<ys.size
 first:∀x y,xs[0]?=some x→ys[0]?=some y→κ y<κ x
 last:∀x,xs[xs.size - 1]?=some x→∀y∈ys.toList,κ y<κ x
noncomputable def Res (κ π:Keyed→Int) (xs ys:Array Keyed) (st:SortSt) (o:Array Keyed) (st':SortSt):Prop:=SameS st st'∧Ris κ π o.toList∧o.toList.Perm (xs.toList++ys.toList)
theorem zv2 {xs:Array Keyed}{i:Nat}:(xs.extract i xs.size).toList=xs.toList.drop i:=by
 rw [zbr3]
 have e:zbw8 xs.toList i xs.size=(xs.toList.drop i).take (xs.size - i):=by simp [zbw8]
 first
  |exact zbo1 (by simp)
  |(rw [e];exact zbo1 (by simp))
theorem res_y {xs ys o:Array Keyed}{i j:Nat}{st st':SortSt} (rx:Ris κ π xs.toList) (ss:SameS st st') (L:Lo (κ:=κ) (π:=π) xs.toList ys.toList o.toList i j) (hj:j=ys.size):Res κ π xs ys st (o++xs.extract i xs.size++ys.extract j ys.size) st':=by
 have e:(o++xs.extract i xs.size++ys.extract j ys.size).toList=o.toList++xs.toList.drop i:=by
  rw [zbn3,zbn3,zv2,zv2,hj,zbq8 (l:=ys.toList) (by simp),zbr1]
 unfold Res
 rw [e]
 exact⟨ss,L.endX rx (by simp [hj])⟩
theorem res_x {xs ys o:Array Keyed}{i j:Nat}{st st':SortSt} (ry:Ris κ π ys.toList) (ss:SameS st st') (L:Lo (κ:=κ) (π:=π) xs.toList ys.toList o.toList i j) (hi:i=xs.size):Res κ π xs ys st (o++xs.extract i xs.size++ys.extract j ys.size) st':=by
 have e:(o++xs.extract i xs.size++ys.extract j ys.size).toList=o.toList++ys.toList.drop j:=by
  rw [zbn3,zbn3,zv2,zv2,hi,zbq8 (l:=xs.toList) (by simp),zbr1]
 unfold Res
 rw [e]
 exact⟨ss,L.endY ry (by simp [hi])⟩
theorem res_l {a₀ xs ys o:Array Keyed}{i j:Nat}{st st':SortSt} (hp:∀x∈a₀.toList,0≤π x∧π x<1048576) (T:Two κ π a₀ xs ys) (ss:SameS st st') (L:Lo (κ:=κ) (π:=π) xs.toList ys.toList o.toList i j) (hi:i+1=xs.size):Res κ π xs ys st (o++ys.extract j ys.size++xs.extract i xs.size) st':=by
 have e:(o++ys.extract j ys.size++xs.extract i xs.size).toList=o.toList++ys.toList.drop j++xs.toList.drop i:=by
  rw [zbn3,zbn3,zv2,zv2]
 unfold Res
 rw [e]
 refine⟨ss,L.last T.rx T.ry fun a ha b hb=>?_⟩
 have hlt:i<xs.size:=by lia
 have ex:xs.toList[i]?=some xs[i]:=by simp [hlt]
 rw [zz1 ex,zbq8 (by simp;lia)]at hb
 have hb':=zbm2.mp hb
 have ma:a∈ys.toList:=zbn7 ha
 have q:=T.last xs[i] (by rw [show xs.size - 1=i by lia];simp [hlt]) a ma
 rw [hb']
 exact rk_lt hp (T.my a ma) (T.mx _ (by simp)) q
theorem zn0 {o:Array Keyed}{z:Keyed}:(o.push z).toList=o.toList++[z]:=by simp
theorem zbj3 {o xs:Array Keyed}{i k:Nat}:(o++xs.extract i (i+k)).toList=o.toList++(xs.toList.drop i).take k:=by
 rw [zbn3,zbr3]
 simp
noncomputable abbrev LS:=Option (Array Keyed)×Array Keyed×Nat×Nat×Nat×Nat×Nat
noncomputable def loC (xs ys o:Array Keyed) (i j mg k k1:Nat):StateT SortSt Sem (ForInStep LS):=do
 let z ← elem' xs i
 if (i+1+1 == xs.size)=true then pure (.done (some (o.push z++ys.extract j ys.size++xs.extract (i+1) xs.size),o.push z,i+1,j,mg,k,k1))
 else if (decide (k<7)&&decide (k1<7))=true then pure (.done (none,o.push z,i+1,j,mg,k,k1)) else pure (.yield (none,o.push z,i+1,j,mg,k,k1))
noncomputable def loB (xs ys o:Array Keyed) (i j mg k bc:Nat):StateT SortSt Sem (ForInStep LS):=do
 let z ← elem' ys j
 if (j+1 == ys.size)=true then pure (.done (some (o.push z++xs.extract i xs.size++ys.extract (j+1) ys.size),o.push z,i,j+1,mg,k,bc))
 else do
  let w ← elem' xs i
  let r ← gal' true w ys (j+1) (ys.size - (j+1)) 0
  match r with
  |some k1 =>
   if k1 > 0 then
    if (j+1+k1 == ys.size)=true then pure (.done (some ((o.push z++ys.extract (j+1) (j+1+k1))++xs.extract i xs.size++ys.extract (j+1+k1) ys.size),o.push z++ys.extract (j+1) (j+1+k1),i,j+1+k1,mg,k,k1))
    else loC xs ys (o.push z++ys.extract (j+1) (j+1+k1)) i (j+1+k1) mg k k1
   else loC xs ys (o.push z) i (j+1) mg k k1
  |_=>pure (.done (some (o.push z++xs.extract i xs.size++ys.extract (j+1) ys.size),o.push z,i,j+1,mg,k,bc))
noncomputable def loA (xs ys o:Array Keyed) (i j mg bc:Nat) (ac:Nat):StateT SortSt Sem (ForInStep LS):=do
 smg mg
 let w ← elem' ys j
 let r ← gal' false w xs i (xs.size - i) 0
 match r with
 |some k =>
  if k > 0 then
   if (i+k+1 == xs.size)=true then pure (.done (some ((o++xs.extract i (i+k))++ys.extract j ys.size++xs.extract (i+k) xs.size),o++xs.extract i (i+k),i+k,j,mg,k,bc))
   else if (i+k == xs.size)=true then pure (.done (some ((o++xs.extract i (i+k))++xs.extract (i+k) xs.size++ys.extract j ys.size),o++xs.extract i (i+k),i+k,j,mg,k,bc))
   else loB xs ys (o++xs.extract i (i+k)) (i+k) j mg k bc
  else loB xs ys o i j mg k bc
 |_=>pure (.done (some (o++xs.extract i xs.size++ys.extract j ys.size),o,i,j,mg,ac,bc))
noncomputable def JL (κ π:Keyed→Int) (xs ys:Array Keyed) (st:SortSt) (b:Nat) (o:Array Keyed) (i j:Nat) (st':SortSt):Prop :=
 SameS st st'∧Lo (κ:=κ) (π:=π) xs.toList ys.toList o.toList i j∧i+1<xs.size∧j<ys.size∧b≤i+j
noncomputable def PL1 (κ π:Keyed→Int) (xs ys:Array Keyed) (st:SortSt) (b:Nat) (c:LS) (st':SortSt):Prop:=(∃r,c.1=some r∧Res κ π xs ys st r st')∨(c.1=none∧JL κ π xs ys st b c.2.1 c.2.2.1 c.2.2.2.1 st')
noncomputable def PLo (κ π:Keyed→Int) (xs ys:Array Keyed) (st:SortSt) (b:Nat) (r:ForInStep LS) (st':SortSt):Prop:=match r with
 |.done c=>PL1 κ π xs ys st b c st'
 |.yield c=>c.1=none∧JL κ π xs ys st b c.2.1 c.2.2.1 c.2.2.2.1 st'
variable {xs ys:Array Keyed}{st:SortSt} (hk:kindOf st=kd) (T:Two κ π a₀ xs ys)
theorem zg6 {xs:Array Keyed}{i:Nat} (hi:i<xs.size):∃x,xs[i]?=some x∧xs.toList[i]?=some x∧x∈xs.toList:=⟨xs[i],by simp [hi],by simp [hi],by simp⟩
include T in
theorem push1 {o:Array Keyed}{i j:Nat}{x:Keyed} (L:Lo (κ:=κ) (π:=π) xs.toList ys.toList o.toList i j) (ex:xs.toList[i]?=some x) (hb:ze4 κ π [x] (ys.toList.drop j)):Lo (κ:=κ) (π:=π) xs.toList ys.toList (o.push x).toList (i+1) j:=by
 rw [zn0, ← zs1 ex]
 exact L.x T.rx 1 (by rw [zs1 ex];exact hb)
include T in
theorem push2 {o:Array Keyed}{i j:Nat}{y:Keyed} (L:Lo (κ:=κ) (π:=π) xs.toList ys.toList o.toList i j) (ex:ys.toList[j]?=some y) (hb:ze4 κ π [y] (xs.toList.drop i)):Lo (κ:=κ) (π:=π) xs.toList ys.toList (o.push y).toList i (j+1):=by
 rw [zn0, ← zs1 ex]
 exact L.y T.ry 1 (by rw [zs1 ex];exact hb)
include C T in
theorem wp_loC {o:Array Keyed}{i j mg k k1 b:Nat}{st':SortSt} (ss:SameS st st') (L:Lo (κ:=κ) (π:=π) xs.toList ys.toList o.toList i j) (hi:i+1<xs.size) (hj:j<ys.size) (hb:b≤i+j)
  (hle:∀x,xs.toList[i]?=some x→ze4 κ π [x] (ys.toList.drop j)):wpS M A E s (loC xs ys o i j mg k k1) (PLo κ π xs ys st b) st':=by
 unfold loC
 obtain⟨x,e1,e2,m⟩:=zg6 (xs:=xs) (i:=i) (by lia)
 refine zbl7 (zd6 e1 ?_)
 have L1:=push1 T L e2 (hle x e2)
 by_cases c1:i+1+1=xs.size
 ·rw [if_pos (by simpa using c1)]
  exact zbm3 (.inl ⟨_,rfl,res_l C.pi T ss L1 c1⟩)
 ·rw [if_neg (by simpa using c1)]
  have J:JL κ π xs ys st b (o.push x) (i+1) j st':=⟨ss,L1,by lia,hj,by lia⟩
  split
  ·exact zbm3 (.inr ⟨rfl,J⟩)
  ·exact zbm3 ⟨rfl,J⟩
include C T in
theorem zaw4 {x y:Keyed} (mx:x∈xs.toList) (my:y∈ys.toList) (h:κ x≤κ y):rk κ π x≤rk κ π y:=rk_le h (T.sep x mx y my)
include C T in
theorem zan9 {x y:Keyed} (mx:x∈xs.toList) (my:y∈ys.toList) (h:κ y<κ x):rk κ π y≤rk κ π x:=rk_lt C.pi (T.my y my) (T.mx x mx) h
theorem zq9 {l:List Keyed} (h:Ris κ π l) {i j:Nat}{a b:Keyed} (hij:i≤j) (h1:l[i]?=some a) (h2:l[j]?=some b):rk κ π a≤rk κ π b:=by
 obtain⟨hi,rfl⟩:=zbn0.mp h1
 obtain⟨hj,rfl⟩:=zbn0.mp h2
 by_cases z:i=j
 ·subst z;exact zbr5 _
 ·exact zbs0.mp h i j hi hj (by lia)
theorem zab6 (hp:∀x∈a₀.toList,0≤π x∧π x<1048576) {a b:Keyed} (ma:a∈a₀.toList) (mb:b∈a₀.toList) (h:rk κ π a≤rk κ π b):κ a≤κ b:=by
 have p:=hp a ma
 have q:=hp b mb
 unfold rk at h
 lia
include C T hk in
theorem wp_loB {o:Array Keyed}{i j mg k bc b:Nat}{st':SortSt} (ss:SameS st st') (L:Lo (κ:=κ) (π:=π) xs.toList ys.toList o.toList i j) (hi:i+1<xs.size) (hj:j<ys.size) (hb:b≤i+j)
  (hle:∀x y,xs.toList[i]?=some x→ys.toList[j]?=some y→κ y<κ x):wpS M A E s (loB xs ys o i j mg k bc) (PLo κ π xs ys st b) st':=by
 unfold loB
 obtain⟨x,ex,ex',mx⟩:=zg6 (xs:=xs) (i:=i) (by lia)
 obtain⟨y,ey,ey',my⟩:=zg6 (xs:=ys) (i:=j) (by lia)
 refine zbl7 (zd6 ey ?_)
 have L1:=push2 T L ey' (zk2 T.rx ex' (zan9 C T mx my (hle x y ex' ey')))
 by_cases c1:j+1=ys.size
 ·rw [if_pos (by simpa using c1)]
  exact zbm3 (.inl ⟨_,rfl,res_y T.rx ss L1 c1⟩)
 rw [if_neg (by simpa using c1)]
 refine zbl7 (zd6 ex ?_)
 refine zbl7 (zaa9 C (ss.knd.trans hk) (fun n=>match ys.toList[j+1+n]? with | some z=>decide (κ z<κ x) |none=>false) (fun n hn=>?_) (T.mx x mx) (fun n m hnm hm e=>?_) (by lia) fun k1 hk1 hlo hhi=>?_)
 ·obtain⟨z,z1,z2,z3⟩:=zg6 (xs:=ys) (i:=j+1+n) (by lia)
  exact⟨z,z1,T.my z z3,by rw [z2];rfl⟩
 ·obtain⟨z,z1,z2,z3⟩:=zg6 (xs:=ys) (i:=j+1+n) (by lia)
  obtain⟨w,w1,w2,w3⟩:=zg6 (xs:=ys) (i:=j+1+m) (by lia)
  rw [w2]at e
  rw [z2]
  have q:=zab6 C.pi (T.my z z3) (T.my w w3) (zq9 T.ry (show j+1+n≤j+1+m by lia) z2 w2)
  simp only [decide_eq_true_eq]at e ⊢
  lia
 ·have ch:∀n,n<k1→∀z,ys.toList[j+1+n]?=some z→κ z<κ x:=fun n hn z ez=>by
   have:=hlo n hn
   rw [ez]at this
   simpa using this
  have L2:Lo (κ:=κ) (π:=π) xs.toList ys.toList (o.push y++ys.extract (j+1) (j+1+k1)).toList i (j+1+k1):=by
   rw [zbj3]
   refine L1.y T.ry k1 fun a ha=>?_
   obtain⟨n,hn,en⟩:=zo2 ha
   exact zk2 T.rx ex' (zan9 C T mx (zbn6 en) (ch n hn a en)) a (zbm2.mpr rfl)
  have nxt:∀n,j+1+k1=n→n<ys.size→∀z,xs.toList[i]?=some z→ze4 κ π [z] (ys.toList.drop n):=fun n en hn z ez=>by
   rw [ex']at ez
   cases ez
   obtain⟨w,w1,w2,w3⟩:=zg6 (xs:=ys) (i:=n) hn
   have:=hhi k1 (zbl3 _) (by lia)
   rw [en,w2]at this
   refine zk2 T.ry w2 (zaw4 C T mx w3 ?_)
   simpa using this
  dsimp only
  by_cases k0:k1 > 0
  ·rw [if_pos k0]
   by_cases c2:j+1+k1=ys.size
   ·rw [if_pos (by simpa using c2)]
    exact zbm3 (.inl ⟨_,rfl,res_y T.rx ss L2 c2⟩)
   ·rw [if_neg (by simpa using c2)]
    exact wp_loC C T ss L2 hi (by lia) (by lia) (nxt _ rfl (by lia))
  ·rw [if_neg k0]
   exact wp_loC C T ss L1 hi (by lia) (by lia) (nxt _ (by lia) (by lia))
include C T hk in
theorem wp_loA {o:Array Keyed}{i j mg bc ac b:Nat}{st':SortSt} (J:JL κ π xs ys st b o i j st'):wpS M A E s (loA xs ys o i j mg bc ac) (PLo κ π xs ys st b) st':=by
 obtain⟨ss,L,hi,hj,hb⟩:=J
 unfold loA
 refine zbl7 (zap6 ?_)
 have ss:=sameG (g:=mg) ss
 obtain⟨y,ey,ey',my⟩:=zg6 (xs:=ys) (i:=j) (by lia)
 refine zbl7 (zd6 ey ?_)
 refine zbl7 (zaa9 C (ss.knd.trans hk) (fun n=>match xs.toList[i+n]? with | some z=>!decide (κ y<κ z) |none=>false) (fun n hn=>?_) (T.my y my) (fun n m hnm hm e=>?_) (by lia) fun k hk1 hlo hhi=>?_)
 ·obtain⟨z,z1,z2,z3⟩:=zg6 (xs:=xs) (i:=i+n) (by lia)
  exact⟨z,z1,T.mx z z3,by rw [z2];rfl⟩
 ·obtain⟨z,z1,z2,z3⟩:=zg6 (xs:=xs) (i:=i+n) (by lia)
  obtain⟨w,w1,w2,w3⟩:=zg6 (xs:=xs) (i:=i+m) (by lia)
  rw [w2]at e
  rw [z2]
  have q:=zab6 C.pi (T.mx z z3) (T.mx w w3) (zq9 T.rx (show i+n≤i+m by lia) z2 w2)
  simp only [zbv8,decide_eq_false_iff_not]at e ⊢
  lia
 ·have ch:∀n,n<k→∀z,xs.toList[i+n]?=some z→κ z≤κ y:=fun n hn z ez=>by
   have:=hlo n hn
   rw [ez]at this
   simpa using this
  have L2:Lo (κ:=κ) (π:=π) xs.toList ys.toList (o++xs.extract i (i+k)).toList (i+k) j:=by
   rw [zbj3]
   refine L.x T.rx k fun a ha=>?_
   obtain⟨n,hn,en⟩:=zo2 ha
   exact zk2 T.ry ey' (zaw4 C T (zbn6 en) my (ch n hn a en)) a (zbm2.mpr rfl)
  have nxt:∀n,i+k=n→n<xs.size→∀x z,xs.toList[n]?=some x→ys.toList[j]?=some z→κ z<κ x:=fun n en hn x z ex ez=>by
   rw [ey']at ez
   cases ez
   have:=hhi k (zbl3 _) (by lia)
   rw [en,ex]at this
   simpa using this
  dsimp only
  by_cases k0:k > 0
  ·rw [if_pos k0]
   by_cases c1:i+k+1=xs.size
   ·rw [if_pos (by simpa using c1)]
    exact zbm3 (.inl ⟨_,rfl,res_l C.pi T ss L2 c1⟩)
   rw [if_neg (by simpa using c1)]
   by_cases c2:i+k=xs.size
   ·rw [if_pos (by simpa using c2)]
    exact zbm3 (.inl ⟨_,rfl,res_x T.ry ss L2 c2⟩)
   rw [if_neg (by simpa using c2)]
   exact wp_loB C hk T ss L2 (by lia) hj (by lia) (nxt _ rfl (by lia))
  ·rw [if_neg k0]
   exact wp_loB C hk T ss L hi hj (by lia) (nxt _ (by lia) (by lia))
include C T hk in
theorem wp_mLo {Q:Array Keyed→SortSt→Prop} (h:∀o st',Res κ π xs ys st o st'→Q o st'):wpS M A E s (mLo' xs ys) Q st:=by
 rw [mLo'_eq]
 refine zbl7 (wpS_lift (wpAny_rule ⟨rfl,?_⟩))
 obtain⟨y0,ey0,ey0',my0⟩:=zg6 T.py
 obtain⟨x0,ex0,ex0',mx0⟩:=zg6 T.px
 refine zbl7 (zd6 ey0 ?_)
 have L0:Lo (κ:=κ) (π:=π) xs.toList ys.toList (#[y0]:Array Keyed).toList 0 1:=by
  have q:=push2 T (o := #[]) (i:=0) (j:=0) ⟨by simp,List.Pairwise.nil,zai2,zai2⟩ ey0' (zk2 T.rx ex0' (rk_lt C.pi (T.my _ my0) (T.mx _ mx0) (T.first _ _ ex0 ey0)))
  simpa using q
 dsimp only
 by_cases c1:1=ys.size
 ·rw [if_pos (by simpa using c1)]
  exact zbm3 (h _ _ (res_y T.rx (SameS.refl st) L0 c1))
 rw [if_neg (by simpa using c1)]
 by_cases c2:0+1=xs.size
 ·rw [if_pos (by simpa using c2)]
  exact zbm3 (h _ _ (res_l C.pi T (SameS.refl st) L0 c2))
 rw [if_neg (by simpa using c2)]
 refine zbl7 (wpS_get ?_)
 have sz:=T.px
 have sy:=T.py
 refine zbl7 (wpS_forRange (I:=fun x c st' => ∃o i j mg,c=(none,o,i,j,mg)∧JL κ π xs ys st (x+1) o i j st') ?_ ?_ ⟨_,_,_,_,rfl,SameS.refl st,L0,by lia,by lia,by lia⟩)
 ·rintro x c st' _ hx ⟨o,i,j,mg,rfl,ss,L,hi,hj,hp⟩
  dsimp only
  refine zbl7 (wpS_mono (wpS_forRange (I:=fun y c st' => ∃o i j ac bc,c=(none,o,i,j,ac,bc)∧JL κ π xs ys st (x+1+y) o i j st')
   (Q:=fun c st'=>(∃r,c.1=some r∧Res κ π xs ys st r st')∨(c.1=none∧JL κ π xs ys st (x+1+1) c.2.1 c.2.2.1 c.2.2.2.1 st')) ?_ ?_ ⟨_,_,_,_,_,rfl,ss,L,hi,hj,by lia⟩) ?_)
  ·rintro y c st2 _ hy ⟨o,i,j,ac,bc,rfl,ss,L,hi,hj,hp⟩
   dsimp only
   obtain⟨x1,ex,ex',mx⟩:=zg6 (xs:=xs) (i:=i) (by lia)
   obtain⟨y1,ey,ey',my⟩:=zg6 (xs:=ys) (i:=j) (by lia)
   refine zbl7 (zd6 ey (zbl7 (zd6 ex (zbl7 (C.lt _ _ _ _ (ss.knd.trans hk) (T.my _ my) (T.mx _ mx) ?_)))))
   by_cases hlt:κ y1<κ x1
   ·simp only [hlt,decide_true,if_true]
    refine zbl7 (zd6 ey ?_)
    have L1:=push2 T L ey' (zk2 T.rx ex' (zan9 C T mx my hlt))
    by_cases c3:j+1=ys.size
    ·rw [if_pos (by simpa using c3)]
     exact zbm3 (.inl ⟨_,rfl,res_y T.rx ss L1 c3⟩)
    ·rw [if_neg (by simpa using c3)]
     split
     ·have J1:JL κ π xs ys st (x+1+1) (o.push y1) i (j+1) st2:=⟨ss,L1,hi,by lia,by lia⟩
      exact zbm3 (.inr ⟨rfl,J1⟩)
     ·exact zbm3 ⟨_,_,_,_,_,rfl,ss,L1,hi,by lia,by lia⟩
   ·simp only [hlt,decide_false,zbm5,if_false]
    refine zbl7 (zd6 ex ?_)
    have L1:=push1 T L ex' (zk2 T.ry ey' (zaw4 C T mx my (by lia)))
    by_cases c3:i+1+1=xs.size
    ·rw [if_pos (by simpa using c3)]
     exact zbm3 (.inl ⟨_,rfl,res_l C.pi T ss L1 c3⟩)
    ·rw [if_neg (by simpa using c3)]
     split
     ·have J1:JL κ π xs ys st (x+1+1) (o.push x1) (i+1) j st2:=⟨ss,L1,by lia,hj,by lia⟩
      exact zbm3 (.inr ⟨rfl,J1⟩)
     ·exact zbm3 ⟨_,_,_,_,_,rfl,ss,L1,by lia,hj,by lia⟩
  ·rintro c st2 ⟨o,i,j,ac,bc,rfl,ss,L,hi,hj,hp⟩
   have J1:JL κ π xs ys st (x+1+1) o i j st2:=⟨ss,L,hi,hj,by lia⟩
   exact .inr ⟨rfl,J1⟩
  ·rintro ⟨r0,o,i,j,ac,bc⟩ st2 hq
   rcases hq with ⟨r,e,R⟩ | ⟨e,J⟩
   ·have e:r0=some r:=e
    subst e
    exact zbm3 (zbm3 (h _ _ R))
   ·have e:r0=none:=e
    subst e
    have J:JL κ π xs ys st (x+1+1) o i j st2:=J
    refine zbl7 (wpS_lift (wpAny_rule ⟨rfl,?_⟩))
    refine zbl7 (wpS_mono (wpS_forRange (I:=fun y c st'=>c.1=none∧JL κ π xs ys st (x+1+1) c.2.1 c.2.2.1 c.2.2.2.1 st') (Q:=fun c st'=>PL1 κ π xs ys st (x+1+1) c st') ?_ ?_ ⟨rfl,J⟩) ?_)
    ·rintro y ⟨r0,o,i,j,mg2,ac,bc⟩ st3 _ hy ⟨e,J⟩
     have e:r0=none:=e
     subst e
     dsimp only at J
     refine wpS_mono (Q:=PLo κ π xs ys st (x+1+1)) ?_ (fun r st' hq=>by cases r<;>exact hq)
     have key:wpS M A E s (if mg2 > 1 then loA xs ys o i j (mg2 - 1) bc ac else loA xs ys o i j mg2 bc ac) (PLo κ π xs ys st (x+1+1)) st3:=by
      split
      ·exact wp_loA C hk T J
      ·exact wp_loA C hk T J
     exact key
    ·rintro c st3 ⟨e,J⟩
     exact .inr ⟨e,J⟩
    ·rintro ⟨r0,o,i,j,mg2,ac,bc⟩ st3 hq
     rcases hq with ⟨r,e,R⟩ | ⟨e,J⟩
     ·have e:r0=some r:=e
      subst e
      exact zbm3 (zbm3 (h _ _ R))
     ·have e:r0=none:=e
      subst e
      refine zbl7 (zap6 (zbm3 ⟨_,_,_,_,rfl,?_⟩))
      obtain⟨ss,L,hi,hj,hp⟩:=J
      exact⟨sameG ss,L,hi,hj,hp⟩
 ·rintro c st' ⟨o,i,j,mg,rfl,ss,L,hi,hj,hp⟩
  lia
end
end TS
namespace TS
theorem mHi'_eq (xs ys:Array Keyed):mHi' xs ys=(do
 rule "list.sort.merge-hi"
 let tot:=xs.size+ys.size
 let fin (o:Array Keyed) (i j:Nat):=xs.extract 0 i++ys.extract 0 j++o.reverse
 let fst (o:Array Keyed) (i j:Nat):=ys.extract 0 j++xs.extract 0 i++o.reverse
 let mut i:=xs.size - 1
 let mut j:=ys.size
 let mut o:Array Keyed := #[← elem' xs i]
 if i == 0 then return fin o i j
 if j == 1 then return fst o i j
 let mut mg:=gallopOf (← get)
 for _ in [0:tot] do
  let mut ac:=0
  let mut bc:=0
  for _ in [0:tot] do
   let some aw ← lt' (← elem' ys (j - 1)) (← elem' xs (i - 1)) |return fin o i j
   if aw then
    i:=i - 1;o:=o.push (← elem' xs i);ac:=ac+1;bc:=0
    if i == 0 then return fin o i j
    if ac ≥ mg then break
   else
    j:=j - 1;o:=o.push (← elem' ys j);bc:=bc+1;ac:=0
    if j == 1 then return fst o i j
    if bc ≥ mg then break
  rule "list.sort.gallop"
  mg:=mg+1
  for _ in [0:tot] do
   if mg > 1 then mg:=mg - 1
   smg mg
   let some q ← gal' false (← elem' ys (j - 1)) xs 0 i (i - 1) |return fin o i j
   let k:=i - q
   ac:=k
   if k > 0 then
    o:=o++(xs.extract q i).reverse;i:=q
    if i == 0 then return fin o i j
   j:=j - 1;o:=o.push (← elem' ys j)
   if j == 1 then return fst o i j
   let some q ← gal' true (← elem' xs (i - 1)) ys 0 j (j - 1) |return fin o i j
   let k:=j - q
   bc:=k
   if k > 0 then
    o:=o++(ys.extract q j).reverse;j:=q
    if j == 1 then return fst o i j
    if j == 0 then return fin o i j
   i:=i - 1;o:=o.push (← elem' xs i)
   if i == 0 then return fin o i j
   if ac<7&&bc<7 then break
  mg:=mg+1
  smg mg
 unsupported "internal:list.sort.merge-bound"):=rfl
section
variable {M:Model}{A:Around}{E:Value→zbk8→Prop}{s:zbk8}{κ π:Keyed→Int}{a₀:Array Keyed}{kd:SortKind} (C:Cmp M A E s κ π a₀ kd)
theorem zax0 {xs:Array Keyed}{i:Nat}:(xs.extract 0 i).toList=xs.toList.take i:=by
 rw [zbr3];simp
theorem zt2 {α:Type}{Y:List α}{j:Nat}{a:α} (h:a∈Y.take j):∃n,n<j∧Y[n]?=some a:=by
 have:=zo2 (X:=Y) (i:=0) (k:=j) (c:=a) (by simpa using h)
 simpa using this
theorem zk4 {Y:List Keyed}{j:Nat}{y c:Keyed} (hY:Ris κ π Y) (h:Y[j - 1]?=some y) (hc:rk κ π y≤rk κ π c):ze4 κ π (Y.take j) [c]:=by
 intro a ha b hb
 rw [zbm2.mp hb]
 obtain⟨n,hn,e⟩:=zt2 ha
 exact zbv2 (zq9 hY (by lia) e h) hc
theorem zas8 {α:Type}{X:List α}{i:Nat}{x:α} (hi:0<i) (h:X[i - 1]?=some x):(X.take i).drop (i - 1)=[x]:=by
 obtain⟨hl,e⟩:=zbn0.mp h
 rw [zbw2,show i - (i - 1)=1 by lia,zs1 h]
variable {xs ys:Array Keyed}{st:SortSt}
theorem zp6 {o:Array Keyed}:o.reverse.toList=o.toList.reverse:=by simp
theorem zas1 {o:Array Keyed}{i j:Nat}{st':SortSt} (ry:Ris κ π ys.toList) (ss:SameS st st') (L:Hi (κ:=κ) (π:=π) xs.toList ys.toList o.toList i j) (hi:i=0):Res κ π xs ys st (xs.extract 0 i++ys.extract 0 j++o.reverse) st':=by
 have e:(xs.extract 0 i++ys.extract 0 j++o.reverse).toList=ys.toList.take j++o.toList.reverse:=by
  rw [zbn3,zbn3,zax0,zax0,zp6,hi,List.take_zero,zbv6]
 unfold Res
 rw [e]
 exact⟨ss,L.endY ry hi⟩
theorem hres_y {o:Array Keyed}{i j:Nat}{st':SortSt} (rx:Ris κ π xs.toList) (ss:SameS st st') (L:Hi (κ:=κ) (π:=π) xs.toList ys.toList o.toList i j) (hj:j=0):Res κ π xs ys st (xs.extract 0 i++ys.extract 0 j++o.reverse) st':=by
 have e:(xs.extract 0 i++ys.extract 0 j++o.reverse).toList=xs.toList.take i++o.toList.reverse:=by
  rw [zbn3,zbn3,zax0,zax0,zp6,hj,List.take_zero,zbr1]
 unfold Res
 rw [e]
 exact⟨ss,L.endX rx hj⟩
theorem zas2 {o:Array Keyed}{i j:Nat}{st':SortSt} (hp:∀x∈a₀.toList,0≤π x∧π x<1048576) (T:Two κ π a₀ xs ys) (ss:SameS st st') (L:Hi (κ:=κ) (π:=π) xs.toList ys.toList o.toList i j) (hj:j=1):Res κ π xs ys st (ys.extract 0 j++xs.extract 0 i++o.reverse) st':=by
 have e:(ys.extract 0 j++xs.extract 0 i++o.reverse).toList=ys.toList.take j++xs.toList.take i++o.toList.reverse:=by
  rw [zbn3,zbn3,zax0,zax0,zp6]
 unfold Res
 rw [e]
 refine⟨ss,L.first T.rx T.ry fun a ha b hb=>?_⟩
 obtain⟨n,hn,ea⟩:=zt2 ha
 obtain⟨m,hm,eb⟩:=zt2 hb
 have:n=0:=by lia
 subst this
 obtain⟨x0,ex0,ex0',mx0⟩:=zg6 T.px
 have q:=T.first x0 a ex0 (by simpa using ea)
 exact zbv2 (rk_lt hp (T.my a (zbn6 ea)) (T.mx _ mx0) q) (zq9 T.rx (zbq5 _) ex0' eb)
noncomputable abbrev HS:=Option (Array Keyed)×Nat×Nat×Array Keyed×Nat×Nat×Nat
noncomputable def JH (κ π:Keyed→Int) (xs ys:Array Keyed) (st:SortSt) (b:Nat) (o:Array Keyed) (i j:Nat) (st':SortSt):Prop :=
 SameS st st'∧Hi (κ:=κ) (π:=π) xs.toList ys.toList o.toList i j∧0<i∧i≤xs.size∧1<j∧j≤ys.size∧i+j+b≤xs.size+ys.size
noncomputable def PH1 (κ π:Keyed→Int) (xs ys:Array Keyed) (st:SortSt) (b:Nat) (c:HS) (st':SortSt):Prop:=(∃r,c.1=some r∧Res κ π xs ys st r st')∨(c.1=none∧JH κ π xs ys st b c.2.2.2.1 c.2.1 c.2.2.1 st')
noncomputable def PHi (κ π:Keyed→Int) (xs ys:Array Keyed) (st:SortSt) (b:Nat) (r:ForInStep HS) (st':SortSt):Prop:=match r with
 |.done c=>PH1 κ π xs ys st b c st'
 |.yield c=>c.1=none∧JH κ π xs ys st b c.2.2.2.1 c.2.1 c.2.2.1 st'
noncomputable def hiC (xs ys o:Array Keyed) (i j mg k k1:Nat):StateT SortSt Sem (ForInStep HS):=do
 let z ← elem' xs (i - 1)
 if (i - 1 == 0)=true then pure (.done (some (xs.extract 0 (i - 1)++ys.extract 0 j++(o.push z).reverse),i - 1,j,o.push z,mg,k,k1))
 else if (decide (k<7)&&decide (k1<7))=true then pure (.done (none,i - 1,j,o.push z,mg,k,k1)) else pure (.yield (none,i - 1,j,o.push z,mg,k,k1))
noncomputable def hiB (xs ys o:Array Keyed) (i j mg k bc:Nat):StateT SortSt Sem (ForInStep HS):=do
 let z ← elem' ys (j - 1)
 if (j - 1 == 1)=true then pure (.done (some (ys.extract 0 (j - 1)++xs.extract 0 i++(o.push z).reverse),i,j - 1,o.push z,mg,k,bc))
 else do
  let w ← elem' xs (i - 1)
  let r ← gal' true w ys 0 (j - 1) (j - 1 - 1)
  match r with
  |some q =>
   if j - 1 - q > 0 then
    if (q == 1)=true then pure (.done (some (ys.extract 0 q++xs.extract 0 i++(o.push z++(ys.extract q (j - 1)).reverse).reverse),i,q,o.push z++(ys.extract q (j - 1)).reverse,mg,k,j - 1 - q))
    else if (q == 0)=true then pure (.done (some (xs.extract 0 i++ys.extract 0 q++(o.push z++(ys.extract q (j - 1)).reverse).reverse),i,q,o.push z++(ys.extract q (j - 1)).reverse,mg,k,j - 1 - q))
    else hiC xs ys (o.push z++(ys.extract q (j - 1)).reverse) i q mg k (j - 1 - q)
   else hiC xs ys (o.push z) i (j - 1) mg k (j - 1 - q)
  |_=>pure (.done (some (xs.extract 0 i++ys.extract 0 (j - 1)++(o.push z).reverse),i,j - 1,o.push z,mg,k,bc))
noncomputable def hiA (xs ys o:Array Keyed) (i j mg bc ac:Nat):StateT SortSt Sem (ForInStep HS):=do
 smg mg
 let w ← elem' ys (j - 1)
 let r ← gal' false w xs 0 i (i - 1)
 match r with
 |some q =>
  if i - q > 0 then
   if (q == 0)=true then pure (.done (some (xs.extract 0 q++ys.extract 0 j++(o++(xs.extract q i).reverse).reverse),q,j,o++(xs.extract q i).reverse,mg,i - q,bc))
   else hiB xs ys (o++(xs.extract q i).reverse) q j mg (i - q) bc
  else hiB xs ys o i j mg (i - q) bc
 |_=>pure (.done (some (xs.extract 0 i++ys.extract 0 j++o.reverse),i,j,o,mg,ac,bc))
variable (hk:kindOf st=kd) (T:Two κ π a₀ xs ys)
include T in
theorem zbe4 {o:Array Keyed}{i j:Nat}{x:Keyed} (L:Hi (κ:=κ) (π:=π) xs.toList ys.toList o.toList i j) (hi:0<i) (ex:xs.toList[i - 1]?=some x) (hb:ze4 κ π (ys.toList.take j) [x]):Hi (κ:=κ) (π:=π) xs.toList ys.toList (o.push x).toList (i - 1) j:=by
 have e:=zas8 hi ex
 have q:=L.x T.rx (i - 1) (by lia) (by rw [e];exact hb)
 rw [e]at q
 rw [zn0]
 simpa using q
include T in
theorem hpush2 {o:Array Keyed}{i j:Nat}{y:Keyed} (L:Hi (κ:=κ) (π:=π) xs.toList ys.toList o.toList i j) (hj:0<j) (ex:ys.toList[j - 1]?=some y) (hb:ze4 κ π (xs.toList.take i) [y]):Hi (κ:=κ) (π:=π) xs.toList ys.toList (o.push y).toList i (j - 1):=by
 have e:=zas8 hj ex
 have q:=L.y T.ry (j - 1) (by lia) (by rw [e];exact hb)
 rw [e]at q
 rw [zn0]
 simpa using q
theorem zbj2 {o xs:Array Keyed}{q i:Nat}:(o++(xs.extract q i).reverse).toList=o.toList++((xs.toList.take i).drop q).reverse:=by
 rw [zbn3,zp6,zbr3]
 congr 2
 rw [zbw2]
 try rfl
include C T in
theorem wp_hiC {o:Array Keyed}{i j mg k k1 b:Nat}{st':SortSt} (ss:SameS st st') (L:Hi (κ:=κ) (π:=π) xs.toList ys.toList o.toList i j) (hi:0<i) (hi2:i≤xs.size) (hj:1<j) (hj2:j≤ys.size) (hb:i+j+b≤xs.size+ys.size)
  (hle:∀x,xs.toList[i - 1]?=some x→ze4 κ π (ys.toList.take j) [x]):wpS M A E s (hiC xs ys o i j mg k k1) (PHi κ π xs ys st b) st':=by
 unfold hiC
 obtain⟨x,e1,e2,m⟩:=zg6 (xs:=xs) (i:=i - 1) (by lia)
 refine zbl7 (zd6 e1 ?_)
 have L1:=zbe4 T L hi e2 (hle x e2)
 by_cases c1:i - 1=0
 ·rw [if_pos (by simpa using c1)]
  exact zbm3 (.inl ⟨_,rfl,zas1 T.ry ss L1 c1⟩)
 ·rw [if_neg (by simpa using c1)]
  have J:JH κ π xs ys st b (o.push x) (i - 1) j st':=⟨ss,L1,by lia,by lia,hj,hj2,by lia⟩
  split
  ·exact zbm3 (.inr ⟨rfl,J⟩)
  ·exact zbm3 ⟨rfl,J⟩
include C T hk in
theorem wp_hiB {o:Array Keyed}{i j mg k bc b:Nat}{st':SortSt} (ss:SameS st st') (L:Hi (κ:=κ) (π:=π) xs.toList ys.toList o.toList i j) (hi:0<i) (hi2:i≤xs.size) (hj:1<j) (hj2:j≤ys.size) (hb:i+j+b≤xs.size+ys.size)
  (hle:∀x y,xs.toList[i - 1]?=some x→ys.toList[j - 1]?=some y→κ x≤κ y):wpS M A E s (hiB xs ys o i j mg k bc) (PHi κ π xs ys st b) st':=by
 unfold hiB
 obtain⟨x,ex,ex',mx⟩:=zg6 (xs:=xs) (i:=i - 1) (by lia)
 obtain⟨y,ey,ey',my⟩:=zg6 (xs:=ys) (i:=j - 1) (by lia)
 refine zbl7 (zd6 ey ?_)
 have L1:=hpush2 T L (by lia) ey' (zk4 T.rx ex' (zaw4 C T mx my (hle x y ex' ey')))
 by_cases c1:j - 1=1
 ·rw [if_pos (by simpa using c1)]
  exact zbm3 (.inl ⟨_,rfl,zas2 C.pi T ss L1 c1⟩)
 rw [if_neg (by simpa using c1)]
 refine zbl7 (zd6 ex ?_)
 refine zbl7 (zaa9 C (ss.knd.trans hk) (fun n=>match ys.toList[n]? with | some z=>decide (κ z<κ x) |none=>false) (fun n hn=>?_) (T.mx x mx) (fun n m hnm hm e=>?_) (by lia) fun q hq hlo hhi=>?_)
 ·obtain⟨z,z1,z2,z3⟩:=zg6 (xs:=ys) (i:=n) (by lia)
  exact⟨z,by rw [zby7];exact z1,T.my z z3,by rw [z2];rfl⟩
 ·obtain⟨z,z1,z2,z3⟩:=zg6 (xs:=ys) (i:=n) (by lia)
  obtain⟨w,w1,w2,w3⟩:=zg6 (xs:=ys) (i:=m) (by lia)
  rw [w2]at e
  rw [z2]
  have q:=zab6 C.pi (T.my z z3) (T.my w w3) (zq9 T.ry hnm z2 w2)
  simp only [decide_eq_true_eq]at e ⊢
  lia
 ·have L2:Hi (κ:=κ) (π:=π) xs.toList ys.toList (o.push y++(ys.extract q (j - 1)).reverse).toList i q:=by
   rw [zbj2]
   refine L1.y T.ry q hq fun a ha b hb=>?_
   rw [zbw2]at hb
   obtain⟨n,hn,en⟩:=zo2 hb
   have:=hhi (q+n) (by lia) (by lia)
   rw [en]at this
   exact zk4 T.rx ex' (zaw4 C T mx (zbn6 en) (by simpa using this)) a ha b (zbm2.mpr rfl)
  have nxt:∀n,q=n→0<n→∀z,xs.toList[i - 1]?=some z→ze4 κ π (ys.toList.take n) [z]:=fun n en hn z ez=>by
   rw [ex']at ez
   cases ez
   obtain⟨w,w1,w2,w3⟩:=zg6 (xs:=ys) (i:=n - 1) (by lia)
   have:=hlo (n - 1) (by lia)
   rw [w2]at this
   exact zk4 T.ry w2 (zan9 C T mx w3 (by simpa using this))
  dsimp only
  by_cases k0:j - 1 - q > 0
  ·rw [if_pos k0]
   by_cases c2:q=1
   ·rw [if_pos (by simpa using c2)]
    exact zbm3 (.inl ⟨_,rfl,zas2 C.pi T ss L2 c2⟩)
   rw [if_neg (by simpa using c2)]
   by_cases c3:q=0
   ·rw [if_pos (by simpa using c3)]
    exact zbm3 (.inl ⟨_,rfl,hres_y T.rx ss L2 c3⟩)
   rw [if_neg (by simpa using c3)]
   exact wp_hiC C T ss L2 hi hi2 (by lia) (by lia) (by lia) (nxt _ rfl (by lia))
  ·rw [if_neg k0]
   exact wp_hiC C T ss L1 hi hi2 (by lia) (by lia) (by lia) (nxt _ (by lia) (by lia))
include C T hk in
theorem wp_hiA {o:Array Keyed}{i j mg bc ac b:Nat}{st':SortSt} (J:JH κ π xs ys st b o i j st'):wpS M A E s (hiA xs ys o i j mg bc ac) (PHi κ π xs ys st b) st':=by
 obtain⟨ss,L,hi,hi2,hj,hj2,hb⟩:=J
 unfold hiA
 refine zbl7 (zap6 ?_)
 have ss:=sameG (g:=mg) ss
 obtain⟨y,ey,ey',my⟩:=zg6 (xs:=ys) (i:=j - 1) (by lia)
 refine zbl7 (zd6 ey ?_)
 refine zbl7 (zaa9 C (ss.knd.trans hk) (fun n=>match xs.toList[n]? with | some z=>!decide (κ y<κ z) |none=>false) (fun n hn=>?_) (T.my y my) (fun n m hnm hm e=>?_) (by lia) fun q hq hlo hhi=>?_)
 ·obtain⟨z,z1,z2,z3⟩:=zg6 (xs:=xs) (i:=n) (by lia)
  exact⟨z,by rw [zby7];exact z1,T.mx z z3,by rw [z2];rfl⟩
 ·obtain⟨z,z1,z2,z3⟩:=zg6 (xs:=xs) (i:=n) (by lia)
  obtain⟨w,w1,w2,w3⟩:=zg6 (xs:=xs) (i:=m) (by lia)
  rw [w2]at e
  rw [z2]
  have q:=zab6 C.pi (T.mx z z3) (T.mx w w3) (zq9 T.rx hnm z2 w2)
  simp only [zbv8,decide_eq_false_iff_not]at e ⊢
  lia
 ·have L2:Hi (κ:=κ) (π:=π) xs.toList ys.toList (o++(xs.extract q i).reverse).toList q j:=by
   rw [zbj2]
   refine L.x T.rx q hq fun a ha b hb=>?_
   rw [zbw2]at hb
   obtain⟨n,hn,en⟩:=zo2 hb
   have:=hhi (q+n) (by lia) (by lia)
   rw [en]at this
   exact zk4 T.ry ey' (zan9 C T (zbn6 en) my (by simpa using this)) a ha b (zbm2.mpr rfl)
  have nxt:∀n,q=n→0<n→∀x z,xs.toList[n - 1]?=some x→ys.toList[j - 1]?=some z→κ x≤κ z:=fun n en hn x z ex ez=>by
   rw [ey']at ez
   cases ez
   have:=hlo (n - 1) (by lia)
   rw [ex]at this
   simpa using this
  dsimp only
  by_cases k0:i - q > 0
  ·rw [if_pos k0]
   by_cases c1:q=0
   ·rw [if_pos (by simpa using c1)]
    exact zbm3 (.inl ⟨_,rfl,zas1 T.ry ss L2 c1⟩)
   rw [if_neg (by simpa using c1)]
   exact wp_hiB C hk T ss L2 (by lia) (by lia) hj hj2 (by lia) (nxt _ rfl (by lia))
  ·rw [if_neg k0]
   exact wp_hiB C hk T ss L hi hi2 hj hj2 hb (nxt _ (by lia) (by lia))
include C T hk in
theorem wp_mHi {Q:Array Keyed→SortSt→Prop} (h:∀o st',Res κ π xs ys st o st'→Q o st'):wpS M A E s (mHi' xs ys) Q st:=by
 rw [mHi'_eq]
 refine zbl7 (wpS_lift (wpAny_rule ⟨rfl,?_⟩))
 have sz:=T.px
 have sy:=T.py
 obtain⟨x0,ex0,ex0',mx0⟩:=zg6 (xs:=xs) (i:=xs.size - 1) (by lia)
 obtain⟨y0,ey0,ey0',my0⟩:=zg6 (xs:=ys) (i:=ys.size - 1) (by lia)
 refine zbl7 (zd6 ex0 ?_)
 have L0:Hi (κ:=κ) (π:=π) xs.toList ys.toList (#[x0]:Array Keyed).toList (xs.size - 1) ys.size:=by
  have q:=zbe4 T (o := #[]) (i:=xs.size) (j:=ys.size) ⟨by simp,List.Pairwise.nil,zak8,zak8⟩ sz ex0' (zk4 T.ry ey0' (zan9 C T mx0 my0 (T.last _ ex0 _ my0)))
  simpa using q
 dsimp only
 by_cases c1:xs.size - 1=0
 ·rw [if_pos (by simpa using c1)]
  exact zbm3 (h _ _ (zas1 T.ry (SameS.refl st) L0 c1))
 rw [if_neg (by simpa using c1)]
 by_cases c2:ys.size=1
 ·rw [if_pos (by simpa using c2)]
  exact zbm3 (h _ _ (zas2 C.pi T (SameS.refl st) L0 c2))
 rw [if_neg (by simpa using c2)]
 refine zbl7 (wpS_get ?_)
 refine zbl7 (wpS_forRange (I:=fun x c st' => ∃i j o mg,c=(none,i,j,o,mg)∧JH κ π xs ys st (x+1) o i j st') ?_ ?_ ⟨_,_,_,_,rfl,SameS.refl st,L0,by lia,by lia,by lia,by lia,by lia⟩)
 ·rintro x c st' _ hx ⟨i,j,o,mg,rfl,ss,L,hi,hi2,hj,hj2,hp⟩
  dsimp only
  refine zbl7 (wpS_mono (wpS_forRange (I:=fun y c st' => ∃i j o ac bc,c=(none,i,j,o,ac,bc)∧JH κ π xs ys st (x+1+y) o i j st')
   (Q:=fun c st'=>(∃r,c.1=some r∧Res κ π xs ys st r st')∨(c.1=none∧JH κ π xs ys st (x+1+1) c.2.2.2.1 c.2.1 c.2.2.1 st')) ?_ ?_ ⟨_,_,_,_,_,rfl,ss,L,hi,hi2,hj,hj2,by lia⟩) ?_)
  ·rintro y c st2 _ hy ⟨i,j,o,ac,bc,rfl,ss,L,hi,hi2,hj,hj2,hp⟩
   dsimp only
   obtain⟨x1,ex,ex',mx⟩:=zg6 (xs:=xs) (i:=i - 1) (by lia)
   obtain⟨y1,ey,ey',my⟩:=zg6 (xs:=ys) (i:=j - 1) (by lia)
   refine zbl7 (zd6 ey (zbl7 (zd6 ex (zbl7 (C.lt _ _ _ _ (ss.knd.trans hk) (T.my _ my) (T.mx _ mx) ?_)))))
   by_cases hlt:κ y1<κ x1
   ·simp only [hlt,decide_true,if_true]
    refine zbl7 (zd6 ex ?_)
    have L1:=zbe4 T L hi ex' (zk4 T.ry ey' (zan9 C T mx my hlt))
    by_cases c3:i - 1=0
    ·rw [if_pos (by simpa using c3)]
     exact zbm3 (.inl ⟨_,rfl,zas1 T.ry ss L1 c3⟩)
    ·rw [if_neg (by simpa using c3)]
     split
     ·have J1:JH κ π xs ys st (x+1+1) (o.push x1) (i - 1) j st2:=⟨ss,L1,by lia,by lia,hj,hj2,by lia⟩
      exact zbm3 (.inr ⟨rfl,J1⟩)
     ·exact zbm3 ⟨_,_,_,_,_,rfl,ss,L1,by lia,by lia,hj,hj2,by lia⟩
   ·simp only [hlt,decide_false,zbm5,if_false]
    refine zbl7 (zd6 ey ?_)
    have L1:=hpush2 T L (by lia) ey' (zk4 T.rx ex' (zaw4 C T mx my (by lia)))
    by_cases c3:j - 1=1
    ·rw [if_pos (by simpa using c3)]
     exact zbm3 (.inl ⟨_,rfl,zas2 C.pi T ss L1 c3⟩)
    ·rw [if_neg (by simpa using c3)]
     split
     ·have J1:JH κ π xs ys st (x+1+1) (o.push y1) i (j - 1) st2:=⟨ss,L1,hi,hi2,by lia,by lia,by lia⟩
      exact zbm3 (.inr ⟨rfl,J1⟩)
     ·exact zbm3 ⟨_,_,_,_,_,rfl,ss,L1,hi,hi2,by lia,by lia,by lia⟩
  ·rintro c st2 ⟨i,j,o,ac,bc,rfl,ss,L,hi,hi2,hj,hj2,hp⟩
   have J1:JH κ π xs ys st (x+1+1) o i j st2:=⟨ss,L,hi,hi2,hj,hj2,by lia⟩
   exact .inr ⟨rfl,J1⟩
  ·rintro ⟨r0,i,j,o,ac,bc⟩ st2 hq
   rcases hq with ⟨r,e,R⟩ | ⟨e,J⟩
   ·have e:r0=some r:=e
    subst e
    exact zbm3 (zbm3 (h _ _ R))
   ·have e:r0=none:=e
    subst e
    have J:JH κ π xs ys st (x+1+1) o i j st2:=J
    refine zbl7 (wpS_lift (wpAny_rule ⟨rfl,?_⟩))
    refine zbl7 (wpS_mono (wpS_forRange (I:=fun y c st'=>c.1=none∧JH κ π xs ys st (x+1+1) c.2.2.2.1 c.2.1 c.2.2.1 st') (Q:=fun c st'=>PH1 κ π xs ys st (x+1+1) c st') ?_ ?_ ⟨rfl,J⟩) ?_)
    ·rintro y ⟨r0,i,j,o,mg2,ac,bc⟩ st3 _ hy ⟨e,J⟩
     have e:r0=none:=e
     subst e
     dsimp only at J
     refine wpS_mono (Q:=PHi κ π xs ys st (x+1+1)) ?_ (fun r st' hq=>by cases r<;>exact hq)
     have key:wpS M A E s (if mg2 > 1 then hiA xs ys o i j (mg2 - 1) bc ac else hiA xs ys o i j mg2 bc ac) (PHi κ π xs ys st (x+1+1)) st3:=by
      split
      ·exact wp_hiA C hk T J
      ·exact wp_hiA C hk T J
     exact key
    ·rintro c st3 ⟨e,J⟩
     exact .inr ⟨e,J⟩
    ·rintro ⟨r0,i,j,o,mg2,ac,bc⟩ st3 hq
     rcases hq with ⟨r,e,R⟩ | ⟨e,J⟩
     ·have e:r0=some r:=e
      subst e
      exact zbm3 (zbm3 (h _ _ R))
     ·have e:r0=none:=e
      subst e
      refine zbl7 (zap6 (zbm3 ⟨_,_,_,_,rfl,?_⟩))
      obtain⟨ss,L,hi,hj,hp⟩:=J
      exact⟨sameG ss,L,hi,hj,hp⟩
 ·rintro c st' ⟨i,j,o,mg,rfl,ss,L,hi,hi2,hj,hj2,hp⟩
  lia
end
end TS
namespace TS
theorem mAt_eq (n:Nat):mergeAt' n=(do
 let q ← get
 let (some (sa,na,pw),some (sb,nb,_)):=((pendingOf q)[n]?,(pendingOf q)[n+1]?) |unsupported "internal:list.sort.pending"
 set (setPending q (((pendingOf q).setIfInBounds n (sa,na+nb,pw)).eraseIdxIfInBounds (n+1)))
 let some k ← gal' false (← elem' (arrOf q) sb) (arrOf q) sa na 0 | return false
 let (sa,na):=(sa+k,na - k)
 if na == 0 then return true
 let some nb ← gal' true (← elem' (arrOf q) (sa+na - 1)) (arrOf q) sb nb (nb - 1) |return false
 if nb == 0 then return true
 let x:=(arrOf q).extract sa sb
 let y:=(arrOf q).extract sb (sb+nb)
 let m ← if na≤nb then mLo' x y else mHi' x y
 modify fun q=>setArr q (m.toList.zipIdx.foldl (fun a (p,j)=>a.setIfInBounds (sa+j) p) (arrOf q))
 return (failedOf (← get)).isNone):=rfl
theorem zau0 {α:Type} (sa:Nat):∀(l:List α) (n:Nat) (xs:Array α),sa+n+l.length≤xs.size →
  ((l.zipIdx n).foldl (fun a (q:α×Nat)=>match q with | (p,j)=>a.setIfInBounds (sa+j) p) xs).toList=xs.toList.take (sa+n)++l++xs.toList.drop (sa+n+l.length)
 |[],n,xs,h=>by simp
 |p::l,n,xs,h=>by
  rw [List.zipIdx_cons,zbt7,zau0 sa l (n+1) _ (by simp at h ⊢;lia)]
  simp only [Array.toList_setIfInBounds,zbo6]at h ⊢
  have hlt:sa+n<xs.toList.length:=by simp;lia
  rw [show sa+(n+1)=sa+n+1 by lia]
  have e1:(xs.toList.set (sa+n) p).take (sa+n+1)=xs.toList.take (sa+n)++[p]:=by
   rw [List.take_succ,List.take_set_of_le (zbl3 _),zbr6 hlt];rfl
  have e2:(xs.toList.set (sa+n) p).drop (sa+n+1+l.length)=xs.toList.drop (sa+n+(l.length+1)):=by
   rw [List.drop_set_of_lt (by lia)]
   congr 1;lia
  rw [e1,e2]
  simp
theorem back_eq {α:Type} (sa:Nat) (l:List α) (xs:Array α) (h:sa+l.length≤xs.size) :
  (l.zipIdx.foldl (fun a (q:α×Nat)=>match q with | (p,j)=>a.setIfInBounds (sa+j) p) xs).toList=xs.toList.take sa++l++xs.toList.drop (sa+l.length):=by
 have:=zau0 sa l 0 xs (by simpa using h)
 simpa using this
section
variable {M:Model}{A:Around}{E:Value→zbk8→Prop}{s:zbk8}{κ π:Keyed→Int}{a₀:Array Keyed}{kd:SortKind} (C:Cmp M A E s κ π a₀ kd)
theorem wp_set {st st':SortSt}{Q:PUnit→SortSt→Prop} (h:Q ⟨⟩ st'):wpS M A E s (set st':StateT SortSt Sem PUnit) Q st:=by
 unfold wpS
 rw [StateT.run_set]
 exact zbk6 ⟨rfl,h⟩
noncomputable def sepL (π:Keyed→Int) (l m:List Keyed):Prop := ∀a∈l,∀b∈m,π a≤π b
include C in
theorem wp_mAt {n:Nat}{pre X Y post:List Keyed}{pw pw2:Nat}{st:SortSt}{Q:Bool→SortSt→Prop} (hk:kindOf st=kd) (hf:failedOf st=none) (ha:(arrOf st).toList=pre++X++Y++post) (hm:∀z∈(arrOf st).toList,z∈a₀.toList)
  (p1:(pendingOf st)[n]?=some (pre.length,X.length,pw)) (p2:(pendingOf st)[n+1]?=some (pre.length+X.length,Y.length,pw2)) (rX:Ris κ π X) (rY:Ris κ π Y) (nX:X≠[]) (nY:Y≠[]) (sp:sepL π X Y)
  (h:∀Z st',Ris κ π Z→Z.Perm (X++Y)→(arrOf st').toList=pre++Z++post→kindOf st'=kd→failedOf st'=none→pendingOf st'=((pendingOf st).setIfInBounds n (pre.length,X.length+Y.length,pw)).eraseIdxIfInBounds (n+1)→Q true st') :
  wpS M A E s (mergeAt' n) Q st:=by
 rw [mAt_eq]
 refine zbl7 (wpS_get ?_)
 rw [p1,p2]
 dsimp only
 refine zbl7 (wp_set ?_)
 have mX:∀z∈X,z∈a₀.toList:=fun z hz=>hm z (by rw [ha];simp [hz])
 have mY:∀z∈Y,z∈a₀.toList:=fun z hz=>hm z (by rw [ha];simp [hz])
 have lX:0<X.length:=zbu7.mpr nX
 have lY:0<Y.length:=zbu7.mpr nY
 have sz:(arrOf st).size=pre.length+X.length+Y.length+post.length:=by
  have:=congrArg List.length ha
  simpa [zbx3] using this
 have atX:∀i,i<X.length→(arrOf st)[pre.length+i]?=X[i]?:=fun i hi=>by
  rw [← zbm1,ha,zbk9,zbk9,zbo2 (by lia),zbq3,zbp5 hi]
 have atY:∀i,i<Y.length→(arrOf st)[pre.length+X.length+i]?=Y[i]?:=fun i hi=>by
  rw [← zbm1,ha,zbk9,zbo2 (by simp)]
  simp only [zbo5]
  rw [zbq3,zbp5 hi]
 obtain⟨y0,hy0⟩:∃y,Y[0]?=some y:=⟨Y[0],by simp⟩
 have my0:y0∈Y:=zbn6 hy0
 refine zbl7 (zd6 (z:=y0) (by have:=atY 0 lY;rw [Nat.add_zero]at this;rw [this];exact hy0) ?_)
 refine zbl7 (zaa9 C hk (fun i=>match X[i]? with | some z=>!decide (κ y0<κ z) |none=>false) (fun i hi=>?_) (mY y0 my0) (fun i j hij hj e=>?_) lX fun k hkl hlo hhi=>?_)
 ·have e:X[i]?=some X[i]:=by simp [hi]
  exact⟨X[i],by rw [atX i hi];exact e,mX _ (zbn8 hi),by rw [e];rfl⟩
 ·have ei:X[i]?=some (X[i]'(by lia)):=zbk4 (by lia)
  have ej:X[j]?=some (X[j]'hj):=zbk4 hj
  rw [ej]at e
  rw [ei]
  have q:=zab6 C.pi (mX _ (zbn8 _)) (mX _ (zbn8 _)) (zq9 rX hij ei ej)
  simp only [zbv8,decide_eq_false_iff_not]at e ⊢
  lia
 dsimp only
 have pb:ze4 κ π (X.take k) Y:=fun a hA b hB=>by
  obtain⟨i,hi,ei⟩:=zt2 hA
  have:=hlo i hi
  rw [ei]at this
  have q:rk κ π a≤rk κ π y0:=rk_le (by simpa using this) (sp a (zbn6 ei) y0 my0)
  obtain⟨j,hj,ej⟩:=zbu2.mp hB
  exact zbv2 q (zq9 rY (zbq5 j) hy0 (by rw [← ej];exact zbk4 hj))
 have same:∀Z,Z=X++Y→Ris κ π Z→Q true (setPending st (((pendingOf st).setIfInBounds n (pre.length,X.length+Y.length,pw)).eraseIdxIfInBounds (n+1))):=fun Z e r=>by
  refine h Z _ r (by rw [e]) ?_ hk hf rfl
  show (arrOf st).toList=_
  rw [ha,e];simp
 by_cases c1:X.length - k=0
 ·rw [if_pos (by simpa using c1)]
  refine zbm3 (same _ rfl (zf6 rX rY ?_))
  rw [zbo1 (by lia)]at pb
  exact pb
 rw [if_neg (by simpa using c1)]
 have eL:pre.length+k+(X.length - k) - 1=pre.length+(X.length - 1):=by lia
 obtain⟨xl,hxl⟩:∃x,X[X.length - 1]?=some x:=⟨X[X.length - 1],by simp [lX]⟩
 have mxl:xl∈X:=zbn6 hxl
 refine zbl7 (zd6 (z:=xl) (by rw [eL,atX _ (by lia)];exact hxl) ?_)
 refine zbl7 (zaa9 C hk (fun i=>match Y[i]? with | some z=>decide (κ z<κ xl) |none=>false) (fun i hi=>?_) (mX xl mxl) (fun i j hij hj e=>?_) (by lia) fun m hml hlo2 hhi2=>?_)
 ·have e:Y[i]?=some Y[i]:=by simp [hi]
  exact⟨Y[i],by rw [atY i hi];exact e,mY _ (zbn8 hi),by rw [e];rfl⟩
 ·have ei:Y[i]?=some (Y[i]'(by lia)):=zbk4 (by lia)
  have ej:Y[j]?=some (Y[j]'hj):=zbk4 hj
  rw [ej]at e
  rw [ei]
  have q:=zab6 C.pi (mY _ (zbn8 _)) (mY _ (zbn8 _)) (zq9 rY hij ei ej)
  simp only [decide_eq_true_eq]at e ⊢
  lia
 dsimp only
 have xs_le:∀a∈X,rk κ π a≤rk κ π xl:=fun a hA=>by
  obtain⟨i,hi,ei⟩:=zbu2.mp hA
  exact zq9 rX (show i≤X.length - 1 by lia) (by rw [← ei];exact zbk4 hi) hxl
 have yb:ze4 κ π X (Y.drop m):=fun a hA b hB=>by
  obtain⟨i,hi,ei⟩:=zbu2.mp hB
  have hi':m+i<Y.length:=by simp at hi;lia
  have eb:Y[m+i]?=some b:=by rw [← ei,zbz3];exact zbk4 hi'
  have:=hhi2 (m+i) (by lia) hi'
  rw [eb]at this
  exact zbv2 (xs_le a hA) (rk_le (by simpa using this) (sp xl mxl b (zbn6 eb)))
 by_cases c2:m=0
 ·rw [if_pos (by simpa using c2)]
  subst c2
  exact zbm3 (same _ rfl (zf6 rX rY (by simpa using yb)))
 rw [if_neg (by simpa using c2)]
 have ex:((arrOf st).extract (pre.length+k) (pre.length+X.length)).toList=X.drop k:=by
  rw [zbr3,ha]
  have e:zbw8 (pre++X++Y++post) (pre.length+k) (pre.length+X.length)=((pre++X++Y++post).drop (pre.length+k)).take (pre.length+X.length - (pre.length+k)):=by simp [zbw8]
  rw [e,zbk9,zbk9,zca4,zbq8 (by lia),zbv6,zbq3,zbt1 (by lia),show pre.length+X.length - (pre.length+k)=X.length - k by lia,zbt2 (by simp)]
  exact zbo1 (by simp)
 have ey:((arrOf st).extract (pre.length+X.length) (pre.length+X.length+m)).toList=Y.take m:=by
  rw [zbr3,ha]
  have e:zbw8 (pre++X++Y++post) (pre.length+X.length) (pre.length+X.length+m)=((pre++X++Y++post).drop (pre.length+X.length)).take (pre.length+X.length+m - (pre.length+X.length)):=by simp [zbw8]
  rw [e,zbk9 (pre++X),zca4,zbq8 (by simp),zbv6,show pre.length+X.length - (pre++X).length=0 by simp,List.drop_zero,zbq3,zbt2 (by lia)]
 generalize hx:(arrOf st).extract (pre.length+k) (pre.length+X.length)=x at ex
 generalize hy:(arrOf st).extract (pre.length+X.length) (pre.length+X.length+m)=y at ey
 have szx:x.size=X.length - k:=by rw [← zbt0,ex];simp
 have szy:y.size=m:=by rw [← zbt0,ey];simp;lia
 have T:Two κ π a₀ x y:={
  mx:=fun z hz=>by rw [ex]at hz;exact mX z (zbn7 hz)
  my:=fun z hz=>by rw [ey]at hz;exact mY z (zbo9 hz)
  rx:=by rw [ex];exact zf4 rX k
  ry:=by rw [ey];exact zg3 rY m
  sep:=fun a hA b hB=>by rw [ex]at hA;rw [ey]at hB;exact sp a (zbn7 hA) b (zbo9 hB)
  px:=by lia
  py:=by lia
  first:=fun a b e1 e2=>by
   rw [← zbm1,ex,zbv3,Nat.add_zero]at e1
   rw [← zbm1,ey,zby3 (by lia),hy0]at e2
   cases e2
   have:=hhi k (zbl3 _) (by lia)
   rw [e1]at this
   simpa using this
  last:=fun a e1 b hB=>by
   rw [← zbm1,ex,szx,zbv3,show k+(X.length - k - 1)=X.length - 1 by lia,hxl]at e1
   cases e1
   rw [ey]at hB
   obtain⟨i,hi,ei⟩:=zt2 hB
   have:=hlo2 i hi
   rw [ei]at this
   simpa using this }
 have fin:∀o st',Res κ π x y (setPending st (((pendingOf st).setIfInBounds n (pre.length,X.length+Y.length,pw)).eraseIdxIfInBounds (n+1))) o st'→wpS M A E s (do
   modify fun q=>setArr q (o.toList.zipIdx.foldl (fun a (p,j)=>a.setIfInBounds (pre.length+k+j) p) (arrOf q))
   return (failedOf (← get)).isNone) Q st':=fun o st' ⟨ss,ro,po⟩=>by
  refine zbl7 (wpS_modify (zbl7 (wpS_get (zbm3 ?_))))
  have hfl:failedOf st'=none:=ss.fld.trans hf
  show Q (failedOf st').isNone _
  rw [hfl]
  have har:arrOf st'=arrOf st:=ss.arr
  have lo:o.toList.length=X.length - k+m:=by rw [po.length_eq];simp [ex,ey];lia
  rw [ex,ey]at po
  refine h (X.take k++o.toList++Y.drop m) _ ?_ ?_ ?_ (ss.knd.trans hk) hfl ss.pnd
  ·have b1:ze4 κ π (X.take k) o.toList:=fun a hA b hB=>by
    rcases zbk1.mp (po.mem_iff.mp hB) with z | z
    ·exact ze2 rX k a hA b z
    ·exact pb a hA b (zbo9 z)
   have b2:ze4 κ π o.toList (Y.drop m):=fun a hA b hB=>by
    rcases zbk1.mp (po.mem_iff.mp hA) with z | z
    ·exact yb a (zbn7 z) b hB
    ·exact ze2 rY m a z b hB
   exact zf6 (zf6 (zg3 rX k) ro b1) (zf4 rY m) (zk3 (zo7 pb fun b hb=>zbn7 hb) b2)
  ·refine (List.Perm.append_right _ (List.Perm.append_left _ po)).trans ?_
   rw [← zbk9,zbl5,zbk9,zbl5]
  ·show (o.toList.zipIdx.foldl (fun a (q:Keyed×Nat)=>match q with | (p,j)=>a.setIfInBounds (pre.length+k+j) p) (arrOf st')).toList=_
   rw [har,back_eq _ _ _ (by rw [lo,sz];lia),lo,ha]
   have e1:(pre++X++Y++post).take (pre.length+k)=pre++X.take k:=by
    rw [zbk9,zbk9,List.take_append,zbo1 (by lia),zbq3,zbt2 (by lia)]
   have e2:(pre++X++Y++post).drop (pre.length+k+(X.length - k+m))=Y.drop m++post:=by
    rw [show pre.length+k+(X.length - k+m)=(pre++X).length+m by simp;lia,zbk9 (pre++X),zca4,zbq8 (by lia),zbv6,zbq3,zbt1 (by lia)]
   rw [e1,e2]
   simp
 by_cases c3:X.length - k≤m
 ·rw [if_pos c3]
  exact zbl7 (wp_mLo C (st:=setPending st (((pendingOf st).setIfInBounds n (pre.length,X.length+Y.length,pw)).eraseIdxIfInBounds (n+1))) hk T fin)
 ·rw [if_neg c3]
  exact zbl7 (wp_mHi C (st:=setPending st (((pendingOf st).setIfInBounds n (pre.length,X.length+Y.length,pw)).eraseIdxIfInBounds (n+1))) hk T fin)
end
end TS
namespace TS
noncomputable def kA (f:Keyed→Int) (xs:Array Keyed) (i:Nat):Int:=match xs[i]? with
 |some p=>f p
 |none=>0
theorem zaj1 {f:Keyed→Int}{xs:Array Keyed}{i:Nat}{z:Keyed} (h:xs[i]?=some z):kA f xs i=f z:=by unfold kA;rw [h]
theorem zt5 {f:Keyed→Int}{xs ys:Array Keyed}{i j:Nat} (h:xs[i]?=ys[j]?):kA f xs i=kA f ys j:=by unfold kA;rw [h]
structure Chg (xs zs:Array Keyed) (lo hi:Nat):Prop where
 pm:zs.Perm xs
 out:∀i,i<lo∨hi≤i→zs[i]?=xs[i]?
 ins:∀i,lo≤i→i<hi→∃j,lo≤j∧j<hi∧zs[i]?=xs[j]?
theorem Chg.refl (xs:Array Keyed) (lo hi:Nat):Chg xs xs lo hi:=⟨Array.Perm.refl _,fun _ _=>rfl,fun i h1 h2=>⟨i,h1,h2,rfl⟩⟩
theorem Chg.size {xs zs:Array Keyed}{lo hi:Nat} (h:Chg xs zs lo hi):zs.size=xs.size:=h.pm.size_eq
theorem Chg.wide {xs zs:Array Keyed}{lo hi hi':Nat} (h:Chg xs zs lo hi) (g:hi≤hi'):Chg xs zs lo hi' where
 pm:=h.pm
 out:=fun i hi2=>h.out i (by lia)
 ins:=fun i h1 h2=>by
  by_cases z:i<hi
  ·obtain⟨j,a,b,c⟩:=h.ins i h1 z
   exact⟨j,a,by lia,c⟩
  ·exact⟨i,h1,h2,h.out i (by lia)⟩
theorem Chg.mir {xs zs:Array Keyed}{lo hi i0 j0:Nat} (h:Chg xs zs lo hi) (h1:lo≤i0) (h2:j0≤hi) (h3:j0≤zs.size):Chg xs (mirror zs i0 j0 ((j0 - i0) / 2)) lo hi where
 pm:=(mirror_perm _ _ _ _).trans h.pm
 out:=fun i hi2=>by
  rw [getElem?_mirror_all h3,if_neg (by lia)]
  exact h.out i hi2
 ins:=fun i a b=>by
  rw [getElem?_mirror_all h3]
  split
  ·exact h.ins _ (by lia) (by lia)
  ·exact h.ins i a b
theorem zo3 {f:Keyed→Int}{zs:Array Keyed}{i0 j0:Nat} (h3:j0≤zs.size) (k:Nat):kA f (mirror zs i0 j0 ((j0 - i0) / 2)) k=if i0≤k∧k<j0 then kA f zs (i0+j0 - 1 - k) else kA f zs k:=by
 have e:=getElem?_mirror_all (i:=i0) h3 k
 by_cases h1:i0≤k∧k<j0
 ·rw [if_pos h1]at e ⊢;exact zt5 e
 ·rw [if_neg h1]at e ⊢;exact zt5 e
section
variable {M:Model}{A:Around}{E:Value→zbk8→Prop}{s:zbk8}{κ π:Keyed→Int}{a₀:Array Keyed}{kd:SortKind} (C:Cmp M A E s κ π a₀ kd)
noncomputable def rA (κ π:Keyed→Int) (xs:Array Keyed) (i:Nat):Int:=kA κ xs i*1048576+kA π xs i
noncomputable def RSeg (κ π:Keyed→Int) (xs:Array Keyed) (lo hi:Nat):Prop := ∀i j,lo≤i→i≤j→j<hi→rA κ π xs i≤rA κ π xs j
noncomputable def zaa8 (π:Keyed→Int) (xs:Array Keyed) (m:Nat):Prop := ∀i j,i≤j→m≤j→j<xs.size→kA π xs i≤kA π xs j
structure TB (a₀:Array Keyed) (kd:SortKind) (st:SortSt):Prop where
 pm:(arrOf st).Perm a₀
 kind:kindOf st=kd
 fld:failedOf st=none
theorem TB.size {st:SortSt} (h:TB a₀ kd st):(arrOf st).size=a₀.size:=h.pm.size_eq
theorem TB.mem {st:SortSt} (h:TB a₀ kd st):∀z∈(arrOf st).toList,z∈a₀.toList:=fun z hz=>(zbp1.mp h.pm).mem_iff.mp hz
theorem zbc9 {a₀ xs:Array Keyed} (h:xs.Perm a₀) {i:Nat} (hi:i<xs.size):∃z,xs[i]?=some z∧z∈a₀.toList:=⟨xs[i],by simp [hi],(zbp1.mp h).mem_iff.mp (by simp)⟩
include C in
theorem zs9 {xs:Array Keyed} (h:xs.Perm a₀) {i:Nat} (hi:i<xs.size):0≤kA π xs i∧kA π xs i<1048576:=by
 obtain⟨z,z1,z2⟩:=zbc9 h hi
 rw [zaj1 z1]
 exact C.pi z z2
include C in
theorem zaf8 {st:SortSt}{i j:Nat}{Q:Option Bool→SortSt→Prop} (hB:TB a₀ kd st) (hi:i<a₀.size) (hj:j<a₀.size) (h:Q (some (decide (kA κ (arrOf st) i<kA κ (arrOf st) j))) st):wpS M A E s (ltAt' i j) Q st:=by
 obtain⟨x,x1,x2⟩:=zbc9 hB.pm (i:=i) (by rw [hB.size];exact hi)
 obtain⟨y,y1,y2⟩:=zbc9 hB.pm (i:=j) (by rw [hB.size];exact hj)
 rw [ltAt'_eq]
 refine zbl7 (wpS_get ?_)
 refine zbl7 (zd6 x1 (zbl7 (zd6 y1 (C.lt st x y Q hB.kind x2 y2 ?_))))
 rw [zaj1 x1,zaj1 y1]at h
 exact h
noncomputable def Cnt (κ π:Keyed→Int) (a₀:Array Keyed) (kd:SortKind) (st:SortSt) (lo hi:Nat) (st':SortSt):Prop:=TB a₀ kd st'∧pendingOf st'=pendingOf st∧Chg (arrOf st) (arrOf st') lo hi∧RSeg κ π (arrOf st') lo hi
noncomputable def ascT (lo n nr:Nat):StateT SortSt Sem (Option (Option Nat)×Nat) :=
 forIn [n:nr] ((none,n):Option (Option Nat)×Nat) fun _ r=>do
  let x ← ltAt' (lo+r.snd) (lo+r.snd - 1)
  match x with
  |some sm=>if sm=true then pure (ForInStep.done (none,r.snd)) else pure (ForInStep.yield (none,r.snd+1))
  |_=>pure (ForInStep.done (some none,r.snd))
include C in
theorem zax9 {st:SortSt}{xs:Array Keyed}{lo n nr:Nat}{Q:Option (Option Nat)×Nat→SortSt→Prop} (hB:TB a₀ kd st) (hn:1≤n) (hnr:n≤nr) (hs:lo+nr≤a₀.size) (fr:zaa8 π xs lo) (ch:Chg xs (arrOf st) lo (lo+n)) (hr:RSeg κ π (arrOf st) lo (lo+n))
  (h:∀m,n≤m→m≤nr→RSeg κ π (arrOf st) lo (lo+m)→(m=nr∨kA κ (arrOf st) (lo+m)<kA κ (arrOf st) (lo+m - 1))→Q (none,m) st):wpS M A E s (ascT lo n nr) Q st:=by
 unfold ascT
 refine wpS_forRange (I:=fun x c st'=>st'=st∧c=(none,x)∧RSeg κ π (arrOf st) lo (lo+x)) ?_ ?_ ⟨rfl,rfl,hr⟩
 ·rintro x c st' hx1 hx2 ⟨rfl,rfl,hr'⟩
  dsimp only
  refine zbl7 (zaf8 C hB (by lia) (by lia) ?_)
  by_cases hl:kA κ (arrOf st') (lo+x)<kA κ (arrOf st') (lo+x - 1)
  ·simp only [hl,decide_true,if_true]
   exact zbm3 (h x hx1 (by lia) hr' (.inr hl))
  ·simp only [hl,decide_false,zbm5,if_false]
   refine zbm3 ⟨rfl,rfl,fun i j a1 a2 a3=>?_⟩
   by_cases z:j<lo+x
   ·exact hr' i j a1 a2 z
   ·have ej:j=lo+x:=by lia
    subst ej
    by_cases zi:i=lo+x
    ·subst zi;exact zbr5 _
    ·have sz:=hB.size
     have szx:=ch.size
     have q:=hr' i (lo+x - 1) a1 (by lia) (by lia)
     have p1:=zs9 C hB.pm (i:=i) (by lia)
     have p2:=zs9 C hB.pm (i:=lo+x - 1) (by lia)
     have p3:=zs9 C hB.pm (i:=lo+x) (by lia)
     have fx:kA π (arrOf st') i≤kA π (arrOf st') (lo+x):=by
      obtain⟨k,k1,k2,k3⟩:=(ch.wide (show lo+n≤lo+x by lia)).ins i a1 (by lia)
      rw [zt5 k3,zt5 (ch.out (lo+x) (by lia))]
      exact fr k (lo+x) (by lia) (by lia) (by lia)
     unfold rA at q ⊢
     lia
 ·rintro c st' ⟨rfl,rfl,hr'⟩
  rw [show max n nr=nr by lia]at hr' ⊢
  exact h nr hnr (zbl3 _) hr' (.inl rfl)
noncomputable def zay8 (lo n nr:Nat):StateT SortSt Sem (Option Nat):=do
 reverseSlice' lo (lo+n)
 let r ← ascT lo n nr
 match r.fst with
 |some a=>pure a
 |none=>pure (some r.snd)
theorem zap7 {st:SortSt}{i j:Nat}{Q:Unit→SortSt→Prop} (h:Q () (setArr st (mirror (arrOf st) i j ((j - i) / 2)))):wpS M A E s (reverseSlice' i j) Q st:=by
 rw [reverseSlice'_eq];exact wpS_modify h
theorem TB.set {st:SortSt} (h:TB a₀ kd st) {zs:Array Keyed} (hp:zs.Perm (arrOf st)):TB a₀ kd (setArr st zs):=⟨hp.trans h.pm,h.kind,h.fld⟩
include C in
theorem zap5 {st0 st:SortSt}{lo n nr:Nat}{Q:Option Nat→SortSt→Prop} (hB:TB a₀ kd st) (hp:pendingOf st=pendingOf st0) (hn:1≤n) (hnr:n≤nr) (hs:lo+nr≤a₀.size) (fr:zaa8 π (arrOf st0) lo) (ch:Chg (arrOf st0) (arrOf st) lo (lo+n))
  (hf:∀i j,lo≤i→i≤j→j<lo+n→rA κ π (arrOf st) j≤rA κ π (arrOf st) i) (h:∀m st',1≤m→m≤nr→Cnt κ π a₀ kd st0 lo (lo+m) st'→Q (some m) st'):wpS M A E s (zay8 lo n nr) Q st:=by
 unfold zay8
 have sz:lo+n≤(arrOf st).size:=by rw [hB.size];lia
 refine zbl7 (zap7 ?_)
 have hB':TB a₀ kd (setArr st (mirror (arrOf st) lo (lo+n) ((lo+n - lo) / 2))):=hB.set (mirror_perm _ _ _ _)
 have ch':Chg (arrOf st0) (mirror (arrOf st) lo (lo+n) ((lo+n - lo) / 2)) lo (lo+n):=ch.mir (zbl3 _) (zbl3 _) sz
 refine zbl7 (zax9 C hB' hn hnr hs fr ch' (fun i j a1 a2 a3=>?_) fun m m1 m2 m3 _=>zbm3 (h m _ (by lia) m2 ⟨hB',hp,ch'.wide (by lia),m3⟩))
 show rA κ π (mirror (arrOf st) _ _ _) i≤rA κ π (mirror (arrOf st) _ _ _) j
 unfold rA
 rw [zo3 sz,zo3 sz,zo3 sz,zo3 sz,if_pos (by lia),if_pos (by lia),if_pos (by lia),if_pos (by lia)]
 exact hf _ _ (by lia) (by lia) (by lia)
end
end TS
namespace TS
section
variable {M:Model}{A:Around}{E:Value→zbk8→Prop}{s:zbk8}{κ π:Keyed→Int}{a₀:Array Keyed}{kd:SortKind} (C:Cmp M A E s κ π a₀ kd)
structure Dn (κ π:Keyed→Int) (a₀:Array Keyed) (kd:SortKind) (st0:SortSt) (lo x q:Nat) (st:SortSt):Prop where
 tb:TB a₀ kd st
 pd:pendingOf st=pendingOf st0
 ch:Chg (arrOf st0) (arrOf st) lo (lo+x)
 le:q+1≤x
 un:∀i,lo+x - (q+1)≤i→(arrOf st)[i]?=(arrOf st0)[i]?
 eq:∀i,lo+x - (q+1)≤i→i<lo+x→kA κ (arrOf st) i=kA κ (arrOf st) (lo+x - 1)
 fl:∀i j,lo≤i→i≤j→j<lo+x - (q+1)→rA κ π (arrOf st) j≤rA κ π (arrOf st) i
 gt:∀i,lo≤i→i<lo+x - (q+1)→kA κ (arrOf st) (lo+x - 1)<kA κ (arrOf st) i
noncomputable def Fall (κ π:Keyed→Int) (zs:Array Keyed) (lo hi:Nat):Prop := ∀i j,lo≤i→i≤j→j<hi→rA κ π zs j≤rA κ π zs i
include C in
theorem Dn.fall {st0 st:SortSt}{lo x q:Nat} (h:Dn κ π a₀ kd st0 lo x q st) (fr:zaa8 π (arrOf st0) lo) (hs:lo+x≤a₀.size):Fall κ π (mirror (arrOf st) (lo+x - (q+1)) (lo+x) ((lo+x - (lo+x - (q+1))) / 2)) lo (lo+x):=by
 intro i j a1 a2 a3
 have sz:lo+x≤(arrOf st).size:=by rw [h.tb.size];lia
 have sz0:(arrOf st0).size=(arrOf st).size:=h.ch.size.symm
 have le:=h.le
 unfold rA
 rw [zo3 sz,zo3 sz,zo3 sz,zo3 sz]
 by_cases zi:lo+x - (q+1)≤i
 ·rw [if_pos (by lia),if_pos (by lia),if_pos (by lia),if_pos (by lia),h.eq _ (by lia) (by lia),h.eq (lo+x - (q+1)+(lo+x) - 1 - i) (by lia) (by lia),zt5 (h.un (lo+x - (q+1)+(lo+x) - 1 - j) (by lia)),zt5 (h.un (lo+x - (q+1)+(lo+x) - 1 - i) (by lia))]
  have:=fr (lo+x - (q+1)+(lo+x) - 1 - j) (lo+x - (q+1)+(lo+x) - 1 - i) (by lia) (by lia) (by lia)
  lia
 ·rw [if_neg (c:=_∧i<_) (by lia),if_neg (c:=_∧i<_) (by lia)]
  by_cases zj:lo+x - (q+1)≤j
  ·rw [if_pos (by lia),if_pos (by lia),h.eq _ (by lia) (by lia)]
   have g:=h.gt i a1 (by lia)
   have p1:=zs9 C h.tb.pm (i:=lo+x - (q+1)+(lo+x) - 1 - j) (by lia)
   have p2:=zs9 C h.tb.pm (i:=i) (by lia)
   lia
  ·rw [if_neg (by lia),if_neg (by lia)]
   exact h.fl i j a1 a2 (by lia)
include C in
theorem Dn.fall0 {st0 st:SortSt}{lo x:Nat} (h:Dn κ π a₀ kd st0 lo x 0 st) (hs:lo+x≤a₀.size):Fall κ π (arrOf st) lo (lo+x):=by
 intro i j a1 a2 a3
 have sz:lo+x≤(arrOf st).size:=by rw [h.tb.size];lia
 have le:=h.le
 by_cases zj:j<lo+x - (0+1)
 ·exact h.fl i j a1 a2 zj
 ·have ej:j=lo+x - 1:=by lia
  by_cases zi:i=j
  ·subst zi;exact zbr5 _
  ·have g:=h.gt i a1 (by lia)
   have p1:=zs9 C h.tb.pm (i:=lo+x - 1) (by lia)
   have p2:=zs9 C h.tb.pm (i:=i) (by lia)
   unfold rA
   rw [ej]
   lia
noncomputable def descT (lo n nr:Nat):StateT SortSt Sem (Option (Option Nat)×Nat×Nat) :=
 forIn [n:nr] ((none,n,0):Option (Option Nat)×Nat×Nat) fun _ r=>do
  let x ← ltAt' (lo+r.snd.fst) (lo+r.snd.fst - 1)
  match x with
  |some sm =>
   if sm=true then
    if r.snd.snd > 0 then do
     reverseSlice' (lo+r.snd.fst - (r.snd.snd+1)) (lo+r.snd.fst)
     pure (ForInStep.yield (none,r.snd.fst+1,0))
    else pure (ForInStep.yield (none,r.snd.fst+1,0))
   else do
    let y ← ltAt' (lo+r.snd.fst - 1) (lo+r.snd.fst)
    match y with
    |some lg=>if lg=true then pure (ForInStep.done (none,r.snd.fst,r.snd.snd)) else pure (ForInStep.yield (none,r.snd.fst+1,r.snd.snd+1))
    |_=>pure (ForInStep.done (some none,r.snd.fst,r.snd.snd))
  |_=>pure (ForInStep.done (some none,r.snd.fst,r.snd.snd))
include C in
theorem wp_descT {st0 st:SortSt}{lo n nr:Nat}{Q:Option (Option Nat)×Nat×Nat→SortSt→Prop} (fr:zaa8 π (arrOf st0) lo) (hn:1≤n) (hnr:n≤nr) (hs:lo+nr≤a₀.size) (D0:Dn κ π a₀ kd st0 lo n 0 st)
  (h:∀m q st',n≤m→m≤nr→Dn κ π a₀ kd st0 lo m q st'→Q (none,m,q) st'):wpS M A E s (descT lo n nr) Q st:=by
 unfold descT
 refine wpS_forRange (I:=fun x c st' => ∃q,c=(none,x,q)∧Dn κ π a₀ kd st0 lo x q st') ?_ ?_ ⟨0,rfl,D0⟩
 ·rintro x c st' hx1 hx2 ⟨q,rfl,D⟩
  dsimp only
  have le:=D.le
  have sz:lo+x≤(arrOf st').size:=by rw [D.tb.size];lia
  have hszA:=D.tb.size
  refine zbl7 (zaf8 C D.tb (by lia) (by lia) ?_)
  by_cases hl:kA κ (arrOf st') (lo+x)<kA κ (arrOf st') (lo+x - 1)
  ·simp only [hl,decide_true,if_true]
   have mk:∀zs:Array Keyed,zs.Perm (arrOf st')→Chg (arrOf st0) zs lo (lo+x)→Fall κ π zs lo (lo+x)→(∀i,lo≤i→i<lo+x→∃j,lo≤j∧j<lo+x∧zs[i]?=(arrOf st')[j]?)→zs[lo+x]?=(arrOf st')[lo+x]?→(∀i,lo+x≤i→zs[i]?=(arrOf st0)[i]?)→Dn κ π a₀ kd st0 lo (x+1) 0 (setArr st' zs):=fun zs hp hc hf hin hx hun=>{
    tb:=D.tb.set hp
    pd:=D.pd
    ch:=hc.wide (by lia)
    le:=by lia
    un:=fun i hi=>hun i (by lia)
    eq:=fun i a b=>by congr 1;lia
    fl:=fun i j a b c=>hf i j a b (by lia)
    gt:=fun i a b=>by
     show kA κ zs (lo+(x+1) - 1)<kA κ zs i
     obtain⟨j,j1,j2,j3⟩:=hin i a (by lia)
     rw [show lo+(x+1) - 1=lo+x by lia,zt5 hx,zt5 j3]
     by_cases z:j<lo+x - (q+1)
     ·have:=D.gt j j1 z
      lia
     ·rw [D.eq j (by lia) j2]
      exact hl }
   by_cases hq:q > 0
   ·rw [if_pos hq]
    refine zbl7 (zap7 (zbm3 ⟨0,rfl,mk _ (mirror_perm _ _ _ _) (D.ch.mir (by lia) (zbl3 _) sz) (D.fall C fr (by lia)) (fun i a b=>?_) ?_ (fun i a=>?_)⟩))
    ·rw [getElem?_mirror_all sz]
     split
     ·exact⟨_,by lia,by lia,rfl⟩
     ·exact⟨i,a,b,rfl⟩
    ·rw [getElem?_mirror_all sz,if_neg (by lia)]
    ·rw [getElem?_mirror_all sz,if_neg (by lia)]
     exact D.un i (by lia)
   ·rw [if_neg hq]
    have:q=0:=by lia
    subst this
    have D1:=mk (arrOf st') (Array.Perm.refl _) D.ch (D.fall0 C (by lia)) (fun i a b=>⟨i,a,b,rfl⟩) rfl (fun i a=>D.un i (by lia))
    exact zbm3 ⟨0,rfl,⟨⟨D1.tb.pm,D1.tb.kind,D1.tb.fld⟩,D1.pd,D1.ch,D1.le,D1.un,D1.eq,D1.fl,D1.gt⟩⟩
  ·simp only [hl,decide_false,zbm5,if_false]
   refine zbl7 (zaf8 C D.tb (by lia) (by lia) ?_)
   by_cases hg:kA κ (arrOf st') (lo+x - 1)<kA κ (arrOf st') (lo+x)
   ·simp only [hg,decide_true,if_true]
    exact zbm3 (h x q st' hx1 (by lia) D)
   ·simp only [hg,decide_false,zbm5,if_false]
    have ee:kA κ (arrOf st') (lo+x)=kA κ (arrOf st') (lo+x - 1):=by lia
    refine zbm3 ⟨q+1,rfl,⟨D.tb,D.pd,D.ch.wide (by lia),by lia,fun i a=>D.un i (by lia),fun i a b=>?_,fun i j a b c=>D.fl i j a b (by lia),fun i a b=>?_⟩⟩
    ·rw [show lo+(x+1) - 1=lo+x by lia]
     by_cases z:i=lo+x
     ·rw [z]
     ·rw [ee];exact D.eq i (by lia) (by lia)
    ·rw [show lo+(x+1) - 1=lo+x by lia,ee]
     exact D.gt i a (by lia)
 ·rintro c st' ⟨q,rfl,D⟩
  rw [show max n nr=nr by lia]at D ⊢
  exact h nr q st' hnr (zbl3 _) D
noncomputable def zbf5 (lo n nr:Nat):StateT SortSt Sem (Option Nat):=do
 liftM (rule "list.sort.descending-run")
 let r ← descT lo (n+1) nr
 match r.fst with
 |some a=>pure a
 |none =>
  if r.snd.snd > 0 then do
   reverseSlice' (lo+r.snd.fst - (r.snd.snd+1)) (lo+r.snd.fst)
   zay8 lo r.snd.fst nr
  else zay8 lo r.snd.fst nr
include C in
theorem zap8 {st0 st:SortSt}{lo n nr:Nat}{Q:Option Nat→SortSt→Prop} (fr:zaa8 π (arrOf st0) lo) (hnr:n+1≤nr) (hs:lo+nr≤a₀.size) (D0:Dn κ π a₀ kd st0 lo (n+1) 0 st)
  (h:∀m st',1≤m→m≤nr→Cnt κ π a₀ kd st0 lo (lo+m) st'→Q (some m) st'):wpS M A E s (zbf5 lo n nr) Q st:=by
 unfold zbf5
 refine zbl7 (wpS_lift (wpAny_rule ⟨rfl,?_⟩))
 refine zbl7 (wp_descT C fr (by lia) hnr hs D0 fun m q st' h1 h2 D=>?_)
 dsimp only
 have sz:lo+m≤(arrOf st').size:=by rw [D.tb.size];lia
 have le:=D.le
 by_cases hq:q > 0
 ·rw [if_pos hq]
  exact zbl7 (zap7 (zap5 C (D.tb.set (mirror_perm _ _ _ _)) D.pd (by lia) h2 hs fr (D.ch.mir (by lia) (zbl3 _) sz) (D.fall C fr (by lia)) h))
 ·rw [if_neg hq]
  have:q=0:=by lia
  subst this
  exact zap5 C D.tb D.pd (by lia) h2 hs fr D.ch (D.fall0 C (by lia)) h
theorem cnt_eq (lo nr:Nat):countRun' lo nr=(do
  let r ← ascT lo 1 nr
  match r.fst with
  |some a=>pure a
  |none =>
   if (r.snd == nr)=true then pure (some r.snd)
   else if r.snd > 1 then do
    let x ← ltAt' lo (lo+r.snd - 1)
    match x with
    |some rs=>if rs=true then pure (some r.snd) else do
      reverseSlice' lo (lo+r.snd)
      zbf5 lo r.snd nr
    |_=>pure none
   else zbf5 lo r.snd nr):=by
 rw [countRun'_eq]
 dsimp only
 unfold zbf5 zay8 descT ascT
 congr 1
 funext r
 obtain⟨r,n⟩:=r
 cases r with
 |some r=>rfl
 |none =>
  dsimp only
  split
  ·rfl
  ·split
   ·congr 1
    funext x
    cases x with
    |none=>rfl
    |some rs =>
     dsimp only
     split
     ·rfl
     ·congr 1
      funext _u
      congr 1
      funext _v
      congr 1
      congr 1
      funext r2
      obtain⟨r2,n2,q2⟩:=r2
      cases r2 with
      |some r2=>rfl
      |none =>
       dsimp only
       split
       ·congr 1
        funext _w
        congr 1
        funext _z
        congr 1
        funext r3
        obtain⟨r3,n3⟩:=r3
        cases r3<;>rfl
       ·congr 1
        funext _z
        congr 1
        funext r3
        obtain⟨r3,n3⟩:=r3
        cases r3<;>rfl
   ·congr 1
    funext _v
    congr 1
    congr 1
    funext r2
    obtain⟨r2,n2,q2⟩:=r2
    cases r2 with
    |some r2=>rfl
    |none =>
     dsimp only
     split
     ·congr 1
      funext _w
      congr 1
      funext _z
      congr 1
      funext r3
      obtain⟨r3,n3⟩:=r3
      cases r3<;>rfl
     ·congr 1
      funext _z
      congr 1
      funext r3
      obtain⟨r3,n3⟩:=r3
      cases r3<;>rfl
include C in
theorem wp_cnt {st:SortSt}{lo nr:Nat}{Q:Option Nat→SortSt→Prop} (hB:TB a₀ kd st) (fr:zaa8 π (arrOf st) lo) (h1:1≤nr) (hs:lo+nr≤a₀.size)
  (h:∀m st',1≤m→m≤nr→Cnt κ π a₀ kd st lo (lo+m) st'→Q (some m) st'):wpS M A E s (countRun' lo nr) Q st:=by
 rw [cnt_eq]
 have sz:=hB.size
 refine zbl7 (zax9 C (xs:=arrOf st) hB (zbl3 1) h1 hs fr (Chg.refl _ _ _) (fun i j a b c=>by rw [show i=j by lia];exact zbr5 _) fun n n1 n2 hr hor=>?_)
 dsimp only
 by_cases hn:n=nr
 ·rw [if_pos (by simpa using hn)]
  exact zbm3 (h n st n1 n2 ⟨hB,rfl,Chg.refl _ _ _,hr⟩)
 rw [if_neg (by simpa using hn)]
 have hl:=hor.resolve_left hn
 by_cases hg:n > 1
 ·rw [if_pos hg]
  refine zbl7 (zaf8 C hB (by lia) (by lia) ?_)
  by_cases hro:kA κ (arrOf st) lo<kA κ (arrOf st) (lo+n - 1)
  ·simp only [hro,decide_true,if_true]
   exact zbm3 (h n st n1 n2 ⟨hB,rfl,Chg.refl _ _ _,hr⟩)
  ·simp only [hro,decide_false,zbm5,if_false]
   have szn:lo+n≤(arrOf st).size:=by lia
   have all:∀i,lo≤i→i<lo+n→kA κ (arrOf st) i=kA κ (arrOf st) (lo+n - 1):=fun i a b=>by
    have q1:=hr lo i (zbl3 _) a b
    have q2:=hr i (lo+n - 1) a (by lia) (by lia)
    have p1:=zs9 C hB.pm (i:=lo) (by lia)
    have p2:=zs9 C hB.pm (i:=i) (by lia)
    have p3:=zs9 C hB.pm (i:=lo+n - 1) (by lia)
    unfold rA at q1 q2
    lia
   have keys:∀i,lo≤i→i<lo+n→kA κ (mirror (arrOf st) lo (lo+n) ((lo+n - lo) / 2)) i=kA κ (arrOf st) (lo+n - 1):=fun i a b=>by
    rw [zo3 szn,if_pos (by lia)]
    exact all _ (by lia) (by lia)
   have outs:∀i,lo+n≤i→(mirror (arrOf st) lo (lo+n) ((lo+n - lo) / 2))[i]?=(arrOf st)[i]?:=fun i a=>by rw [getElem?_mirror_all szn,if_neg (by lia)]
   refine zbl7 (zap7 (zap8 C fr (by lia) hs ⟨hB.set (mirror_perm _ _ _ _),rfl,((Chg.refl _ _ _).mir (zbl3 _) (zbl3 _) szn).wide (by lia),by lia,fun i a=>outs i (by lia),fun i a b=>by congr 1;lia,fun i j a b c=>?_,fun i a b=>?_⟩ h))
   ·show rA κ π (mirror (arrOf st) _ _ _) j≤rA κ π (mirror (arrOf st) _ _ _) i
    unfold rA
    rw [keys i a (by lia),keys j (by lia) (by lia),zo3 szn,zo3 szn,if_pos (by lia),if_pos (by lia)]
    have:=fr (lo+(lo+n) - 1 - j) (lo+(lo+n) - 1 - i) (by lia) (by lia) (by lia)
    lia
   ·show kA κ (mirror (arrOf st) _ _ _) _<kA κ (mirror (arrOf st) _ _ _) _
    rw [keys i a (by lia),show lo+(n+1) - 1=lo+n by lia,zt5 (outs (lo+n) (zbl3 _))]
    exact hl
 ·rw [if_neg hg]
  have:n=1:=by lia
  subst this
  refine zap8 C fr (by lia) hs ⟨hB,rfl,Chg.refl _ _ _,by lia,fun i a=>rfl,fun i a b=>by congr 1;lia,fun i j a b c=>?_,fun i a b=>?_⟩ h
  ·have:i=j:=by lia
   subst this;exact zbr5 _
  ·have:i=lo:=by lia
   subst this
   rw [Nat.add_sub_cancel]at hl
   exact hl
end
end TS
namespace TS
theorem kA_bub {f:Keyed→Int}{xs:Array Keyed}{src d:Nat} (hs:src<xs.size) (hd:d≤src) (k:Nat):kA f (bubble xs src d) k=if k=src - d then kA f xs src else if src - d<k∧k≤src then kA f xs (k - 1) else kA f xs k:=by
 have e:=getElem?_bubble hs d hd k
 by_cases h1:k=src - d
 ·rw [if_pos h1]at e ⊢;exact zt5 e
 ·rw [if_neg h1]at e ⊢
  by_cases h2:src - d<k∧k≤src
  ·rw [if_pos h2]at e ⊢;exact zt5 e
  ·rw [if_neg h2]at e ⊢;exact zt5 e
theorem Chg.bub {xs zs:Array Keyed}{lo src d:Nat} (h:Chg xs zs lo src) (h1:lo≤src - d) (hd:d≤src) (h3:src<zs.size):Chg xs (bubble zs src d) lo (src+1) where
 pm:=(bubble_perm _ _ _).trans h.pm
 out:=fun i hi=>by
  rw [getElem?_bubble h3 d hd,if_neg (by lia),if_neg (by lia)]
  exact h.out i (by lia)
 ins:=fun i a b=>by
  rw [getElem?_bubble h3 d hd]
  split
  ·exact⟨src,by lia,by lia,h.out src (by lia)⟩
  ·split
   ·obtain⟨j,j1,j2,j3⟩:=h.ins (i - 1) (by lia) (by lia)
    exact⟨j,j1,by lia,j3⟩
   ·obtain⟨j,j1,j2,j3⟩:=h.ins i a (by lia)
    exact⟨j,j1,by lia,j3⟩
section
variable {M:Model}{A:Around}{E:Value→zbk8→Prop}{s:zbk8}{κ π:Keyed→Int}{a₀:Array Keyed}{kd:SortKind} (C:Cmp M A E s κ π a₀ kd)
include C in
theorem wp_bin {st:SortSt}{lo n ok:Nat}{Q:Bool→SortSt→Prop} (hB:TB a₀ kd st) (hok:1≤ok) (hn:ok≤n) (hs:lo+n≤a₀.size) (fr:zaa8 π (arrOf st) (lo+ok)) (hr:RSeg κ π (arrOf st) lo (lo+ok))
  (h:∀st',Cnt κ π a₀ kd st lo (lo+n) st'→Q true st'):wpS M A E s (binarySort' lo n ok) Q st:=by
 rw [binarySort'_eq]
 refine zbl7 (wpS_mono (wpS_forRange (I:=fun k c st'=>c=(none,())∧Cnt κ π a₀ kd st lo (lo+min k n) st') (Q:=fun c st'=>c=(none,())∧Cnt κ π a₀ kd st lo (lo+n) st') ?_ ?_ ?_) ?_)
 ·rintro k c st' k1 k2 ⟨rfl,tb,pd,ch,rs⟩
  rw [show min k n=k by lia]at ch rs
  have sz:=tb.size
  have szx:=ch.size
  refine zbl7 (wpS_mono (wpS_forRange (I:=fun x c st2=>st2=st'∧∃l r,c=(none,l,r)∧l≤r∧r≤k∧r - l≤k - x∧(∀i,i<l→kA κ (arrOf st') (lo+i)≤kA κ (arrOf st') (lo+k))∧(∀i,r≤i→i<k→kA κ (arrOf st') (lo+k)<kA κ (arrOf st') (lo+i)))
   (Q:=fun c st2=>st2=st'∧∃l r,c=(none,l,r)∧l≤k∧(∀i,i<l→kA κ (arrOf st') (lo+i)≤kA κ (arrOf st') (lo+k))∧(∀i,l≤i→i<k→kA κ (arrOf st') (lo+k)<kA κ (arrOf st') (lo+i))) ?_ ?_ ⟨rfl,0,k,rfl,by lia,by lia,by lia,fun i hi=>by lia,fun i a b=>by lia⟩) ?_)
  ·rintro x c st2 _ x2 ⟨rfl,l,r,rfl,a1,a2,a3,a4,a5⟩
   dsimp only
   by_cases hge:l ≥ r
   ·rw [if_pos hge]
    have:l=r:=by lia
    subst this
    exact zbm3 ⟨rfl,l,l,rfl,a2,a4,a5⟩
   ·rw [if_neg hge]
    refine zbl7 (zaf8 C tb (by lia) (by lia) ?_)
    have up:∀i j,i≤j→j<k→kA κ (arrOf st2) (lo+i)≤kA κ (arrOf st2) (lo+j):=fun i j q1 q2=>by
     have q:=rs (lo+i) (lo+j) (by lia) (by lia) (by lia)
     have p1:=zs9 C tb.pm (i:=lo+i) (by lia)
     have p2:=zs9 C tb.pm (i:=lo+j) (by lia)
     unfold rA at q
     lia
    by_cases hl:kA κ (arrOf st2) (lo+k)<kA κ (arrOf st2) (lo+(l+r) / 2)
    ·simp only [hl,decide_true,if_true]
     refine zbm3 ⟨rfl,l,(l+r) / 2,rfl,by lia,by lia,by lia,a4,fun i q1 q2=>?_⟩
     have:=up ((l+r) / 2) i q1 q2
     lia
    ·simp only [hl,decide_false,zbm5,if_false]
     refine zbm3 ⟨rfl,(l+r) / 2+1,r,rfl,by lia,by lia,by lia,fun i q1=>?_,a5⟩
     have:=up i ((l+r) / 2) (by lia) (by lia)
     lia
  ·rintro c st2 ⟨rfl,l,r,rfl,a1,a2,a3,a4,a5⟩
   have:l=r:=by lia
   subst this
   exact⟨rfl,l,l,rfl,a2,a4,a5⟩
  ·rintro c st2 ⟨rfl,l,r,rfl,a1,a4,a5⟩
   show wpS _ _ _ _ (do moveDown' (lo+k) (lo+l);pure (ForInStep.yield (none,()))) _ _
   rw [moveDown'_eq]
   have hk:lo+k<(arrOf st2).size:=by lia
   refine zbl7 (wpS_modify (zbm3 ⟨rfl,tb.set (bubble_perm _ _ _),pd,?_,?_⟩))
   ·rw [show min (k+1) n=k+1 by lia]
    exact ch.bub (by lia) (by lia) hk
   ·rw [show min (k+1) n=k+1 by lia]
    intro i j b1 b2 b3
    show rA κ π (bubble (arrOf st2) (lo+k) (lo+k - (lo+l))) i≤rA κ π (bubble (arrOf st2) (lo+k) (lo+k - (lo+l))) j
    have pk:=zs9 C tb.pm hk
    have frk:∀i,lo≤i→i<lo+k→kA π (arrOf st2) i≤kA π (arrOf st2) (lo+k):=fun i q1 q2=>by
     obtain⟨m,m1,m2,m3⟩:=ch.ins i q1 q2
     rw [zt5 m3,zt5 (ch.out (lo+k) (by lia))]
     exact fr m (lo+k) (by lia) (by lia) (by lia)
    have lowA:∀i,lo≤i→i<lo+l→rA κ π (arrOf st2) i≤rA κ π (arrOf st2) (lo+k):=fun i q1 q2=>by
     have q:=a4 (i - lo) (by lia)
     rw [show lo+(i - lo)=i by lia]at q
     have p:=frk i q1 (by lia)
     unfold rA
     lia
    have upA:∀i,lo+l≤i→i<lo+k→rA κ π (arrOf st2) (lo+k)≤rA κ π (arrOf st2) i:=fun i q1 q2=>by
     have q:=a5 (i - lo) (by lia) (by lia)
     rw [show lo+(i - lo)=i by lia]at q
     have p:=zs9 C tb.pm (i:=i) (by lia)
     unfold rA
     lia
    have rb:∀i,rA κ π (bubble (arrOf st2) (lo+k) (lo+k - (lo+l))) i=if i=lo+l then rA κ π (arrOf st2) (lo+k) else if lo+l<i∧i≤lo+k then rA κ π (arrOf st2) (i - 1) else rA κ π (arrOf st2) i:=fun i=>by
     unfold rA
     rw [kA_bub hk (by lia),kA_bub hk (by lia),show lo+k - (lo+k - (lo+l))=lo+l by lia]
     split
     ·rfl
     ·split<;>rfl
    rw [rb,rb]
    by_cases z1:i=lo+l
    ·rw [if_pos z1]
     by_cases z2:j=lo+l
     ·rw [if_pos z2];exact zbr5 _
     ·rw [if_neg z2,if_pos (by lia)];exact upA _ (by lia) (by lia)
    ·rw [if_neg z1]
     by_cases z3:lo+l<i∧i≤lo+k
     ·rw [if_pos z3,if_neg (by lia),if_pos (by lia)];exact rs _ _ (by lia) (by lia) (by lia)
     ·rw [if_neg z3]
      by_cases z2:j=lo+l
      ·rw [if_pos z2];exact lowA _ b1 (by lia)
      ·rw [if_neg z2]
       by_cases z4:lo+l<j∧j≤lo+k
       ·rw [if_pos z4];exact rs _ _ b1 (by lia) (by lia)
       ·rw [if_neg z4];exact rs _ _ b1 b2 (by lia)
 ·rintro c st' ⟨hc,tb,pd,ch,rs⟩
  rw [show min (max (max ok 1) n) n=n by lia]at ch rs
  exact⟨hc,tb,pd,ch,rs⟩
 ·refine⟨rfl,hB,rfl,Chg.refl _ _ _,?_⟩
  rw [show min (max ok 1) n=ok by lia]
  exact hr
 ·rintro c st' ⟨rfl,q⟩
  exact zbm3 (h st' q)
end
end TS
namespace TS
noncomputable def MatchP:Nat→List (List Keyed)→List (Nat×Nat×Nat)→Prop
 |_,[],[]=>True
 |lo,L::Ls,q::ps=>q.1=lo∧q.2.1=L.length∧MatchP (lo+L.length) Ls ps
 |_,_,_=>False
theorem MatchP.len:∀ {lo:Nat}{Ls:List (List Keyed)}{ps:List (Nat×Nat×Nat)},MatchP lo Ls ps→Ls.length=ps.length
 |_,[],[],_=>rfl
 |_,L::Ls,q::ps,h=>by simp [MatchP.len h.2.2]
 |_,[],_::_,h=>h.elim
 |_,_::_,[],h=>h.elim
theorem MatchP.at:∀ {As:List (List Keyed)}{lo:Nat}{X:List Keyed}{Bs:List (List Keyed)}{ps:List (Nat×Nat×Nat)},MatchP lo (As++X::Bs) ps→∃pw,ps[As.length]?=some (lo+As.flatten.length,X.length,pw)
 |[],lo,X,Bs,q::ps,h=>by
  obtain⟨a,b,pw⟩:=q
  obtain⟨h1,h2,_⟩:=h
  have h1:a=lo:=h1
  have h2:b=X.length:=h2
  subst h1 h2
  exact⟨pw,by simp⟩
 |[],lo,X,Bs,[],h=>h.elim
 |L::As,lo,X,Bs,q::ps,h=>by
  obtain⟨pw,e⟩:=MatchP.at (As:=As) h.2.2
  exact⟨pw,by simpa [zbx3] using e⟩
 |L::As,lo,X,Bs,[],h=>h.elim
theorem MatchP.app:∀ {Ls:List (List Keyed)}{lo:Nat}{N:List Keyed}{ps:List (Nat×Nat×Nat)}{pw:Nat},MatchP lo Ls ps→MatchP lo (Ls++[N]) (ps++[(lo+Ls.flatten.length,N.length,pw)])
 |[],lo,N,[],pw,_=>⟨by simp,rfl,trivial⟩
 |L::Ls,lo,N,q::ps,pw,h=>⟨h.1,h.2.1,by have:=MatchP.app (N:=N) (pw:=pw) h.2.2;simpa [zbx3] using this⟩
 |[],_,_,_::_,_,h=>h.elim
 |_::_,_,_,[],_,h=>h.elim
theorem MatchP.join:∀ {As:List (List Keyed)}{lo:Nat}{X Y Z:List Keyed}{Bs:List (List Keyed)}{ps:List (Nat×Nat×Nat)}{pw:Nat},MatchP lo (As++X::Y::Bs) ps→Z.length=X.length+Y.length →
  MatchP lo (As++Z::Bs) ((ps.set As.length (lo+As.flatten.length,X.length+Y.length,pw)).eraseIdx (As.length+1))
 |[],lo,X,Y,Z,Bs,q::q2::ps,pw,h,hz=>by
  refine⟨by simp,by simp [hz],?_⟩
  have:=h.2.2.2.2
  rw [hz]
  simpa [zbx3] using this
 |[],lo,X,Y,Z,Bs,[_],pw,h,hz=>h.2.2.elim
 |[],lo,X,Y,Z,Bs,[],pw,h,hz=>h.elim
 |L::As,lo,X,Y,Z,Bs,q::ps,pw,h,hz=>by
  have:=MatchP.join (As:=As) (pw:=pw) h.2.2 hz
  refine⟨h.1,h.2.1,?_⟩
  simpa [zbx3] using this
 |L::As,lo,X,Y,Z,Bs,[],pw,h,hz=>h.elim
theorem MatchP.pow:∀ {Ls:List (List Keyed)}{lo:Nat}{ps:List (Nat×Nat×Nat)} (i pw:Nat),MatchP lo Ls ps→MatchP lo Ls (ps.modify i fun q=>(q.1,q.2.1,pw))
 |[],lo,[],i,pw,h=>by simp;trivial
 |L::Ls,lo,q::ps,0,pw,h=>by simpa [MatchP] using h
 |L::Ls,lo,q::ps,i+1,pw,h=>⟨h.1,h.2.1,MatchP.pow i pw h.2.2⟩
 |[],_,_::_,_,_,h=>h.elim
 |_::_,_,[],_,_,h=>h.elim
theorem zaq3 {α:Type}:∀(Ls:List α) (i:Nat),i+1<Ls.length→∃As X Y Bs,Ls=As++X::Y::Bs∧As.length=i
 |[],i,h=>by simp at h
 |[_],i,h=>by simp at h
 |X::Y::Bs,0,_=>⟨[],X,Y,Bs,rfl,rfl⟩
 |L::Ls,i+1,h=>by
  obtain⟨As,X,Y,Bs,e,l⟩:=zaq3 Ls i (by simpa using h)
  exact⟨L::As,X,Y,Bs,by rw [e];rfl,by simp [l]⟩
section
variable {M:Model}{A:Around}{E:Value→zbk8→Prop}{s:zbk8}{κ π:Keyed→Int}{a₀:Array Keyed}{kd:SortKind} (C:Cmp M A E s κ π a₀ kd)
structure Runs (κ π:Keyed→Int) (a₀:Array Keyed) (kd:SortKind) (st:SortSt) (Ls:List (List Keyed)) (post:List Keyed):Prop where
 tb:TB a₀ kd st
 ar:(arrOf st).toList=Ls.flatten++post
 mt:MatchP 0 Ls (pendingOf st).toList
 ok:∀L∈Ls,Ris κ π L∧L≠[]
 sp:Ls.Pairwise (sepL π)
theorem perm_arr {xs zs:Array Keyed} (h:zs.toList.Perm xs.toList):zs.Perm xs:=zbp1.mpr h
include C in
theorem zax7 {st:SortSt}{Ls:List (List Keyed)}{post:List Keyed}{i:Nat}{Q:Bool→SortSt→Prop} (R:Runs κ π a₀ kd st Ls post) (hi:i+1<Ls.length)
  (h:∀Ls' st',Runs κ π a₀ kd st' Ls' post→Ls'.flatten.Perm Ls.flatten→Ls'.length+1=Ls.length→Q true st'):wpS M A E s (mergeAt' i) Q st:=by
 obtain⟨As,X,Y,Bs,rfl,rfl⟩:=zaq3 Ls i hi
 obtain⟨pw,e1⟩:=R.mt.at
 have mt':MatchP 0 ((As++[X])++Y::Bs) (pendingOf st).toList:=by simpa using R.mt
 obtain⟨pw2,e2⟩:=mt'.at
 have sp:=zbo8.mp R.sp
 have sp2:=zbn2.mp sp.2.1
 have sp3:=zbn2.mp sp2.2
 refine wp_mAt C (pre:=As.flatten) (X:=X) (Y:=Y) (post:=Bs.flatten++post) (pw:=pw) (pw2:=pw2) R.tb.kind R.tb.fld (by rw [R.ar];simp) R.tb.mem ?_ ?_ (R.ok X (by simp)).1 (R.ok Y (by simp)).1 (R.ok X (by simp)).2 (R.ok Y (by simp)).2 (sp2.1 Y (by simp)) fun Z st' r1 r2 r3 r4 r5 r6=>?_
 ·rw [← zbm1,e1];simp
 ·rw [← zbm1]
  simpa using e2
 ·have zl:=r2.length_eq
  have memZ:∀z,z∈Z→z∈X∨z∈Y:=fun z hz=>zbk1.mp (r2.mem_iff.mp hz)
  have fp:(As++Z::Bs).flatten.Perm (As++X::Y::Bs).flatten:=by
   simp only [zcc0,zbq2,zbk9]
   refine List.Perm.append_left _ ?_
   rw [← zbk9]
   exact List.Perm.append_right _ r2
  refine h (As++Z::Bs) st' ⟨⟨perm_arr ?_,r4,r5⟩,by rw [r3];simp,?_,fun L hL=>?_,?_⟩ fp (by simp;lia)
  ·rw [r3]
   have q:=zbp1.mp R.tb.pm
   rw [R.ar]at q
   refine List.Perm.trans ?_ q
   simp only [zcc0,zbq2,zbk9]
   refine List.Perm.append_left _ ?_
   rw [← zbk9 X Y]
   exact List.Perm.append_right _ r2
  ·rw [r6]
   have:=R.mt.join (Z:=Z) (pw:=pw) (by simpa using zl)
   simpa using this
  ·rcases zbk1.mp hL with z | z
   ·exact R.ok L (by simp [z])
   ·rcases zbk5.mp z with z | z
    ·rw [z]
     exact⟨r1,fun e=>by rw [e]at zl;have:=zbu7.mpr (R.ok X (by simp)).2;simp at zl;lia⟩
    ·exact R.ok L (by simp [z])
  ·refine zbo8.mpr ⟨sp.1,zbn2.mpr ⟨fun L hL a ha b hb=>?_,sp3.2⟩,fun L hL L2 hL2=>?_⟩
   ·rcases memZ a ha with z | z
    ·exact sp2.1 L (by simp [hL]) a z b hb
    ·exact sp3.1 L hL a z b hb
   ·rcases zbk5.mp hL2 with z | z
    ·rw [z]
     intro a ha b hb
     rcases memZ b hb with w | w
     ·exact sp.2.2 L hL X (by simp) a ha b w
     ·exact sp.2.2 L hL Y (by simp) a ha b w
    ·exact sp.2.2 L hL L2 (by simp [z])
theorem zas4 {xs:Array Keyed}{F rest:List Keyed} (e:xs.toList=F++rest) (h1:sepL π F rest) (h2:rest.Pairwise fun a b=>π a≤π b):zaa8 π xs F.length:=by
 intro i j hij hm hj
 have hl:xs.size=F.length+rest.length:=by
  have:=congrArg List.length e
  simpa using this
 have ej:xs[j]?=some (rest[j - F.length]'(by lia)):=by
  rw [← zbm1,e,zbo2 hm,zbk4]
 rw [zaj1 ej]
 by_cases z:i<F.length
 ·have ei:xs[i]?=some (F[i]'z):=by rw [← zbm1,e,zbp5 z,zbk4 z]
  rw [zaj1 ei]
  exact h1 _ (zbn8 _) _ (zbn8 _)
 ·have ei:xs[i]?=some (rest[i - F.length]'(by lia)):=by rw [← zbm1,e,zbo2 (by lia),zbk4]
  rw [zaj1 ei]
  by_cases w:i=j
  ·subst w;exact zbr5 _
  ·exact zbs0.mp h2 _ _ (by lia) (by lia) (by lia)
theorem rA_eq {xs:Array Keyed}{i:Nat}{z:Keyed} (h:xs[i]?=some z):rA κ π xs i=rk κ π z:=by unfold rA rk;rw [zaj1 h,zaj1 h]
theorem zat0 {st st':SortSt}{F rest:List Keyed}{m:Nat} (e:(arrOf st).toList=F++rest) (hm:m≤rest.length) (c:Cnt κ π a₀ kd st F.length (F.length+m) st') :
  ∃N,(arrOf st').toList=F++N++rest.drop m∧N.Perm (rest.take m)∧Ris κ π N∧N.length=m:=by
 obtain⟨tb,pd,ch,rs⟩:=c
 have hl:(arrOf st).size=F.length+rest.length:=by
  have:=congrArg List.length e
  simpa using this
 have hl':=ch.size
 have t1:(arrOf st').toList.take F.length=F:=by
  apply zbz4
  intro i
  rw [List.getElem?_take]
  split
  ·rename_i hi
   have:=ch.out i (.inl hi)
   rw [zbm1,this, ← zbm1,e,zbp5 hi]
  ·rename_i hi
   rw [zbr8 (by lia)]
 have t2:(arrOf st').toList.drop (F.length+m)=rest.drop m:=by
  apply zbz4
  intro i
  rw [zbv3,zbv3,zbm1,ch.out _ (.inr (by lia)), ← zbm1,e,zbo2 (by lia)]
  congr 1;lia
 refine⟨((arrOf st').toList.drop F.length).take m,?_,?_,?_,?_⟩
 ·have q:=zbl5 F.length (arrOf st').toList
  have q2:=zbl5 m ((arrOf st').toList.drop F.length)
  rw [zbw1,t2]at q2
  rw [t1, ← q2]at q
  rw [zbk9]
  exact q.symm
 ·have q:=zbp1.mp ch.pm
  have q0:=zbl5 F.length (arrOf st').toList
  have q2:=zbl5 m ((arrOf st').toList.drop F.length)
  rw [zbw1,t2]at q2
  rw [t1, ← q2]at q0
  rw [← q0,e]at q
  have q3:=(List.perm_append_left_iff _).mp q
  rw [← zbl5 m rest]at q3
  simp only [zbt1,zbl5]at q3
  have:rest=rest.take m++rest.drop m:=(zbl5 m rest).symm
  rw [this]at q3
  have e4:(rest.take m++rest.drop m).drop m=rest.drop m:=by rw [zbl5]
  rw [e4]at q3
  exact (List.perm_append_right_iff _).mp q3
 ·unfold Ris
  rw [zbs0]
  intro i j hi hj hij
  simp only [zcd3,zbz3]
  have hj':j<m:=by simp at hj;lia
  have a1:(arrOf st')[F.length+i]?=some ((arrOf st').toList[F.length+i]'(by simp;lia)):=by rw [← zbm1];exact zbk4 _
  have a2:(arrOf st')[F.length+j]?=some ((arrOf st').toList[F.length+j]'(by simp;lia)):=by rw [← zbm1];exact zbk4 _
  have:=rs (F.length+i) (F.length+j) (by lia) (by lia) (by lia)
  rw [rA_eq a1,rA_eq a2]at this
  exact this
 ·simp;lia
end
end TS
namespace TS
section
variable {M:Model}{A:Around}{E:Value→zbk8→Prop}{s:zbk8}{κ π:Keyed→Int}{a₀:Array Keyed}{kd:SortKind} (C:Cmp M A E s κ π a₀ kd)
structure Btw (κ π:Keyed→Int) (a₀:Array Keyed) (kd:SortKind) (lo:Nat) (st:SortSt) (Ls:List (List Keyed)) (rest:List Keyed):Prop where
 rn:Runs κ π a₀ kd st Ls rest
 ln:Ls.flatten.length=lo
 sp:sepL π Ls.flatten rest
 up:rest.Pairwise fun a b=>π a≤π b
theorem runs_len {Ls:List (List Keyed)} (h:∀L∈Ls,L≠[]):Ls.length≤Ls.flatten.length:=by
 induction Ls with
 |nil=>simp
 |cons L Ls ih =>
  have h1:=zbu7.mpr (h L (by simp))
  have h2:=ih fun L hL=>h L (by simp [hL])
  simp only [zbo6,zbq2,zbo5]
  lia
noncomputable def zba6 (sz lo n:Nat):StateT SortSt Sem (ForInStep (Option Unit×Nat)):=do
 let q ← get
 match (pendingOf q).back? with
 |some (s1,n1,_)=>do
  let r ← forIn [0:sz] ((none,()):Option Unit×Unit) fun _ _=>do
   let q ← get
   match (if (pendingOf q).size > 1 then (pendingOf q)[(pendingOf q).size - 2]? else none) with
   |some (_,_,older) =>
    if older≤power' sz (2*s1+n1) (2*s1+n1+n1+n) sz then pure (ForInStep.done (none,()))
    else do
     let b ← mergeAt' ((pendingOf q).size - 2)
     if (!b)=true then pure (ForInStep.done (some (),())) else pure (ForInStep.yield (none,()))
   |_=>pure (ForInStep.done (none,()))
  match r.fst with
  |some a=>pure (ForInStep.done (some a,lo))
  |none=>do
   modify fun q=>setPending q ((pendingOf q).modify ((pendingOf q).size - 1) fun x=>(x.fst,x.2.fst,power' sz (2*s1+n1) (2*s1+n1+n1+n) sz))
   modify fun q=>setPending q ((pendingOf q).push (lo,n,0))
   pure (ForInStep.yield (none,lo+n))
 |_=>do
  modify fun q=>setPending q ((pendingOf q).push (lo,n,0))
  pure (ForInStep.yield (none,lo+n))
theorem zaz7 {st:SortSt}{Ls:List (List Keyed)}{post:List Keyed}{p:Array (Nat×Nat×Nat)} (R:Runs κ π a₀ kd st Ls post) (h:MatchP 0 Ls p.toList):Runs κ π a₀ kd (setPending st p) Ls post :=
 ⟨⟨R.tb.pm,R.tb.kind,R.tb.fld⟩,R.ar,h,R.ok,R.sp⟩
theorem zaq7 {l l' m:List Keyed} (p:l'.Perm l) (h:sepL π l m):sepL π l' m:=fun a ha b hb=>h a (p.mem_iff.mp ha) b hb
theorem zat6 {st:SortSt}{Ls:List (List Keyed)}{N rest:List Keyed}{lo n:Nat} (R:Runs κ π a₀ kd st Ls (N++rest)) (hl:Ls.flatten.length=lo) (hn:N.length=n) (rN:Ris κ π N) (nN:N≠[]) (s1:sepL π Ls.flatten N) (s2:sepL π (Ls.flatten++N) rest) (hu:rest.Pairwise fun a b=>π a≤π b) :
  Btw κ π a₀ kd (lo+n) (setPending st ((pendingOf st).push (lo,n,0))) (Ls++[N]) rest:=by
 refine⟨⟨⟨R.tb.pm,R.tb.kind,R.tb.fld⟩,?_,?_,fun L hL=>?_,?_⟩,?_,?_,hu⟩
 ·show (arrOf st).toList=_
  rw [R.ar];simp
 ·show MatchP 0 (Ls++[N]) ((pendingOf st).push (lo,n,0)).toList
  have:=R.mt.app (N:=N) (pw:=0)
  rw [zbz5]
  simpa [hl,hn] using this
 ·rcases zbk1.mp hL with z | z
  ·exact R.ok L z
  ·rw [zbm2.mp z];exact⟨rN,nN⟩
 ·refine zbo8.mpr ⟨R.sp,zbv0 _ _,fun L hL L2 hL2=>?_⟩
  rw [zbm2.mp hL2]
  exact fun a ha b hb=>s1 a (List.mem_flatten.mpr ⟨L,hL,ha⟩) b hb
 ·simp [hl,hn]
 ·simpa using s2
include C in
theorem wp_pushR {st:SortSt}{Ls:List (List Keyed)}{N rest:List Keyed}{lo n:Nat}{Q:ForInStep (Option Unit×Nat)→SortSt→Prop} (R:Runs κ π a₀ kd st Ls (N++rest)) (hl:Ls.flatten.length=lo) (hn:N.length=n) (rN:Ris κ π N) (nN:N≠[]) (s1:sepL π Ls.flatten N) (s2:sepL π (Ls.flatten++N) rest) (hu:rest.Pairwise fun a b=>π a≤π b)
  (h:∀Ls' st',Btw κ π a₀ kd (lo+n) st' Ls' rest→Q (.yield (none,lo+n)) st'):wpS M A E s (zba6 a₀.size lo n) Q st:=by
 unfold zba6
 refine zbl7 (wpS_get ?_)
 cases hb:(pendingOf st).back? with
 |none=>exact zbl7 (wpS_modify (zbm3 (h _ _ (zat6 R hl hn rN nN s1 s2 hu))))
 |some q =>
  obtain⟨st1,n1,pw1⟩:=q
  dsimp only
  refine zbl7 (wpS_mono (wpS_forRange (I:=fun _ c st'=>c=(none,())∧∃Ls',Runs κ π a₀ kd st' Ls' (N++rest)∧Ls'.flatten.Perm Ls.flatten) (Q:=fun c st'=>c=(none,())∧∃Ls',Runs κ π a₀ kd st' Ls' (N++rest)∧Ls'.flatten.Perm Ls.flatten) ?_ (fun _ _ q=>q) ⟨rfl,Ls,R,List.Perm.refl _⟩) ?_)
  ·rintro x c st2 _ _ ⟨rfl,Ls',R',p'⟩
   refine zbl7 (wpS_get ?_)
   by_cases hsz:(pendingOf st2).size > 1
   ·rw [if_pos hsz]
    have e:(pendingOf st2)[(pendingOf st2).size - 2]?=some ((pendingOf st2)[(pendingOf st2).size - 2]'(by lia)):=by simp [show (pendingOf st2).size - 2<(pendingOf st2).size by lia]
    rw [e]
    generalize (pendingOf st2)[(pendingOf st2).size - 2]'(by lia)=q
    obtain⟨a,b,older⟩:=q
    dsimp only
    split
    ·exact zbm3 ⟨rfl,Ls',R',p'⟩
    ·have len:=R'.mt.len
     have len:Ls'.length=(pendingOf st2).size:=by simpa using len
     refine zbl7 (zax7 C R' (by lia) fun Ls2 st3 R2 p2 _=>?_)
     exact zbm3 ⟨rfl,Ls2,R2,p2.trans p'⟩
   ·rw [if_neg hsz]
    exact zbm3 ⟨rfl,Ls',R',p'⟩
  ·rintro c st2 ⟨rfl,Ls',R',p'⟩
   dsimp only
   refine zbl7 (wpS_modify (zbl7 (wpS_modify (zbm3 (h _ _ (zat6 (st:=setPending st2 _) (zaz7 R' ?_) ?_ hn rN nN ?_ ?_ hu))))))
   ·have:=R'.mt.pow ((pendingOf st2).size - 1) (power' a₀.size (2*st1+n1) (2*st1+n1+n1+n) a₀.size)
    simpa using this
   ·rw [p'.length_eq];exact hl
   ·exact zaq7 p' s1
   ·exact zaq7 (List.Perm.append_right _ p') s2
noncomputable def endR (sz:Nat):StateT SortSt Sem Unit:=do
 for _ in [0:sz] do
  let p:=pendingOf (← get)
  if p.size≤1 then break
  let i:=p.size - 2
  let bf:=if i > 0 then p[i - 1]?.map (·.2.1) else none
  let i:=if bf.any (· < (p[i+1]?.elim 0 (·.2.1))) then i - 1 else i
  if !(← mergeAt' i) then return
include C in
theorem wp_endR {st:SortSt}{Ls:List (List Keyed)}{Q:Unit→SortSt→Prop} (R:Runs κ π a₀ kd st Ls []) (hl:Ls.length≤a₀.size) (h:∀st' Ls',Runs κ π a₀ kd st' Ls' []→Ls'.length≤1→Q () st'):wpS M A E s (endR a₀.size) Q st:=by
 unfold endR
 dsimp only
 refine zbl7 (wpS_mono (wpS_forRange (I:=fun x c st'=>c=(none,())∧∃Ls',Runs κ π a₀ kd st' Ls' []∧Ls'.length+x≤a₀.size+0) (Q:=fun c st'=>c=(none,())∧∃Ls',Runs κ π a₀ kd st' Ls' []∧Ls'.length≤1) ?_ ?_ ⟨rfl,Ls,R,by lia⟩) ?_)
 ·rintro x c st2 _ hx ⟨rfl,Ls',R',hl'⟩
  refine zbl7 (wpS_get ?_)
  have len:Ls'.length=(pendingOf st2).size:=by simpa using R'.mt.len
  by_cases hsz:(pendingOf st2).size≤1
  ·rw [if_pos hsz]
   exact zbm3 ⟨rfl,Ls',R',by lia⟩
  ·rw [if_neg hsz]
   have le:∀b:Bool,(if b=true then (pendingOf st2).size - 2 - 1 else (pendingOf st2).size - 2)+1<Ls'.length:=fun b=>by cases b<;>simp<;>lia
   refine zbl7 (zax7 C R' (le _) fun Ls2 st3 R2 p2 l2=>?_)
   ·exact zbm3 ⟨rfl,Ls2,R2,by lia⟩
 ·rintro c st2 ⟨rfl,Ls',R',hl'⟩
  exact⟨rfl,Ls',R',by lia⟩
 ·rintro c st2 ⟨rfl,Ls',R',hl'⟩
  exact zbm3 (h _ _ R' hl')
theorem zay6 {α:Type}{m m':StateT SortSt Sem α}{Q Q':α→SortSt→Prop}{st:SortSt} (h:wpS M A E s m' Q' st) (e:m=m') (g:∀r st',Q' r st'→Q r st'):wpS M A E s m Q st:=by
 subst e
 exact wpS_mono h g
include C in
theorem zax6 {st:SortSt}{Q:Unit→SortSt→Prop} (hB:TB a₀ kd st) (hp:pendingOf st = #[]) (ha:arrOf st=a₀) (hu:a₀.toList.Pairwise fun a b=>π a≤π b) (h2:2≤a₀.size)
  (h:∀st',TB a₀ kd st'→Ris κ π (arrOf st').toList→Q () st'):wpS M A E s sortRuns' Q st:=by
 rw [sortRuns'_eq]
 refine zbl7 (wpS_get ?_)
 dsimp only
 rw [hB.size]
 have fin:∀st' Ls,Runs κ π a₀ kd st' Ls []→Ls.length≤1→Q () st':=fun st' Ls R hl=>by
  refine h st' R.tb ?_
  rw [R.ar,zbr1]
  match Ls,hl,R with
  |[],_,_=>exact List.Pairwise.nil
  |[L],_,R=>simpa using (R.ok L (by simp)).1
 have lenB:∀ {lo st' Ls rest},Btw κ π a₀ kd lo st' Ls rest→lo+rest.length=a₀.size:=fun {lo st' Ls rest} B=>by
  have e:=congrArg List.length B.rn.ar
  simp only [zbt0,zbo5,B.ln]at e
  rw [B.rn.tb.size]at e
  lia
 have last:∀ {lo st' Ls rest},Btw κ π a₀ kd lo st' Ls rest→a₀.size≤lo→wpS M A E s (endR a₀.size) Q st':=fun {lo st' Ls rest} B hlo=>by
  have e:=lenB B
  have:rest=[]:=zbp2.mp (by lia)
  subst this
  exact wp_endR C B.rn (by have:=runs_len fun L hL=>(B.rn.ok L hL).2;rw [B.ln]at this;lia) fin
 refine zbl7 (wpS_forRange (I:=fun x c st' => ∃Ls rest lo,c=(none,lo)∧Btw κ π a₀ kd lo st' Ls rest∧x≤lo) ?_ ?_ ?_)
 ·rintro x c st1 _ hx ⟨Ls,rest,lo,rfl,B,hxl⟩
  dsimp only
  have eln:=lenB B
  by_cases hge:lo ≥ a₀.size
  ·rw [if_pos hge]
   exact zbm3 (last B hge)
  rw [if_neg hge]
  have fr:zaa8 π (arrOf st1) lo:=by
   have:=zas4 B.rn.ar B.sp B.up
   rwa [B.ln]at this
  refine zbl7 (wp_cnt C B.rn.tb fr (by lia) (by lia) fun m st2 m1 m2 cn=>?_)
  have push:∀(n:Nat) (st3:SortSt),1≤n→n≤rest.length→Cnt κ π a₀ kd st1 lo (lo+n) st3→wpS M A E s (zba6 a₀.size lo n) (fun r st' => ∃Ls rest lo,r=ForInStep.yield (none,lo)∧Btw κ π a₀ kd lo st' Ls rest∧x+1≤lo) st3:=fun n st3 n1 n2 cn=>by
   have cn':Cnt κ π a₀ kd st1 Ls.flatten.length (Ls.flatten.length+n) st3:=by rw [B.ln];exact cn
   obtain⟨N,e1,e2,e3,e4⟩:=zat0 B.rn.ar n2 cn'
   have up:=zbo8.mp ((zbl5 n rest).symm ▸ B.up)
   refine wp_pushR C (Ls:=Ls) (N:=N) (rest:=rest.drop n) ⟨cn.1,by rw [e1];simp,by rw [cn.2.1];exact B.rn.mt,B.rn.ok,B.rn.sp⟩ B.ln e4 e3 (fun z=>by rw [z]at e4;simp at e4;lia) ?_ ?_ up.2.1 fun Ls' st' B'=>⟨Ls',_,_,rfl,B',by lia⟩
   ·exact fun a hA b hB=>B.sp a hA b (zbo9 (e2.mem_iff.mp hB))
   ·intro a hA b hB
    rcases zbk1.mp hA with z | z
    ·exact B.sp a z b (zbn7 hB)
    ·exact up.2.2 a (e2.mem_iff.mp z) b hB
  dsimp only
  by_cases hmr:m<minRun' a₀.size a₀.size 0
  ·rw [if_pos hmr]
   refine zbl7 (wpS_lift (wpAny_rule ⟨rfl,?_⟩))
   have fr2:zaa8 π (arrOf st2) (lo+m):=by
    have cn':Cnt κ π a₀ kd st1 Ls.flatten.length (Ls.flatten.length+m) st2:=by rw [B.ln];exact cn
    obtain⟨N,e1,e2,e3,e4⟩:=zat0 B.rn.ar (by lia) cn'
    have up:=zbo8.mp ((zbl5 m rest).symm ▸ B.up)
    have:=zas4 (F:=Ls.flatten++N) e1 (fun a hA b hB=>?_) up.2.1
    ·rwa [zbo5,B.ln,e4]at this
    ·rcases zbk1.mp hA with z | z
     ·exact B.sp a z b (zbn7 hB)
     ·exact up.2.2 a (e2.mem_iff.mp z) b hB
   refine zbl7 (wp_bin C cn.1 m1 (by lia) (by lia) fr2 cn.2.2.2 fun st3 c3=>?_)
   have hf:Cnt κ π a₀ kd st1 lo (lo+min (a₀.size - lo) (minRun' a₀.size a₀.size 0)) st3:=by
    refine⟨c3.1,c3.2.1.trans cn.2.1,?_,c3.2.2.2⟩
    have w1:=cn.2.2.1.wide (show lo+m≤lo+min (a₀.size - lo) (minRun' a₀.size a₀.size 0) by lia)
    have w2:=c3.2.2.1
    exact⟨w2.pm.trans w1.pm,fun i hi=>(w2.out i hi).trans (w1.out i hi),fun i a b=>by
     obtain⟨j,j1,j2,j3⟩:=w2.ins i a b
     obtain⟨k,k1,k2,k3⟩:=w1.ins j j1 j2
     exact⟨k,k1,k2,j3.trans k3⟩⟩
   rw [if_neg (by decide)]
   refine zay6 (push _ st3 (by lia) (by lia) hf) ?_ fun r st' hq=>?_
   ·unfold zba6
    congr 1
    funext q
    cases (pendingOf q).back? with
    |none=>rfl
    |some z =>
     obtain⟨a,b,c⟩:=z
     dsimp only
     congr 1
     funext r
     obtain⟨r,_⟩:=r
     cases r<;>rfl
   ·obtain⟨Ls',rest',lo',rfl,b1,b2⟩:=hq
    exact⟨Ls',rest',lo',rfl,b1,b2⟩
  ·rw [if_neg hmr]
   refine zay6 (push m st2 m1 (by lia) cn) ?_ fun r st' hq=>?_
   ·unfold zba6
    congr 1
    funext q
    cases (pendingOf q).back? with
    |none=>rfl
    |some z =>
     obtain⟨a,b,c⟩:=z
     dsimp only
     congr 1
     funext r
     obtain⟨r,_⟩:=r
     cases r<;>rfl
   ·obtain⟨Ls',rest',lo',rfl,b1,b2⟩:=hq
    exact⟨Ls',rest',lo',rfl,b1,b2⟩
 ·rintro c st1 ⟨Ls,rest,lo,rfl,B,hxl⟩
  exact last B (by lia)
 ·refine⟨[],a₀.toList,0,rfl,⟨⟨hB,by rw [ha];simp,?_,fun L hL=>(by cases hL),List.Pairwise.nil⟩,rfl,fun a hA=>(by cases hA),hu⟩,zbl3 _⟩
  rw [hp];trivial
end
end TS
namespace TS
noncomputable def rkP (p:Int×Int):Int:=p.1*1048576+p.2
noncomputable def insP (p:Int×Int):List (Int×Int)→List (Int×Int)
 |[]=>[p]
 |q::r=>if rkP p≤rkP q then p::q::r else q::insP p r
noncomputable def sortP:List (Int×Int)→List (Int×Int)
 |[]=>[]
 |p::r=>insP p (sortP r)
theorem zy4 (p:Int×Int):∀r:List (Int×Int),(insP p r).Perm (p::r)
 |[]=>List.Perm.refl _
 |q::r=>by
  unfold insP
  split
  ·exact List.Perm.refl _
  ·exact (List.Perm.cons q (zy4 p r)).trans (List.Perm.swap p q r)
theorem sortP_perm:∀r:List (Int×Int),(sortP r).Perm r
 |[]=>List.Perm.refl _
 |p::r=>(zy4 p _).trans (List.Perm.cons p (sortP_perm r))
theorem zy3 (p:Int×Int):∀r:List (Int×Int),r.Pairwise (fun a b=>rkP a≤rkP b)→(insP p r).Pairwise (fun a b=>rkP a≤rkP b)
 |[],_=>by simp [insP]
 |q::r,h=>by
  unfold insP
  have hc:=zbn2.mp h
  split
  ·rename_i hle
   refine zbn2.mpr ⟨fun x hx=>?_,h⟩
   rcases zbk5.mp hx with z | z
   ·rw [z];exact hle
   ·exact zbv2 hle (hc.1 x z)
  ·rename_i hle
   refine zbn2.mpr ⟨fun x hx=>?_,zy3 p r hc.2⟩
   rcases zbk5.mp ((zy4 p r).mem_iff.mp hx) with z | z
   ·rw [z];lia
   ·exact hc.1 x z
theorem zv3:∀r:List (Int×Int),(sortP r).Pairwise (fun a b=>rkP a≤rkP b)
 |[]=>List.Pairwise.nil
 |p::r=>zy3 p _ (zv3 r)
theorem rkP_inj {p q:Int×Int} (h1:0≤p.2∧p.2<1048576) (h2:0≤q.2∧q.2<1048576) (h:rkP p=rkP q):p=q:=by
 unfold rkP at h
 have:p.1=q.1:=by lia
 have:p.2=q.2:=by lia
 exact Prod.ext ‹_› ‹_›
theorem uniqP:∀ {xs ys:List (Int×Int)},(∀p∈xs,0≤p.2∧p.2<1048576)→xs.Perm ys→xs.Pairwise (fun a b=>rkP a≤rkP b)→ys.Pairwise (fun a b=>rkP a≤rkP b)→xs=ys
 |[],ys,_,p,_,_=>(List.Perm.nil_eq p)
 |x::xs,[],_,p,_,_=>absurd p.length_eq (by simp)
 |x::xs,y::ys,hb,p,h1,h2=>by
  have c1:=zbn2.mp h1
  have c2:=zbn2.mp h2
  have m1:x∈y::ys:=p.mem_iff.mp (zbk2 ..)
  have m2:y∈x::xs:=p.mem_iff.mpr (zbk2 ..)
  have e:x=y:=by
   refine rkP_inj (hb x (zbk2 ..)) (hb y m2) ?_
   have l1:rkP y≤rkP x:=by rcases zbk5.mp m1 with z | z;rw [z];exact zbr5 _;exact c2.1 x z
   have l2:rkP x≤rkP y:=by rcases zbk5.mp m2 with z | z;rw [z];exact zbr5 _;exact c1.1 y z
   lia
  subst e
  rw [uniqP (fun q hq=>hb q (zbj9 _ hq)) (List.Perm.cons_inv p) c1.2 c2.2]
section
variable {prog:Program}{w:World}{A:Around}{E:Value→zbk8→Prop}{s:zbk8}
theorem cmp_ints {a₀:Array Keyed} (hk:∀z∈a₀.toList,∃n t,z.1=.int n t) (π:Keyed→Int) (hp:∀z∈a₀.toList,0≤π z∧π z<1048576):Cmp (model prog w) A E s (fun z=>numOf z.1) π a₀ oneType' where
 lt:=fun st x y Q hkd mx my h=>by
  obtain⟨n,t,en⟩:=hk x mx
  obtain⟨m,u,em⟩:=hk y my
  rw [lt'_eq]
  refine zbl7 (wpS_get ?_)
  rw [hkd,keyLt'_oneType,en,em]
  refine zbl7 (wpS_lift (wpAny_attempt (oneLt_int ⟨rfl,?_⟩)))
  have h':Q (some (decide (n<m))) st:=by
   have e1:numOf x.1=n:=by rw [en];rfl
   have e2:numOf y.1=m:=by rw [em];rfl
   simpa [e1,e2] using h
  exact zbm3 h'
 pi:=hp
end
end TS
namespace L2
open PySem.Spec TS
section
variable {prog:Program}{w:World}{A:Around}{E:Value→zbk8→Prop}{s:zbk8}
theorem zaz2 {u:Value}{kw:List (Str×Value)}{Q:Value→zbk8→Prop}{P:List Value→Prop} (ha1:argsOk "sorted" ⟨[u],kw⟩) (ha2:∀x,argsOk "list.sort" ⟨[.ref x],kw⟩)
  (col:∀R:List Value→zbk8→Prop,(∀(h':Heap) (tk:Nat) (us:List Value),(∀b o,s.heap.get? b=some o→h'.get? b=some o)→s.heap.objs.size≤h'.objs.size→P us→us.length≤100000→R us { s with heap:=h',toks:=tk })→wpAny (model prog w) A.in1 (collect u) R E s)
  (srt:∀(h':Heap) (tk:Nat) (us:List Value),(∀b o,s.heap.get? b=some o→h'.get? b=some o)→s.heap.objs.size≤h'.objs.size→P us→us.length≤100000 →
   wpAny (model prog w) A.in1.in1 (Builtin.«list.sort» ⟨[.ref h'.objs.size],kw⟩) (fun fin s'=>fin=.done (.ret .none)∧Q (.ref h'.objs.size) s') E { s with heap:=h'.push (seqObj "list" us.toArray 0),toks:=tk }) :
  wpAny (model prog w) A (call (.builtin "sorted") [u] kw) Q E s:=by
 refine call_function_entry_kw kind_sorted plain_sorted entry_sorted ha1 ?_
 unfold Builtin.«sorted»
 refine zbj8 (m:=checkCount "sorted" 1 1 _) (zbk6 ?_)
 refine zbj8 (col _ fun h' tk us hk hz hp hl=>?_)
 refine zbj8 (wpAny_newList ?_ (by rw [sizeLine_eq];lia))
 have hoL:(h'.push (seqObj "list" us.toArray 0)).get? h'.objs.size=some (seqObj "list" us.toArray 0):=zbl2 _ rfl
 refine zbj8 (wpAny_holding (wpAny_call_entry_kw slot_list_sort ⟨_,hoL,rfl⟩ entry_list_sort ?_ (ha2 _)))
 refine wpAny_mono (srt h' tk us hk hz hp hl) (fun fin s' hq=>?_) fun _ _ e=>e
 obtain⟨rfl,hq⟩:=hq
 exact⟨_,rfl,zbk6 ⟨_,rfl,hq⟩⟩
end
end L2
namespace DL
open PySem.Spec L2 TS
noncomputable def zd1 (n:Nat):List Int:=(zbo3 n).map fun (i:Nat)=>(i:Int)
theorem zm0 (n:Nat):(zd1 n).length=n:=by simp [zd1]
theorem zbc6 {n i:Nat}{x:Int} (h:(zd1 n)[i]?=some x):x=(i:Int)∧i<n:=by
 unfold zd1 at h
 rw [zbp6]at h
 cases e:(zbo3 n)[i]? with
 |none=>rw [e]at h;cases h
 |some j =>
  rw [e]at h
  obtain⟨h1,h2⟩:=zbn0.mp e
  simp at h1 h2
  cases h
  exact⟨by rw [h2],h1⟩
theorem zw6 {i:Int} (h0:0≤i) (h1:i≤100000):Builtin.Range.rangeFitsLong i=true:=by
 unfold Builtin.Range.rangeFitsLong
 have e:(2:Int) ^ 63=9223372036854775808:=by decide
 rw [e]
 simp only [zbk7,decide_eq_true_eq]
 lia
theorem small_of {n:Int} (h0:0≤n) (h1:n≤100000):Builtin.Range.small 0 n 1=true:=by
 have rs:Builtin.Range.rangeSize 0 n 1=n:=by simp only [Builtin.Range.rangeSize];lia
 unfold Builtin.Range.small
 rw [rs,zw6 (i:=0) (by lia) (by lia),zw6 h0 h1,zw6 (i:=1) (by lia) (by lia),if_pos (by lia),zw6 (i:=n+(1 - 1)) (by lia) (by lia),zbp3]
 rfl
end DL
namespace DL
open PySem.Spec L2
section
variable {X:Cx}{F:List Addr}
noncomputable def zao0:List Ev→Option Ev:=fun rs=>match rs with
 |[r]=>(match r.d with
  |.bl b=>some (.cl (.int (if b then 1 else 0)))
  |_=>none)
 |_=>none
theorem zbi0:zq7 X (.type "int") (fun xs H Q => ∃b:Bool,xs=[.bl b]∧Q (.int (if b then 1 else 0)) H):=by
 intro pins s σ H xs us Q I r h
 obtain⟨b,rfl,q⟩:=h
 obtain⟨u,rfl,ru⟩:=zaf9 r
 cases ru
 exact PySem.call_int_bool ⟨.int _,H,I.tok _,⟨_,rfl⟩,q⟩
theorem zbh5:CallD X F (.type "int") zao0:=CallD.of zbi0 fun H0 H A xs rs e Q m g q ek hq=>by
 unfold zao0 at ek
 split at ek
 case h_2=>cases ek
 cases q with
 |cons q1 q2 =>
  cases q2
  split at ek
  case h_2=>cases ek
  rename_i b z
  cases ek
  have p:=q1.full
  rw [z]at p
  cases p
  exact⟨b,rfl,hq _ H (Same.refl H) (.int _)⟩
end
end DL
namespace DL
open PySem.Spec L2
section
variable {X:Cx}{F:List Addr}{a b c o:Expr}{es:List Expr}{fa fb fc:DE}{ga:DA}{pos:Pos}
noncomputable def insN (ns:List Int) (k:Nat) (n:Int):List Int:=ns.take k++n::ns.drop k
noncomputable def rInsert:V→List V→Hp→VK→Prop:=fun x vs H Q => ∃(l:Addr) (ns:List Int) (k:Int) (n:Int),x=.ref l∧vs=[.int k,.int n]∧H l=some (.lst (ns.map V.int))∧0≤k∧k≤(ns.length:Int)∧ns.length≤50000∧Q .non (upd H l (.lst ((insN ns k.toNat n).map V.int)))
theorem zbc8:MtM X "list.insert" rInsert:=by
 intro pins s σ H x vs v us Q I rx rv h
 obtain⟨l,ns,k,n,rfl,rfl,hH,h0,hk,hb,q⟩:=h
 cases rx
 obtain⟨u,w,rfl,ru,rw'⟩:=rv.two
 obtain⟨t,rfl⟩:=ru
 obtain⟨t2,rfl⟩:=rw'
 obtain⟨z,its,m,r,hl,e⟩:=I.lstM hH
 have hi:IntsAre its ns:=zq1 r
 have hlen:=hi.length
 have fits:Builtin.List.listFitsIndex k=true:=by
  unfold Builtin.List.listFitsIndex
  rw [zbk7,decide_eq_true_eq,decide_eq_true_eq]
  constructor<;>lia
 have hf : ¬(!Builtin.List.listFitsIndex k)=true:=by rw [fits];decide
 have sl:its.length≤sizeLine:=le_line (by lia)
 have hz:its.toArray.size≤sizeLine:=zbq4 (Nat.le_of_eq zbl6) sl
 have rel:Vals ((insN ns k.toNat n).map V.int) (its.take k.toNat++.int n t2::its.drop k.toNat):=by
  unfold insN
  rw [zbx6,zbl8,zcc6,List.map_drop]
  exact (r.take k.toNat).append (.cons ⟨t2,rfl⟩ (r.drop k.toNat))
 have len:((insN ns k.toNat n).map V.int).length≤sizeLine:=by
  unfold insN
  rw [zbm6,zbo5,zbo6,zbr9,zca0]
  exact le_line (by lia)
 have ar:(fun xs:Array Value=>have k':=if k<0 then (k+((xs.size:Nat):Int)).toNat else min k.toNat xs.size;(xs.extract 0 k').push (.int n t2)++xs.extract k') its.toArray=(its.take k.toNat++.int n t2::its.drop k.toNat).toArray:=by
  show (its.toArray.extract 0 (if k<0 then (k+(its.toArray.size:Int)).toNat else min k.toNat its.toArray.size)).push (.int n t2)++its.toArray.extract (if k<0 then (k+(its.toArray.size:Int)).toNat else min k.toNat its.toArray.size)=_
  rw [if_neg (by lia),zbl6,Nat.min_eq_left (by lia)]
  exact PySem.W.kl_ins_eq its k.toNat _
 have MM:=@PySem.AutoSeq1.list_insert_list_int_val_1 l its.toArray m k t (.int n t2) hf hz
 clear hf fits sl hz
 refine call_meets zby8 ⟨_,e,rfl⟩ PySem.F.entry_list_insert (PySem.F.args_list_insert_3 _ _ _) MM ?_
 exact⟨e,.non,_,I.lset hH e ar rel len,rfl,q⟩
noncomputable def kIns (t:Th) (i:Nat):List Ev→Option Out
 |[rk,rn]=>(match t[i]?,rk.d,rn.d with
  |some (.own xs),.int k,.int n=>(zm3 xs).bind fun ns=>if 0≤k∧k≤(ns.length:Int)∧ns.length≤50000 then some (.nx (t.set i (.own ((insN ns k.toNat n).map D.int)))) else none
  |_,_,_=>none)
 |_=>none
noncomputable def dIns (i:Nat) (f:DA):DS:=fun t=>(f t).bind (kIns t i)
end
end DL
namespace TS
section
variable {prog:Program}{w:World}{A:Around}{E:Value→zbk8→Prop}{s:zbk8}
theorem zap3 {α:Type}:∀l:List α,l.zip l=l.map fun x=>(x,x)
 |[]=>rfl
 |x::l=>by rw [zbt4,zap3 l];rfl
theorem zs7 (vs:List Value):(vs.toArray.zip vs.toArray).toList=vs.map fun x=>(x,x):=by
 have:=ksk_zip vs.toArray vs
 rw [this,zcc1,zap3]
theorem zs8 {vs:List Value}{ns:List Int} (hv:IntsAre vs ns):∀z∈(vs.toArray.zip vs.toArray).toList,z.1=z.2∧∃n t,z.1=.int n t:=fun z hz=>by
 rw [zs7]at hz
 obtain⟨v,m,rfl⟩:=zbq1.mp hz
 exact⟨rfl,hv.all _ m⟩
theorem zp9 (vs:List Value):(vs.toArray.zip vs.toArray).size=vs.length:=by rw [Array.size_zip,zbl6];lia
theorem zah3 {vs:List Value}{ns:List Int} (hv:IntsAre vs ns) (arr:Array Keyed) (hp:arr.Perm (vs.toArray.zip vs.toArray)) (hr:Ris (fun z=>numOf z.1) (fun _=>0) arr.toList):arr.size=vs.length∧IntsAre (arr.map (·.2)).toList (DL.sortI' ns):=by
 have hpl:=zbp1.mp hp
 have p1:(arr.toList.map fun z=>numOf z.2).Perm ns:=by
  have q:=hpl.map fun z=>numOf z.2
  rw [zs7,zbs5]at q
  have e:vs.map ((fun z:Keyed=>numOf z.2) ∘ fun x=>(x,x))=ns:=by rw [← hv.nums];rfl
  rw [e]at q
  exact q
 have p2:(arr.toList.map fun z=>numOf z.2).Pairwise (·≤·):=by
  refine zcd4.mpr ((List.Pairwise.and_mem.mp hr).imp fun {a b} hab=>?_)
  obtain⟨ma,mb,q⟩:=hab
  have e1:=(zs8 hv a (hpl.mem_iff.mp ma)).1
  have e2:=(zs8 hv b (hpl.mem_iff.mp mb)).1
  have q':numOf a.1*1048576+0≤numOf b.1*1048576+0:=q
  rw [e1,e2]at q'
  lia
 have e:(arr.toList.map fun z=>numOf z.2)=DL.sortI' ns:=DL.sorted_uniq (p1.trans (DL.sortI'_perm ns).symm) p2 (DL.sortI'_sorted ns)
 refine⟨by rw [hp.size_eq];exact zp9 vs,?_⟩
 have q:=intsAre_map (arr.map (·.2)).toList (fun v hv'=>by
  rw [zca5]at hv'
  obtain⟨z,hz,rfl⟩:=zbq1.mp hv'
  obtain⟨e1,n,t,e2⟩:=zs8 hv z (hpl.mem_iff.mp hz)
  exact⟨n,t,by rw [← e1];exact e2⟩)
 have e2:(arr.map (·.2)).toList.map numOf=DL.sortI' ns:=by
  rw [← e,zca5,zbs5]
  rfl
 rw [e2]at q
 exact q
theorem zbb1 {vs:List Value}{ns:List Int} (hv:IntsAre vs ns) (hz:vs.length≤1):IntsAre ((vs.toArray.zip vs.toArray).map (·.2)).toList (DL.sortI' ns):=(zah3 hv _ (Array.Perm.refl _) (by
 unfold Ris
 rw [zs7]
 match vs,hz with
 |[],_=>exact List.Pairwise.nil
 |[z],_=>exact zbv0 _ _)).2
theorem zav4 {vs:List Value}{ns:List Int} (hv:IntsAre vs ns) (h2:2≤vs.length):wpAny (model prog w) A (sortRuns'.run (SortSt.mk' oneType' (vs.toArray.zip vs.toArray) #[] 7 none)) (fun r s'=>s'=s∧(arrOf r.2).size=vs.length∧failedOf r.2=none∧IntsAre ((arrOf r.2).map (·.2)).toList (DL.sortI' ns)) E s:=by
 have C:Cmp (model prog w) A E s (fun z=>numOf z.1) (fun _=>0) (vs.toArray.zip vs.toArray) oneType':=cmp_ints (fun z hz=>(zs8 hv z hz).2) _ fun z hz=>by lia
 refine wpAny_mono (zax6 C (st:=SortSt.mk' oneType' (vs.toArray.zip vs.toArray) #[] 7 none) (Q:=fun _ st'=>TB (vs.toArray.zip vs.toArray) oneType' st'∧Ris (fun z=>numOf z.1) (fun _=>0) (arrOf st').toList) ⟨Array.Perm.refl _,rfl,rfl⟩ rfl rfl (zbz6 (fun _ _=>zbr5 _)) (by rw [zp9];exact h2) fun st' a b=>⟨a,b⟩) ?_ fun _ _ e=>e
 rintro ⟨⟨⟩,st'⟩ s' ⟨rfl,tb,rs⟩
 obtain⟨o1,o2⟩:=zah3 hv (arrOf st') tb.pm rs
 exact⟨rfl,o1,tb.fld,o2⟩
theorem ls_plain {a:Addr}{vs:List Value}{ns:List Int}{n:Nat}{P:PySem.Fin→zbk8→Prop} (ho:s.heap.get? a=some (seqObj "list" vs.toArray n)) (hI:IntsAre vs ns) (hz:vs.length≤100000)
  (h:∀out:Array Value,IntsAre out.toList (DL.sortI' ns)→P (.done (.ret .none)) { s with heap:=sortedHeap s.heap a vs out }):wpAny (model prog w) A (Builtin.«list.sort» ⟨[.ref a],[]⟩) P E s:=by
 have ha:a<s.heap.objs.size:=zbl0 ho
 have lz:vs.length≤sizeLine:=by rw [sizeLine_eq];lia
 obtain⟨e1,ho1⟩:∃e1,(s.heap.update a (Obj.mapSeq fun _=>(#[]:Array Value))).get? a=some (seqObj "list" #[] e1):=⟨_,get?_update_seq ho fun _ => #[]⟩
 have ho2:(((s.heap.update a (Obj.mapSeq fun _=>(#[]:Array Value))).push (seqObj "tuple" vs.toArray 0)).push (seqObj "list" #[] 0)).get? a=some (seqObj "list" #[] e1):=zbk0 _ (zbk0 _ ho1)
 rw [list_sort_plain]
 refine zbj8 (listItems_at ho rfl ?_)
 refine zbj8 (listUpdate_at ho rfl ?_ (by rw [zbl6];lia) (zbq5 _))
 refine zbj8 (seqEpoch_at ho1 rfl ?_)
 refine zbj8 (wpAny_newTuple ?_ (by show vs.length≤_;lia))
 refine zbj8 (wpAny_newList ?_ (zbq5 _))
 refine wpAny_holding ?_
 have hv2:vs.toArray.size=vs.length:=by simp
 by_cases h2:vs.toArray.size<2
 ·rw [if_pos h2,if_pos h2]
  refine zbj8 (zbk6 ?_)
  dsimp only
  rw [StateT.run_pure]
  refine zbj8 (zbk6 ?_)
  dsimp only
  refine zbj8 (seqEpoch_at ho2 rfl ?_)
  refine zbj8 (listUpdate_at ho2 rfl ?_ (zbq5 _) (by
   show ((vs.toArray.zip vs.toArray).map (·.2)).size≤_
   rw [zby9,zp9];lia))
  simp only [bne_self_eq_false,zbm5,if_false]
  exact zbk6 (h _ (zbb1 hI (by lia)))
 ·rw [if_neg h2,if_neg h2]
  rw [ksk_kind (keys:=vs.toArray) (by simpa using hI) (by lia)]
  refine zbj8 (zbk6 ?_)
  dsimp only
  refine zbj8 (wpAny_mono (zav4 hI (by lia)) ?_ fun _ _ e=>e)
  rintro ⟨⟨⟩,st'⟩ s' ⟨rfl,sz,hf,hi⟩
  dsimp only at sz hf hi ⊢
  refine zbj8 (seqEpoch_at ho2 rfl ?_)
  refine zbj8 (listUpdate_at ho2 rfl ?_ (zbq5 _) (by
   show ((arrOf st').map (·.2)).size≤_
   rw [zby9,sz];lia))
  rw [hf]
  simp only [bne_self_eq_false,zbm5,if_false]
  exact zbk6 (h _ hi)
end
end TS
namespace TS
noncomputable def RawD (h:Heap) (d:Addr) (es:Array DictEntry) (ep:Nat):Prop := ∃o,h.get? d=some o∧o.ExactDict∧o.data=.dict es ep
theorem RawD.at {h h':Heap}{d:Addr}{es:Array DictEntry}{ep:Nat} (x:RawD h d es ep) (k:∀o,h.get? d=some o→h'.get? d=some o):RawD h' d es ep:=let ⟨o,a,r⟩:=x;⟨o,k o a,r⟩
theorem RawD.ty {s:zbk8}{d:Addr}{es:Array DictEntry}{ep:Nat} (x:RawD s.heap d es ep):s.TypeIs (.ref d) "dict":=let ⟨o,a,r,_⟩:=x;⟨o,a,r.1⟩
section
variable {prog:Program}{w:World}{A:Around}{E:Value→zbk8→Prop}{s:zbk8}
theorem raw_iter {d:Addr}{es:Array DictEntry}{ep:Nat}{Q:Value→zbk8→Prop} (nm:(d == sysModules)=false) (x:RawD s.heap d es ep)
  (q:Q (.ref s.heap.objs.size) { s with heap:=s.heap.push { cls:=.type "dict_keyiterator",data:=.fields #[.ref d,.int 0 0,.int es.size 0,.int ep 0] } }):wpAny (model prog w) A (pyIter (.ref d)) Q E s:=by
 have ty:=x.ty
 obtain⟨o,a,r,dd⟩:=x
 refine wpAny_pyIter_slot ty F.slot_dict_iter (wpAny_call_entry F.slot_dict_iter ty F.entry_dict_iter ?_ (F.args_dict_iter_1 _))
 unfold Builtin.«dict.__iter__» Builtin.Dict.dictSlotNone
 refine zbj8 (zbj8 (wpAny_notOrdered_dict ty ?_))
 show wpAny _ _ (pure (Value.ref d)) _ _ s
 refine zbk6 ?_
 show wpAny _ _ (Builtin.Dict.showsAll d >>= _) _ _ s
 unfold Builtin.Dict.showsAll
 rw [if_neg (by rw [nm];exact zbl9)]
 refine zbj8 (zbk6 (zbj8 (wpAny_dictEntries a dd (zbj8 (wpAny_dictEpoch a dd ?_)))))
 exact zbj8 (wpAny_newObj_type (zbk6 ⟨_,rfl, "dict_keyiterator",_,⟨_,zbl2 _ rfl,rfl⟩,F.slot_dict_keyiterator_next.lookup,by simpa [rawInt] using q⟩))
theorem raw_head {it d:Addr}{i ep:Nat}{es:Array DictEntry}{Q:Option Value→zbk8→Prop} (ki:s.heap.IsKeyIter it d i es.size ep) (x:RawD s.heap d es ep) (hi:i<es.size)
  (q:∀h',h'.IsKeyIter it d (i+1) es.size ep→Heap.SameBut it s.heap h'→Q (some es[i].key) { s with heap:=h' }):wpAny (model prog w) A (pyNext (.ref it)) Q E s:=by
 have ty:=ki.typeIs
 obtain⟨o,ho,hc,hd⟩:=ki
 obtain⟨od,a,r,dd⟩:=x
 have ow:Builtin.Dict_items.ownsTuple "dict_keyiterator"=false:=by decide
 have nn : ¬ ((Value.ref d == Value.none)=true):=zbl9
 unfold pyNext
 refine zbj8 (wpAny_attempt (wpAny_callSpecial?_slot (name:=Str.ofString "__next__") ty F.slot_dict_keyiterator_next (wpAny_call_entry F.slot_dict_keyiterator_next ty F.entry_dict_keyiterator_next ?_ (F.args_dict_keyiterator_next_1 _))))
 refine zbj8 (zbk6 (zbj8 (zbj8 ?_)))
 first | refine zbj8 (wpAny_typeNameOfWhole_keyiter ty (zbk6 (zbj8 (wpAny_fieldsOf ho hd ?_)))) |refine zbj8 (wpAny_typeNameOf_keyiter ty (zbk6 (zbj8 (wpAny_fieldsOf ho hd ?_))))
 simp only [ow,zbm5,if_false]
 show wpAny _ _ (if (Value.ref d == Value.none)=true then _ else _) _ _ s
 rw [if_neg nn]
 refine zbj8 (zbk6 (zbj8 (wpAny_dictEntries a dd ?_)))
 rw [if_neg (by simp)]
 refine zbj8 (zbk6 (zbj8 (wpAny_dictEpoch a dd ?_)))
 rw [if_neg (by simp)]
 refine zbk6 ?_
 have ng : ¬ ((i:Int)<0):=by lia
 simp only [ng,if_false,zbn9,zbm7 hi]
 refine zbj8 ?_
 first | refine zbj8 (wpAny_typeNameOfWhole_keyiter ty (zbk6 (zbj8 (wpAny_isOneOf_keyiter ty ?_)))) |refine zbj8 (wpAny_typeNameOf_keyiter ty (zbk6 (zbj8 (wpAny_isOneOf_keyiter ty ?_))))
 show wpAny _ _ (setField (.ref it) 1 (rawInt ((i:Int)+1)) >>= _) _ _ s
 refine zbj8 (wpAny_setField ho hd (by simp) ?_)
 have k2:(s.heap.update it (Obj.mapFields (·.setIfInBounds 1 (rawInt ((i:Int)+1))))).IsKeyIter it d (i+1) es.size ep:=⟨_,zbo4 _ ho (Obj.isFreed_of_fields (Obj.data_mapFields hd _)),(Obj.cls_mapFields ..).trans hc,by rw [Obj.data_mapFields hd];simp [rawInt]⟩
 refine zbj8 (wpAny_holding (zbj8 (wpAny_isOneOf_keyiter (s:={ s with heap:=s.heap.update it (Obj.mapFields (·.setIfInBounds 1 (rawInt ((i:Int)+1)))) }) k2.typeIs ?_)))
 show wpAny _ _ (pure es[i].key) _ _ _
 exact zbk6 (zbk6 ⟨_,rfl,zbk6 (q _ k2 (Heap.SameBut.update ..))⟩)
theorem raw_end {it d:Addr}{ep:Nat}{es:Array DictEntry}{Q:Option Value→zbk8→Prop} (hh:A.handled=none) (ki:s.heap.IsKeyIter it d es.size es.size ep) (x:RawD s.heap d es ep)
  (q:∀h',Heap.ExtBut it s.heap h'→Q none { s with heap:=h' }):wpAny (model prog w) A (pyNext (.ref it)) Q E s:=by
 have ty:=ki.typeIs
 obtain⟨o,ho,hc,hd⟩:=ki
 obtain⟨od,a,r,dd⟩:=x
 have ow:Builtin.Dict_items.ownsTuple "dict_keyiterator"=false:=by decide
 have nn : ¬ ((Value.ref d == Value.none)=true):=zbl9
 unfold pyNext
 refine zbj8 (wpAny_attempt (wpAny_callSpecial?_slot (name:=Str.ofString "__next__") ty F.slot_dict_keyiterator_next (wpAny_call_entry F.slot_dict_keyiterator_next ty F.entry_dict_keyiterator_next ?_ (F.args_dict_keyiterator_next_1 _))))
 refine zbj8 (zbk6 (zbj8 (zbj8 ?_)))
 first | refine zbj8 (wpAny_typeNameOfWhole_keyiter ty (zbk6 (zbj8 (wpAny_fieldsOf ho hd ?_)))) |refine zbj8 (wpAny_typeNameOf_keyiter ty (zbk6 (zbj8 (wpAny_fieldsOf ho hd ?_))))
 simp only [ow,zbm5,if_false]
 show wpAny _ _ (if (Value.ref d == Value.none)=true then _ else _) _ _ s
 rw [if_neg nn]
 refine zbj8 (zbk6 (zbj8 (wpAny_dictEntries a dd ?_)))
 rw [if_neg (by simp)]
 refine zbj8 (zbk6 (zbj8 (wpAny_dictEpoch a dd ?_)))
 rw [if_neg (by simp)]
 refine zbk6 ?_
 have ng : ¬ ((es.size:Int)<0):=by lia
 simp only [ng,if_false,zbn9,zbv7 (zbl3 es.size)]
 refine zbj8 ?_
 first | refine zbj8 (wpAny_typeNameOfWhole_keyiter ty (zbk6 ?_)) |refine zbj8 (wpAny_typeNameOf_keyiter ty (zbk6 ?_))
 show wpAny _ _ (setField (.ref it) 0 .none >>= _) _ _ s
 refine zbj8 (wpAny_setField ho hd (by simp) ?_)
 show wpAny _ _ (newExc (.type "StopIteration") [] >>= _) _ _ _
 refine zbj8 ?_
 simp only [newExc,newTuple]
 refine zbj8 (wpAny_newObj_type (zbj8 (m:=firstArgMember _ _) (wpAny_of_eq (a:=Value.none) (by first | rfl | (simp only [firstArgMember];rfl)) ?_)) (by size_fits))
 refine wpAny_newObj_type ?_ (by size_fits)
 simp only [raiseNew]
 refine zbj8 (wpAny_handled ?_)
 rw [show A.in1.handled=none from hh]
 refine zbj8 (zbk6 (wpAny_throw ?_))
 refine zbj8 (wpAny_isInstance (T := "StopIteration") (b:=true) ⟨_,zbl2 _ rfl,rfl⟩ isSubtype_stop ?_)
 exact zbk6 (q _ (((Heap.SameBut.update ..).extBut.push _).push _))
theorem zay0 (hh:A.handled=none) (I d:Addr) (hne:d≠I) (es:Array DictEntry) (ep:Nat):Walks prog w A I [I,d] [I] es.size (fun i v => ∃h:i<es.size,v=es[i].key) (fun i h=>h.IsKeyIter I d i es.size ep∧RawD h d es ep) where
 sub:=fun b hb=>by simp at hb;simp [hb]
 frame:=fun _ _ _ st hk=>⟨(let ⟨o,a,r⟩:=st.1;⟨o,hk I (by simp) o a,r⟩),st.2.at fun o e=>hk d (by simp) o e⟩
 item:=fun i s Q E hi st hQ=>raw_head st.1 st.2 hi fun h' k sb=>hQ _ h' s.toks ⟨hi,rfl⟩ ⟨k,st.2.at fun o e=>sb.extBut d o hne e⟩ fun b o hb e=>sb.extBut b o (fun z=>hb (by simp [z])) e
 done:=fun s Q E st hQ=>raw_end hh st.1 st.2 fun h' x=>hQ h' s.toks fun b o hb e=>x b o (fun z=>hb (by simp [z])) e
 self:=fun _ _ _ _ st hQ=>wpAny_pyIter_keyiter st.1 hQ
end
end TS
namespace TS
section
variable {prog:Program}{w:World}{A:Around}{E:Value→zbk8→Prop}{s:zbk8}
theorem ext_raw {R:Result→zbk8→Prop}{d:Addr}{es:Array DictEntry}{ep:Nat} (hh:A.handled=none) (nm:(d == sysModules)=false) (x:RawD s.heap d es ep) (hz:es.size≤100000) (S:Addr) (res:Value) (c₀:Nat) (hS:s.heap.get? S=some { cls:=.type "list",data:=.seq #[] c₀ })
  (hR:∀h' tk acc' c',(∀b o,b≠S→s.heap.get? b=some o→h'.get? b=some o)→h'.get? S=some { cls:=.type "list",dict:=none,data:=.seq acc' c',slots := #[] }→ItemsOf (fun i v => ∃h:i<es.size,v=es[i].key) acc' es.size→R (.ok (.ret res)) { s with heap:=h',toks:=tk }) :
  wpAny (model prog w) A.in1 (Builtin.List.listExtendWith (.ref S) (.ref d) res) (fun fin s'=>match fin with | .done f=>R (.ok f) s' | .again c'=>c'.quiet=true∧codeAny (model prog w) A c' R s') (fun e s'=>R (.error e) s') s:=by
 obtain⟨o,a,r,dd⟩:=id x
 have Sd:S≠d:=fun e=>by
  rw [e,a]at hS
  have:o.cls=.type "list":=by rw [Option.some.inj hS]
  rw [r.1]at this
  exact absurd this (by decide +kernel)
 have dI:d≠s.heap.objs.size:=zbn1 (zbl0 a)
 have SI:S≠s.heap.objs.size:=zbn1 (zbl0 hS)
 have W:=(zay0 (prog:=prog) (w:=w) (A:=A.in1) hh s.heap.objs.size d dI es ep).toS
 unfold Builtin.List.listExtendWith
 refine zbj8 (wpAny_typeOf (T := "dict") x.ty ?_)
 have h1:Builtin.List.listSameRef (.ref S) (.ref d)=false:=by simp [Builtin.List.listSameRef,Sd]
 simp only [h1,show (Value.type "dict" == Value.type "list")=false by decide,show (Value.type "dict" == Value.type "tuple")=false by decide,zca6,zbm5,if_false]
 refine zbj8 (raw_iter nm x ?_)
 have x1:RawD (s.heap.push { cls:=.type "dict_keyiterator",data:=.fields #[.ref d,.int 0 0,.int es.size 0,.int ep 0] }) d es ep:=x.at fun o e=>zbk0 _ e
 refine zbj8 (wpAny_holding (PySem.W.kdl_hint_dict (RawD.ty (s:={ s with heap:=s.heap.push { cls:=.type "dict_keyiterator",data:=.fields #[.ref d,.int 0 0,.int es.size 0,.int ep 0] } }) x1) ?_))
 have kI:(s.heap.push { cls:=.type "dict_keyiterator",data:=.fields #[.ref d,.int 0 0,.int es.size 0,.int ep 0] }).IsKeyIter s.heap.objs.size d 0 es.size ep:=⟨_,zbl2 _ rfl,rfl,rfl⟩
 have key:∀(h:Heap) (c₁ tk:Nat),h.IsKeyIter s.heap.objs.size d 0 es.size ep→RawD h d es ep→(∀b o,b≠S→s.heap.get? b=some o→h.get? b=some o)→h.get? S=some { cls:=.type "list",data:=.seq #[] c₁ } →
   codeAny (model prog w) A (.builtin "list.extend.loop" ⟨[.ref S,.ref s.heap.objs.size,res],[]⟩) R { s with heap:=h,toks:=tk }:=by
  intro h c₁ tk k1 x2 hk g1
  refine codeAny_extend_loopS W (by rw [sizeLine_eq];lia) S (fun hm=>?_) res es.size 0 _ #[] c₁ rfl (zbq5 _) ⟨k1,x2⟩ g1 (ItemsOf.nil _) fun s' acc' c' hm hS' hacc=>?_
  ·simp only [zbk5,zbp0,or_false]at hm
   exact hm.elim SI Sd
  ·rw [Moved.eq_with hm]
   refine hR s'.heap s'.toks acc' c' (fun b o hb e=>hm.heap b o (fun hmem=>?_) (hk b o hb e)) hS' hacc
   rcases zbk5.mp hmem with e' |hmem
   ·exact hb e'
   ·exact absurd (zbl0 e) (by rw [zbm2.mp hmem];exact zbr0 _)
 have g1:=zbk0 { cls:=.type "dict_keyiterator",data:=.fields #[.ref d,.int 0 0,.int es.size 0,.int ep 0] } hS
 refine wpAny_ite_split (fun _=>?_) (fun _=>zbk6 ⟨plainId_quiet F.plain_extend_loop _,key _ c₀ _ kI x1 (fun b o _ e=>zbk0 _ e) g1⟩)
 refine zbj8 (wpAny_rule (zbj8 ?_))
 show wpAny _ _ (updateSeq S (·.push .none) >>= fun _=>updateSeq S (·.pop)) _ _ _
 refine zbj8 (wpAny_updateSeq g1 rfl ?_)
 have g2:=zbo4 (Obj.mapSeq (·.push Value.none)) g1 rfl
 refine wpAny_updateSeq (hz:=by seq_fits) g2 rfl ?_
 have g3:=zbo4 (Obj.mapSeq (·.pop)) g2 rfl
 have ot:∀ {b:Addr}{o:Obj},b≠S→(s.heap.push { cls:=.type "dict_keyiterator",data:=.fields #[.ref d,.int 0 0,.int es.size 0,.int ep 0] }).get? b=some o→(((s.heap.push { cls:=.type "dict_keyiterator",data:=.fields #[.ref d,.int 0 0,.int es.size 0,.int ep 0] }).update S (Obj.mapSeq (·.push Value.none))).update S (Obj.mapSeq (·.pop))).get? b=some o:=fun {b o} hb e =>
  (zbn5 _ _ (Ne.symm hb)).trans ((zbn5 _ _ (Ne.symm hb)).trans e)
 exact zbk6 ⟨plainId_quiet F.plain_extend_loop _,key _ _ _ (let ⟨o,e,r⟩:=kI;⟨o,ot (Ne.symm SI) e,r⟩) (x1.at fun o e=>ot (Ne.symm Sd) e) (fun b o hb e=>ot hb (zbk0 _ e)) g3⟩
theorem zao6 {d:Addr}{es:Array DictEntry}{ep:Nat}{R:List Value→zbk8→Prop} (hh:A.handled=none) (nm:(d == sysModules)=false) (x:RawD s.heap d es ep) (hz:es.size≤100000)
  (h:∀(h':Heap) (tk:Nat) (us:List Value),(∀b o,s.heap.get? b=some o→h'.get? b=some o)→s.heap.objs.size≤h'.objs.size→ItemsOf (fun i v => ∃h:i<es.size,v=es[i].key) us.toArray es.size→R us { s with heap:=h',toks:=tk }) :
  wpAny (model prog w) A (collect (.ref d)) R E s:=by
 unfold collect
 refine zbj8 (wpAny_runValue (codeAny_builtin entry_proto_collect' ?_))
 rw [Around.under_plainId zbx0 _]
 show wpAny _ A.in1 (newList [] >>= fun l=>again (.builtin "list.__iadd__" ⟨[l,.ref d],[]⟩)) _ _ s
 refine zbj8 (wpAny_newObj_type ?_)
 refine zbk6 ⟨plainId_quiet zbs9 _,codeAny_builtin entry_list_iadd' ?_⟩
 rw [Around.under_plainId zbs9 _]
 have g0:(s.heap.push { cls:=.type "list",data:=.seq ([]:List Value).toArray }).get? s.heap.objs.size=some { cls:=.type "list",data:=.seq #[] }:=zbl2 _ rfl
 have key:=ext_raw (A:=A) (s:={ s with heap:=s.heap.push { cls:=.type "list",data:=.seq ([]:List Value).toArray } }) (prog:=prog) (w:=w)
  (R:=fun (q:Result) (s':zbk8) => ∃(h':Heap) (tk:Nat) (acc':Array Value) (c':Nat),q=.ok (.ret (.ref s.heap.objs.size))∧s'={ s with heap:=h',toks:=tk } ∧
   (∀b o,s.heap.get? b=some o→h'.get? b=some o)∧s.heap.objs.size≤h'.objs.size∧h'.get? s.heap.objs.size=some { cls:=.type "list",dict:=none,data:=.seq acc' c',slots := #[] }∧ItemsOf (fun i v => ∃h:i<es.size,v=es[i].key) acc' es.size)
  hh nm (x.at fun o e=>zbk0 _ e) hz s.heap.objs.size (.ref s.heap.objs.size) 0 g0
  (fun h' tk acc' c' hk hS' hacc=>⟨h',tk,acc',c',rfl,rfl,fun b o e=>hk b o (zbn1 (zbl0 e)) (zbk0 _ e),zbv1 (zbl0 hS'),hS',hacc⟩)
 show wpAny _ A.in1 (Builtin.List.listExtendWith (.ref s.heap.objs.size) (.ref d) (.ref s.heap.objs.size)) _ _ _
 refine wpAny_mono key (fun fin s' y=>?_) fun e s' y=>?_
 ·cases fin with
  |done f =>
   obtain⟨h',tk,acc',c',e,rfl,hk,hz',hS',hacc⟩:=y
   cases e
   show wpAny _ A (load s.heap.objs.size >>= _) _ _ _
   exact zbj8 (wpAny_load hS' (zbk6 (h h' tk acc'.toList hk hz' (by simpa using hacc))))
  |again c₁ =>
   refine⟨y.1,codeAny_mono y.2 fun q s₂ z=>?_⟩
   obtain⟨h',tk,acc',c',rfl,rfl,hk,hz',hS',hacc⟩:=z
   show wpAny _ A (load s.heap.objs.size >>= _) _ _ _
   exact zbj8 (wpAny_load hS' (zbk6 (h h' tk acc'.toList hk hz' (by simpa using hacc))))
 ·obtain⟨_,_,_,_,e',_⟩:=y
  cases e'
theorem zab7 {es:Array DictEntry}{us:List Value} (h:ItemsOf (fun i v => ∃h:i<es.size,v=es[i].key) us.toArray es.size):us=es.toList.map (·.key):=by
 obtain⟨h1,h2⟩:=h
 have l:us.length=es.size:=by simpa using h1
 refine zbw4 (by simpa using l) fun i a b=>?_
 obtain⟨_,e⟩:=h2 i us[i] (by simp [a])
 rw [e]
 simp
end
end TS
namespace TS
noncomputable def TupAt (h:Heap) (a:Addr) (p:Int×Int):Prop := ∃o t1 t2 n,h.get? a=some o∧o.cls=.type "tuple"∧o.data=.seq #[.int p.1 t1,.int p.2 t2] n
theorem TupAt.at {h h':Heap}{a:Addr}{p:Int×Int} (x:TupAt h a p) (k:∀o,h.get? a=some o→h'.get? a=some o):TupAt h' a p:=let ⟨o,t1,t2,n,e,r⟩:=x;⟨o,t1,t2,n,k o e,r⟩
noncomputable def adr:Value→Addr
 |.ref a=>a
 |_=>0
section
variable {prog:Program}{w:World}{A:Around}{E:Value→zbk8→Prop}{s:zbk8}
theorem zbh0 {a₀:Array Keyed}{f:Addr→Int×Int} (hk:∀z∈a₀.toList,∃a,z.1=.ref a∧TupAt s.heap a (f a)∧0≤(f a).2∧(f a).2<1048576):Cmp (model prog w) A E s (fun z=>rkP (f (adr z.1))) (fun _=>0) a₀ (tuples' true) where
 lt:=fun st x y Q hkd mx my h=>by
  obtain⟨a,ea,⟨o,t1,t2,n,g,c,d⟩,l1,l2⟩:=hk x mx
  obtain⟨b,eb,⟨o',u1,u2,n',g',c',d'⟩,m1,m2⟩:=hk y my
  have ex:rkP (f (adr x.1))=(f a).1*1048576+(f a).2:=by rw [ea];rfl
  have ey:rkP (f (adr y.1))=(f b).1*1048576+(f b).2:=by rw [eb];rfl
  rw [lt'_eq]
  refine zbl7 (wpS_get ?_)
  rw [hkd,ea,eb]
  refine zbl7 (wpS_lift (wpAny_attempt (PySem.W.kat_lt g d g' d' (zce3 (wpAny_eqBool_int (zcg9 (fun e=>?_) fun e=>?_))))))
  ·have e:(f a).1=(f b).1:=of_decide_eq_true e
   refine zcf4 (zce3 (wpAny_eqBool_int (zcg9 (fun e2=>?_) fun e2=>?_)))
   ·have e2:(f a).2=(f b).2:=of_decide_eq_true e2
    refine zcf4 (PySem.W.kat_nil ⟨rfl,?_⟩)
    rw [show rkP (f (adr x.1))=rkP (f (adr y.1)) by rw [ex,ey,e,e2]]at h
    simpa using zbm3 h
   ·have e2 : ¬ (f a).2=(f b).2:=of_decide_eq_false e2
    refine zch0 (PySem.W.kat_one _ _ (lt_int ?_))
    show s=s∧_
    refine⟨rfl,?_⟩
    rw [show decide (rkP (f (adr x.1))<rkP (f (adr y.1)))=decide ((f a).2<(f b).2) by rw [ex,ey,e];exact decide_eq_decide.mpr (by lia)]at h
    exact zbm3 h
  ·have e : ¬ (f a).1=(f b).1:=of_decide_eq_false e
   refine zch0 (oneLt_int ⟨rfl,?_⟩)
   rw [show decide (rkP (f (adr x.1))<rkP (f (adr y.1)))=decide ((f a).1<(f b).1) by rw [ex,ey];exact decide_eq_decide.mpr (by lia)]at h
   exact zbm3 h
 pi:=fun x _=>⟨zbr5 _,by decide⟩
theorem zba8 (bs:List Addr):(((bs.map Value.ref).toArray.zip (bs.map Value.ref).toArray)).toList=bs.map fun b=>(Value.ref b,Value.ref b):=by
 rw [zs7,zbs5]
 rfl
theorem pr_out {bs:List Addr}{f:Addr→Int×Int} (hb:∀b∈bs,0≤(f b).2∧(f b).2<1048576) (arr:Array Keyed) (hp:arr.Perm ((bs.map Value.ref).toArray.zip (bs.map Value.ref).toArray)) (hr:Ris (fun z=>rkP (f (adr z.1))) (fun _=>0) arr.toList) :
  ∃out:List Addr,out.Perm bs∧out.map f=sortP (bs.map f)∧arr.map (·.2)=(out.map Value.ref).toArray:=by
 have hpl:=zbp1.mp hp
 rw [zba8]at hpl
 have p1:(arr.toList.map fun z=>adr z.2).Perm bs:=by
  have q:=hpl.map fun z=>adr z.2
  rw [zbs5]at q
  have e:bs.map ((fun z:Keyed=>adr z.2) ∘ fun b=>(Value.ref b,Value.ref b))=bs:=by
   rw [show ((fun z:Keyed=>adr z.2) ∘ fun b=>(Value.ref b,Value.ref b))=id from rfl,List.map_id]
  rw [e]at q
  exact q
 have each:∀z∈arr.toList,z.1=z.2∧z.2=Value.ref (adr z.2):=fun z hz=>by
  obtain⟨b,_,rfl⟩:=zbq1.mp (hpl.mem_iff.mp hz)
  exact⟨rfl,rfl⟩
 refine⟨arr.toList.map fun z=>adr z.2,p1,?_,?_⟩
 ·refine uniqP (fun p hp'=>?_) ((p1.map f).trans (sortP_perm _).symm) ?_ (zv3 _)
  ·obtain⟨b,m,rfl⟩:=zbq1.mp hp'
   exact hb b (p1.mem_iff.mp m)
  ·rw [zbs5]
   refine zcd4.mpr ((List.Pairwise.and_mem.mp hr).imp fun {a b} hab=>?_)
   obtain⟨ma,mb,q⟩:=hab
   have e1:=(each a ma).1
   have e2:=(each b mb).1
   have q':rkP (f (adr a.1))*1048576+0≤rkP (f (adr b.1))*1048576+0:=q
   rw [e1,e2]at q'
   show rkP (f (adr a.2))≤rkP (f (adr b.2))
   lia
 ·refine Array.toList_inj.mp ?_
  rw [zca5,zcc1,zbs5]
  exact zcb8 fun z hz=>(each z hz).2
theorem zam2 (bs:List Addr):((bs.map Value.ref).toArray.zip (bs.map Value.ref).toArray).size=bs.length:=by rw [zp9,zbm6]
theorem zar6 {α:Type}{R:α→α→Prop}:∀ {l:List α},l.length≤1→l.Pairwise R
 |[],_=>List.Pairwise.nil
 |[z],_=>zbv0 _ _
theorem zba9 {h:Heap}{f:Addr→Int×Int}:∀ {bs:List Addr},(∀b∈bs,TupAt h b (f b))→∃fs:List Value,PySem.W.KatTups h (bs.map Value.ref) fs∧fs.length=bs.length∧∀v∈fs,∃n t,v=.int n t
 |[],_=>⟨[],.nil,rfl,fun v hv=>by cases hv⟩
 |b::bs,ht=>by
  obtain⟨fs,k,l,r⟩:=zba9 (bs:=bs) fun x hx=>ht x (zbj9 _ hx)
  obtain⟨o,t1,t2,n,e,c,d⟩:=ht b (zbk2 ..)
  refine⟨.int (f b).1 t1::fs,.cons e c d rfl k,by simp [l],fun v hv=>?_⟩
  rcases zbk5.mp hv with z | z
  ·exact⟨_,_,z⟩
  ·exact r v z
theorem ls_pairs {a:Addr}{bs:List Addr}{f:Addr→Int×Int}{n:Nat}{P:PySem.Fin→zbk8→Prop} (ho:s.heap.get? a=some (seqObj "list" (bs.map Value.ref).toArray n)) (ht:∀b∈bs,TupAt s.heap b (f b)) (hb:∀b∈bs,0≤(f b).2∧(f b).2<1048576) (hz:bs.length≤100000)
  (h:∀out:List Addr,out.Perm bs→out.map f=sortP (bs.map f)→P (.done (.ret .none)) { s with heap:=sortedHeap s.heap a (bs.map Value.ref) (out.map Value.ref).toArray }):wpAny (model prog w) A (Builtin.«list.sort» ⟨[.ref a],[]⟩) P E s:=by
 have na:∀b∈bs,b≠a:=fun b m z=>by
  obtain⟨o,_,_,_,e,c,_⟩:=ht b m
  rw [z,ho]at e
  have:(seqObj "list" (bs.map Value.ref).toArray n).cls=.type "tuple":=by rw [Option.some.inj e];exact c
  have q:(Value.type "list")=.type "tuple":=this
  exact absurd q (by decide +kernel)
 have lv:(bs.map Value.ref).length=bs.length:=zbm6 ..
 obtain⟨e1,ho1⟩:∃e1,(s.heap.update a (Obj.mapSeq fun _=>(#[]:Array Value))).get? a=some (seqObj "list" #[] e1):=⟨_,get?_update_seq ho fun _ => #[]⟩
 have ho2:(((s.heap.update a (Obj.mapSeq fun _=>(#[]:Array Value))).push (seqObj "tuple" (bs.map Value.ref).toArray 0)).push (seqObj "list" #[] 0)).get? a=some (seqObj "list" #[] e1):=zbk0 _ (zbk0 _ ho1)
 have ht2:∀b∈bs,TupAt (((s.heap.update a (Obj.mapSeq fun _=>(#[]:Array Value))).push (seqObj "tuple" (bs.map Value.ref).toArray 0)).push (seqObj "list" #[] 0)) b (f b):=fun b m=>(ht b m).at fun o e=>zbk0 _ (zbk0 _ ((zbn5 _ _ (Ne.symm (na b m))).trans e))
 rw [list_sort_plain]
 refine zbj8 (listItems_at ho rfl ?_)
 refine zbj8 (listUpdate_at ho rfl ?_ (by rw [zbl6,sizeLine_eq];lia) (zbq5 _))
 refine zbj8 (seqEpoch_at ho1 rfl ?_)
 refine zbj8 (wpAny_newTuple ?_ (by show (bs.map Value.ref).length≤_;rw [sizeLine_eq];lia))
 refine zbj8 (wpAny_newList ?_ (zbq5 _))
 refine wpAny_holding ?_
 have hv2:(bs.map Value.ref).toArray.size=bs.length:=by simp
 by_cases h2:(bs.map Value.ref).toArray.size<2
 ·rw [if_pos h2,if_pos h2]
  refine zbj8 (zbk6 ?_)
  dsimp only
  rw [StateT.run_pure]
  refine zbj8 (zbk6 ?_)
  dsimp only
  obtain⟨out,q1,q2,q3⟩:=pr_out hb _ (Array.Perm.refl _) (by
   unfold Ris
   rw [zba8]
   exact zar6 (by rw [zbm6];lia))
  refine zbj8 (seqEpoch_at ho2 rfl ?_)
  refine zbj8 (listUpdate_at ho2 rfl ?_ (zbq5 _) (by
   show (((bs.map Value.ref).toArray.zip (bs.map Value.ref).toArray).map (·.2)).size≤_
   rw [zby9,zam2,sizeLine_eq];lia))
  simp only [bne_self_eq_false,zbm5,if_false]
  have:=h out q1 q2
  rw [← q3]at this
  exact zbk6 this
 ·rw [if_neg h2,if_neg h2]
  obtain⟨fs,kt,fl,fi⟩:=zba9 ht2
  refine zbj8 (PySem.W.kat_kind (T:=.type "int") kt (by lia) (fun v hv=>?_) (by decide) ?_)
  ·obtain⟨n,t,rfl⟩:=fi v hv
   exact .now
  rw [show (Value.type "int" != Value.type "tuple")=true by decide]
  have C:Cmp (model prog w) A E { s with heap:=((s.heap.update a (Obj.mapSeq fun _=>(#[]:Array Value))).push (seqObj "tuple" (bs.map Value.ref).toArray 0)).push (seqObj "list" #[] 0) } (fun z=>rkP (f (adr z.1))) (fun _=>0) ((bs.map Value.ref).toArray.zip (bs.map Value.ref).toArray) (tuples' true):=zbh0 fun z hz'=>by
   rw [zba8]at hz'
   obtain⟨b,m,rfl⟩:=zbq1.mp hz'
   exact⟨b,rfl,ht2 b m,hb b m⟩
  dsimp only
  refine zbj8 (wpAny_mono (zax6 C (st:=SortSt.mk' (tuples' true) ((bs.map Value.ref).toArray.zip (bs.map Value.ref).toArray) #[] 7 none) (Q:=fun _ st'=>TB ((bs.map Value.ref).toArray.zip (bs.map Value.ref).toArray) (tuples' true) st'∧Ris (fun z=>rkP (f (adr z.1))) (fun _=>0) (arrOf st').toList) ⟨Array.Perm.refl _,rfl,rfl⟩ rfl rfl (zbz6 (fun _ _=>zbr5 _)) (by rw [zam2];lia) fun st' a b=>⟨a,b⟩) ?_ fun _ _ e=>e)
  rintro ⟨⟨⟩,st'⟩ s' ⟨rfl,tb,rs⟩
  obtain⟨out,q1,q2,q3⟩:=pr_out hb (arrOf st') tb.pm rs
  dsimp only at tb rs ⊢
  refine zbj8 (seqEpoch_at ho2 rfl ?_)
  refine zbj8 (listUpdate_at ho2 rfl ?_ (zbq5 _) (by
   show ((arrOf st').map (·.2)).size≤_
   rw [zby9,tb.pm.size_eq,zam2,sizeLine_eq];lia))
  rw [tb.fld]
  simp only [bne_self_eq_false,zbm5,if_false]
  have:=h out q1 q2
  rw [← q3]at this
  exact zbk6 this
end
end TS
namespace L2
open PySem.Spec TS
noncomputable def twoH (H:Hp) (b:Addr):Int×Int:=match H b with
 |some (.tup [.int x,.int y])=>(x,y)
 |_=>(0,0)
section
variable {X:Cx}
theorem tup_at {pins:List (Addr×Obj)}{s:zbk8}{σ:L2.St}{H:Hp} (I:Inv X pins σ H s) {b:Addr}{x y:Int} (h:H b=some (.tup [.int x,.int y])):TupAt s.heap b (twoH H b):=by
 obtain⟨_,its,rv,o,e,c,d⟩:=(show ObjOk X.prog X.w H s.heap b (.tup [.int x,.int y]) from I.hok b _ h)
 have et:twoH H b=(x,y):=by unfold twoH;rw [h]
 rw [et]
 cases rv with
 |cons r1 rv =>
  cases rv with
  |cons r2 rv =>
   cases rv
   obtain⟨t1,rfl⟩:=r1
   obtain⟨t2,rfl⟩:=r2
   first
    |exact⟨o,t1,t2,_,e,c,d⟩
    |(obtain⟨n,d⟩:=d;exact⟨o,t1,t2,n,e,c,d⟩)
theorem dt_keys {pins:List (Addr×Obj)}{s:zbk8}{σ:L2.St}{H:Hp} (I:Inv X pins σ H s) {p:Addr}{ps:List (Int×Int)} (h:H p=some (.dT (DL.pkv ps))) :
  (p == sysModules)=false∧∃(bs:List Addr) (es:Array DictEntry) (ep:Nat),RawD s.heap p es ep∧es.toList.map (·.key)=bs.map Value.ref∧bs.map (twoH H)=ps∧∀b∈bs,∃x y:Int,H b=some (.tup [.int x,.int y]):=by
 obtain⟨_,nm,xs,pr,o,es,ep,e,ex,d,ek,_⟩:=(show ObjOk X.prog X.w H s.heap p (.dT (DL.pkv ps)) from I.hok p _ h)
 refine⟨nm,xs.map (·.2.1),es,ep,⟨o,e,ex,d⟩,?_,?_,?_⟩
 ·rw [ek,zbs5,zbs5]
  rfl
 ·clear ek e d
  have:∀ {qs:List (Int×Int)}{xs:List (List Key×Addr×Value)},Paired (fun (p:List Key×V) (q:List Key×Addr×Value)=>p.1=q.1∧H q.2.1=some (.tup (p.1.map kV))∧RelV p.2 q.2.2) (DL.pkv qs) xs→(xs.map (·.2.1)).map (twoH H)=qs:=by
   intro qs
   induction qs with
   |nil=>intro xs hp;cases hp;rfl
   |cons q qs ih =>
    intro xs hp
    cases hp with
    |@cons _ b _ _ h1 h2 =>
     have e:twoH H b.2.1=q:=by
      unfold twoH
      rw [h1.2.1]
      rfl
     simp only [zbl8]
     rw [ih h2,e]
  exact this pr
 ·intro b hb
  obtain⟨x,hx,rfl⟩:=zbq1.mp hb
  have:∀ {qs:List (Int×Int)}{xs:List (List Key×Addr×Value)},Paired (fun (p:List Key×V) (q:List Key×Addr×Value)=>p.1=q.1∧H q.2.1=some (.tup (p.1.map kV))∧RelV p.2 q.2.2) (DL.pkv qs) xs→∀x∈xs,∃a b:Int,H x.2.1=some (.tup [.int a,.int b]):=by
   intro qs
   induction qs with
   |nil=>intro xs hp x hx;cases hp;cases hx
   |cons q qs ih =>
    intro xs hp x hx
    cases hp with
    |cons h1 h2 =>
     rcases zbk5.mp hx with rfl | w
     ·exact⟨q.1,q.2,h1.2.1⟩
     ·exact ih h2 x w
  exact this pr x hx
theorem zag8:∀out:List Addr,Vals (out.map V.ref) (out.map Value.ref)
 |[]=>.nil
 |a::out=>.cons rfl (zag8 out)
theorem zak1 (hc:X.calm=true):zq7 X (.builtin "sorted") (fun xs H Q => ∃(p:Addr) (ps:List (Int×Int)),xs=[.ref p]∧H p=some (.dT (DL.pkv ps))∧ps.length≤50000∧(∀q∈ps,0≤q.2∧q.2<1048576) ∧
  ∀l (out:List Addr),H l=none→out.map (twoH H)=sortP ps→(∀b∈out,∃x y:Int,H b=some (.tup [.int x,.int y]))→Q (.ref l) (upd H l (.lst (out.map V.ref)))):=by
 intro pins s σ H xs us Q I r h
 obtain⟨p,ps,rfl,hp,hb,hr,q⟩:=h
 obtain⟨u,rfl,ru⟩:=zaf9 r
 cases ru
 obtain⟨nm,bs,es,ep,x,ek,ef,et⟩:=dt_keys I hp
 have bl:bs.length=ps.length:=by rw [← ef,zbm6]
 have esz:es.size=bs.length:=by
  have:=congrArg List.length ek
  simpa using this
 refine zaz2 (P:=fun us=>us=bs.map Value.ref) (args_sorted1 _) (fun _=>args_list_sort _) (fun R hR=>?_) (fun h' tk us hk hz hu hlen=>?_)
 ·refine zao6 (I.ok.hd hc) nm x (by lia) fun h' tk us hk hz hit=>hR h' tk us hk hz ((zab7 hit).trans ek) ?_
  have:=congrArg List.length ((zab7 hit).trans ek)
  simp only [zbm6]at this
  lia
 ·subst hu
  have tu:∀b∈bs,TupAt (h'.push (seqObj "list" (bs.map Value.ref).toArray 0)) b (twoH H b):=fun b m=>by
   obtain⟨a,c,e⟩:=et b m
   exact (tup_at I e).at fun o z=>zbk0 _ (hk b o z)
  refine ls_pairs (s:={ s with heap:=h'.push (seqObj "list" (bs.map Value.ref).toArray 0),toks:=tk }) (f:=twoH H) (zbl2 _ rfl) tu (fun b m=>?_) (by lia) fun out po pf=>⟨rfl,?_⟩
  ·exact hr _ (by rw [← ef];exact zbq1.mpr ⟨b,m,rfl⟩)
  have fr:s.heap.objs.size≤h'.objs.size:=hz
  have g0:(h'.push (seqObj "list" (bs.map Value.ref).toArray 0)).get? h'.objs.size=some (seqObj "list" (bs.map Value.ref).toArray 0):=zbl2 _ rfl
  obtain⟨e1,g1⟩:∃e1,((h'.push (seqObj "list" (bs.map Value.ref).toArray 0)).update h'.objs.size (Obj.mapSeq fun _=>(#[]:Array Value))).get? h'.objs.size=some (seqObj "list" #[] e1):=⟨_,get?_update_seq g0 fun _ => #[]⟩
  obtain⟨k,g2⟩:∃k,(sortedHeap (h'.push (seqObj "list" (bs.map Value.ref).toArray 0)) h'.objs.size (bs.map Value.ref) (out.map Value.ref).toArray).get? h'.objs.size=some (seqObj "list" (out.map Value.ref).toArray k):=⟨_,get?_update_seq (zbk0 _ (zbk0 _ g1)) fun _=>(out.map Value.ref).toArray⟩
  have ol:out.length≤50000:=by rw [po.length_eq];lia
  refine⟨.ref _,_,I.laid (o:=HO.lst (out.map V.ref)) (fun b o e=>?_) fr ⟨?_,out.map Value.ref,k,zag8 out,by simpa [seqObj] using g2⟩,rfl,q _ out (I.hok.fresh fr) (by rw [pf,ef]) fun b m=>et b (po.mem_iff.mp m)⟩
  ·have e2:=hk b o e
   have nb:h'.objs.size≠b:=zbu0 (zbl0 e2)
   unfold sortedHeap
   exact (zbn5 _ _ nb).trans (zbk0 _ (zbk0 _ ((zbn5 _ _ nb).trans (zbk0 _ e2))))
  ·refine DL.le_line ?_
   rw [zbm6];lia
end
end L2
namespace DL
open PySem.Spec L2 TS
section
variable {X:Cx}{F:List Addr}
noncomputable def prD2 (q:Int×Int):D:=.tup [.int q.1,.int q.2]
noncomputable def zaj0:List Ev→Option Ev:=fun rs=>match rs with
 |[r]=>(match r.d with
  |.pdc ps=>if ps.length≤50000∧(ps.all fun q=>decide (0≤q.2∧q.2<1048576))=true then some (.nw ((sortP ps).map prD2)) else none
  |_=>none)
 |_=>none
theorem zab3 {K:zbj6}{H H':Hp}:∀ {out:List Addr},(∀b∈out,∃x y:Int,H b=some (.tup [.int x,.int y])∧H' b=some (.tup [.int x,.int y]))→Reps K H' ((out.map (twoH H)).map prD2) (out.map V.ref)
 |[],_=>.nil
 |b::out,h=>by
  obtain⟨x,y,e,e'⟩:=h b (zbk2 ..)
  have et:twoH H b=(x,y):=by unfold twoH;rw [e]
  simp only [zbl8,et]
  exact .cons (.tup (SqT.of e') (.cons (.int x) (.cons (.int y) .nil))) (zab3 fun c hc=>h c (zbj9 _ hc))
theorem cd_sortD (hc:X.calm=true):CallD X F (.builtin "sorted") zaj0:=CallD.of (zak1 hc) fun H0 H A xs rs e Q m g q ek hq=>by
 unfold zaj0 at ek
 split at ek
 case h_2=>cases ek
 cases q with
 |cons q1 q2 =>
  cases q2
  split at ek
  case h_2=>cases ek
  rename_i ps z
  split at ek
  case isFalse=>cases ek
  rename_i c
  cases ek
  have p:=q1.full
  rw [z]at p
  cases p with
  |pdc h1 =>
   refine⟨_,ps,rfl,h1,c.1,fun q hq=>by simpa using zbq0.mp c.2 q hq,fun l out hl ho ht=>?_⟩
   refine hq _ _ (zd2 hl) ⟨l,_,rfl,Same.free g hl,zc3,?_⟩
   rw [← ho]
   refine zab3 fun b hb=>?_
   obtain⟨x,y,eb⟩:=ht b hb
   have nb:b≠l:=fun w=>by rw [w,hl]at eb;cases eb
   have m':Lists H (A++F):=m.mono g
   refine⟨x,y,eb,zc4 (by rw [zc9 nb];exact eb) fun w=>?_⟩
   rcases zbk5.mp w with w | w
   ·exact nb w
   ·obtain⟨o,ho'⟩:=m' b w
    rw [eb]at ho'
    have:=o.2
    rw [← Option.some.inj ho']at this
    cases this
end
end DL
namespace DL
open PySem.Spec L2
noncomputable def Pn (I:List Nat) (σ σ':L2.St):Prop := ∀i∈I,σ'[i]?=σ[i]?
noncomputable def dP (K:zbj6) (F:List Addr) (I:List Nat) (g:DS):TS:=fun E σ H => ∃A t t',RS K F H A t σ∧g t=some (.nx t')∧∀σ' H' A',Gr A H A' H'→RS K F H' A' t' σ'→Pn I σ σ'→E.nx σ' H'
section
variable {X:Cx}{F:List Addr}{I:List Nat}{a b c:Expr}{es:List Expr}{fa fb fc:DE}{g g1 g2:DS}{ft fu:DT}{pos:Pos}{st:Stmt}{rest:List Stmt}
theorem zbb0 (h1:PS X st (dP X.K F I g1)) (h2:PSs X rest (dP X.K F I g2)):PSs X (st::rest) (dP X.K F I (dSeq g1 g2)):=by
 refine PSs.imp (zp7 h1 h2) ?_
 rintro E σ H ⟨A,t,t2,R,e,h⟩
 unfold dSeq at e
 cases e1:g1 t with
 |none=>rw [e1]at e;cases e
 |some o1 =>
  rw [e1]at e
  cases o1 with
  |nx t'=>exact⟨A,t,t',R,e1,fun σ' H' A' g' R' n'=>⟨A',t',t2,R',e,fun σ'' H'' A'' g'' R'' n''=>h _ _ _ (g'.trans g'') R'' fun i hi=>(n'' i hi).trans (n' i hi)⟩⟩
  |rt r=>cases e
  |bk t2=>cases e
  |ct t2=>cases e
theorem zl1 (h1:PS X st (dP X.K F I g1)):PSs X [st] (dP X.K F I g1):=zad4 h1
theorem zah2 {s1 s2:List Stmt} (hc:PT X c (dT X.K F ft)) (ha:PSs X s1 (dP X.K F I g1)) (hb:PSs X s2 (dP X.K F I g2)):PS X (.If c s1 s2 pos) (dP X.K F I (dIfS ft g1 g2)):=by
 refine PS.imp (ps_if hc ha hb) ?_
 rintro E σ H ⟨A,t,t2,R,e,h⟩
 unfold dIfS at e
 cases e1:ft t with
 |none=>rw [e1]at e;cases e
 |some r1 =>
  rw [e1]at e
  refine⟨A,t,r1,R,e1,fun H1 gs=>?_⟩
  have gr:Gr A H A H1:=Gr.of_same R.mu.left gs
  cases r1 with
  |true=>exact⟨A,t,t2,R.grow gs,e,fun σ' H' A' g' R' n'=>h _ _ _ (gr.trans g') R' n'⟩
  |false=>exact⟨A,t,t2,R.grow gs,e,fun σ' H' A' g' R' n'=>h _ _ _ (gr.trans g') R' n'⟩
theorem zx3 (i:Nat) {x:Str}{p0 tpos:Pos} (hb:PE X b (dE X.K F fb)) (he:PE X a (dE X.K F fa)) (hN:X.N[i]?=some x:=by rfl) (hv:Vis X.env.scope x:=by first | exact Or.inl rfl | exact Or.inr (Or.inl rfl) |exact Or.inr (Or.inr rfl)) (hd:(x ==("__debug__":Str))=false:=by decide)
  (hcd:(x ==("__classdict__":Str))=false:=by decide)
  (ha:∀v,assign (.Subscript (.Name x p0) b tpos) X.env v=(do
   let ov ← holding [v] (eval (.Name x p0) X.env)
   let iv ← holding [v,ov] (eval b X.env)
   standAt tpos
   holding [v,ov,iv] (setItem ov iv v)
   release [v,ov,iv] []):=by intro _;rfl)
  (hs:swapsWithSole [.Subscript (.Name x p0) b tpos] a pos.line X.env=pure false:=by rfl) (hw:swappedStores [.Subscript (.Name x p0) b tpos] a X.env=pure none:=by rfl)
  (h1:(assignEach [.Subscript (.Name x p0) b tpos] X.env).map (·.2)=[assign (.Subscript (.Name x p0) b tpos) X.env]:=by rfl) :
  PS X (.Assign [.Subscript (.Name x p0) b tpos] a pos) (dP X.K F I (zk0 i fb fa)):=by
 refine PS.imp (zba7 he (pg_sub (zr0 (i:=i) hN hv hd hcd) hb zaq5 ha) hs hw h1) ?_
 rintro E σ H ⟨A,t,t2,R,e,h⟩
 unfold zk0 at e
 cases e1:fa t with
 |none=>rw [e1]at e;cases e
 |some r =>
  cases e2:fb t with
  |none=>rw [e1,e2]at e;cases e
  |some kk =>
   rw [e1,e2]at e
   have e:zy0 t i r kk=some (.nx t2):=e
   unfold zy0 at e
   split at e
   case h_2=>cases e
   rename_i xs n z1 z2
   split at e
   case isFalse=>cases e
   rename_i ok
   cases e3:ixN xs.length n with
   |none=>rw [e3]at e;cases e
   |some j =>
    rw [e3]at e
    cases e
    obtain⟨p,vs,a1,a2,a3,a4⟩:=R.rel.getOwn z1
    refine⟨A,t,r,R,e1,fun y H1 gs1 q1=>⟨_,a1,A,t,kk,R.grow gs1,e2,fun w H2 gs2 q2=>?_⟩⟩
    have p2:=q2.full
    rw [z2]at p2
    cases zd4 p2
    have gs:=gs1.trans gs2
    refine⟨p,vs,n,j,rfl,rfl,gs _ _ a3,by rw [a4.length];exact e3,?_⟩
    obtain⟨R',g'⟩:=(R.grow gs).write (es:=xs.set j r.d) (ws:=vs.set j y) z1 a1 (Reps.set ((q1.mono gs2).clean R.mu gs ok) j (Reps.mono (zc7 gs) a4))
    exact h _ _ _ ((Gr.of_same R.mu.left gs).trans g') R' fun _ _=>rfl
end
end DL
namespace DL
open PySem.Spec L2
noncomputable def spT (K:zbj6) (G:D→List D→List D→D→Option (List Int×List Int)):Sp:=fun vs H Q _ => ∃(v0 v3:V) (p q:Addr) (ws us:List V) (d0 d3:D) (xs ys:List D) (r:List Int×List Int),vs=[v0,.ref p,.ref q,v3]∧p≠q∧H p=some (.lst ws)∧H q=some (.lst us) ∧
 Rep K (hide [p,q] H) d0 v0∧Reps K (hide [p,q] H) xs ws∧Reps K (hide [p,q] H) ys us∧Rep K (hide [p,q] H) d3 v3∧G d0 xs ys d3=some r ∧
 ∀H',(∀b o,b≠p→b≠q→H b=some o→H' b=some o)→H' p=some (.lst (r.1.map V.int))→H' q=some (.lst (r.2.map V.int))→Q .non H'
structure CalT (P:Program) (w:World) (K:zbj6) (mg:Str→Option Value) (base:BHeap) (x:Str) (k:Nat) (G:D→List D→List D→D→Option (List Int×List Int)):Prop where
 ex:∃(a:Addr) (fd:FuncData) (ps:List Str),mg x=some (.ref a)∧zbq7 K (.ref a)=true∧L2.Binds K fd ps []∧FnOk P w K mg base CX0 k a fd ps (spT K G)
section
variable {X:Cx}{F:List Addr}{a b c:Expr}{es:List Expr}{fa fb fc:DE}{g g1 g2:DS}{pos:Pos}{gt gt2:TG}{kt kt2:D→Th→Option Th}
noncomputable def fsZ (f f':DE):DI:=fun t=>(f t).bind fun r=>(f' t).bind fun r'=>match r.d,r'.d with
 |.lst ds,.lst es=>some (r.ok&&r'.ok,zipD ds es)
 |_,_=>none
theorem src_zip {K:zbj6}{p p':Addr}{vs ws:List V}{ds es:List D} (hl:vs.length=ds.length) (hl':ws.length=es.length):Src K (zipD ds es) (Itz K p p') (fun P H=>(SqL K (hide P H) p vs∧Reps K (hide P H) ds vs)∧SqL K (hide P H) p' ws∧Reps K (hide P H) es ws) where
 keep:=fun P H P' H' q s=>⟨⟨SqL.mono s q.1.1,Reps.mono s q.1.2⟩,SqL.mono s q.2.1,Reps.mono s q.2.2⟩
 stop:=fun P H q=>⟨vs,ws,SqL.mono (zb0 _ _) q.1.1,SqL.mono (zb0 _ _) q.2.1,by rw [zw4,hl,hl']⟩
 go:=fun P H i q hi=>by
  rw [zw4]at hi
  have hi1:i<vs.length:=by lia
  have hi2:i<ws.length:=by lia
  exact⟨vs,ws,vs[i],ws[i],SqL.mono (zb0 _ _) q.1.1,SqL.mono (zb0 _ _) q.2.1,zbk4 hi1,zbk4 hi2⟩
 yld:=fun P H i x H' q mu y hi=>by
  obtain⟨l,v,u,hl0,rfl,rfl,hv,hu⟩:=y
  obtain⟨d,hd,rd⟩:=q.1.2.getV (hv vs (SqL.mono (zb0 _ _) q.1.1))
  obtain⟨d',hd',rd'⟩:=q.2.2.getV (hu ws (SqL.mono (zb0 _ _) q.2.1))
  have sm:=zd2 (o:=HO.tup [v,u]) hl0
  refine⟨sm,_,zap4 ds es i d d' hd hd',?_⟩
  exact .tup (SqT.of (zc4 zc3 (zd0 mu hl0))) (.cons (Rep.mono (zc7 sm) rd) (.cons (Rep.mono (zc7 sm) rd') .nil))
theorem zas3 {K:zbj6}{A F:List Addr}{H:Hp}{b b':Bool}{d:D}{v:V} (h:Rep K (hide (hidF b A F) H) d v):Rep K (hide (hidF (b&&b') A F) H) d v:=by
 cases b with
 |false=>exact h
 |true =>
  cases b' with
  |true=>exact h
  |false=>exact Rep.mono (zb2 _ fun a z=>zbj5 _ z) h
theorem pid_zip {elts:List Expr}{kk:Nat}{tp p1 p2:Pos} (hge:Gl X "zip") (hm:X.mg "zip"=none) (ha:PE X a (dE X.K F fa)) (hb:PE X b (dE X.K F fb)) (hst:zbm0 [a,b] X.env=(false,eval a X.env)::zbm0 [b] X.env:=by rfl) (hst1:zbm0 [b] X.env=[(false,eval b X.env)]:=by rfl) (hst2:(zbt6 p2 (zbm0 [b] X.env)).any (·.1)=false:=by rfl) :
  PI X (.Tuple elts kk tp) (.Call (.Name "zip" p1) [a,b] [] p2) (dI X.K F (fsZ fa fb)):=by
 refine PI.imp (pi_zip hge hm (zh2 ha (zh2 hb zr1 hst1) hst) hst hst2) ?_
 rintro σ H R ⟨A,t,bb,ds,RR,e,h⟩
 unfold fsZ at e
 cases e1:fa t with
 |none=>rw [e1]at e;cases e
 |some r =>
 cases e2:fb t with
 |none=>rw [e1,e2]at e;cases e
 |some r' =>
  rw [e1,e2]at e
  refine⟨A,t,r,RR,e1,fun v H1 gs1 q1=>⟨A,t,r',RR.grow gs1,e2,fun v2 H2 gs2 q2=>?_⟩⟩
  have e:(match r.d,r'.d with
   |.lst ds,.lst es=>some (r.ok&&r'.ok,zipD ds es)
   |_,_=>none)=some (bb,ds):=e
  split at e
  case h_2=>cases e
  rename_i xs ys z1 z2
  cases e
  have gs:=gs1.trans gs2
  have cl:=zas3 (b':=r'.ok) (RepEv.hidF RR.mu gs (q1.mono gs2))
  rw [z1]at cl
  have cl2:=zas3 (b':=r.ok) (RepEv.hidF RR.mu gs (q2.back gs1))
  rw [z2,Bool.and_comm]at cl2
  cases cl with
  |@lst _ p vs h1 h2 =>
  cases cl2 with
  |@lst _ p' ws h1' h2'=>exact⟨p,p',rfl,⟨vs,SqL.mono (zb0 _ _) h1⟩,⟨ws,SqL.mono (zb0 _ _) h1'⟩,h _ H2 _ gs (src_zip h2.length h2'.length) ⟨⟨h1,h2⟩,h1',h2'⟩⟩
end
end DL
namespace TS
noncomputable def Up (xs:Array Nat):Prop:=xs.toList.Pairwise (· < ·)
theorem Up.lt {xs:Array Nat} (u:Up xs) {i k:Nat} (h:i<k) (hk:k<xs.size):xs[i]'(by lia)<xs[k]:=by
 have:=zbs0.mp u i k (by simpa using (by lia:i<xs.size)) (by simpa using hk) h
 simpa using this
theorem zbj0 {xs:Array Nat}{j:Nat} (u:Up xs):∀(f lo hi:Nat),hi≤xs.size→hi - lo≤f→lo≤hi→(∀k,k<lo→xs.getD k j<j)→(∀k,hi≤k→k<xs.size→j≤xs.getD k j) →
  SetTable.below.go xs j f lo hi≤xs.size∧(∀k,k<SetTable.below.go xs j f lo hi→xs.getD k j<j)∧∀k,SetTable.below.go xs j f lo hi≤k→k<xs.size→j≤xs.getD k j
 |0,lo,hi,h1,h2,h3,a,b=>by
  have:lo=hi:=by lia
  subst this
  exact⟨h1,a,b⟩
 |f+1,lo,hi,h1,h2,h3,a,b=>by
  unfold SetTable.below.go
  by_cases c:lo<hi
  ·rw [if_pos c]
   dsimp only
   have m1:(lo+hi) / 2<hi:=by lia
   have m2:lo≤(lo+hi) / 2:=by lia
   by_cases d:xs.getD ((lo+hi) / 2) j<j
   ·rw [if_pos d]
    refine zbj0 u f _ hi h1 (by lia) (by lia) (fun k hk=>?_) b
    by_cases e:k=(lo+hi) / 2
    ·rw [e];exact d
    ·have k1:k<(lo+hi) / 2:=by lia
     have k2:(lo+hi) / 2<xs.size:=by lia
     have:=u.lt k1 k2
     simp only [zbt5,zbm7 k2,zbm7 (by lia:k<xs.size),zbw5]at d ⊢
     lia
   ·rw [if_neg d]
    refine zbj0 u f lo _ (by lia) (by lia) m2 a fun k hk hs=>?_
    by_cases e:k=(lo+hi) / 2
    ·rw [e];lia
    ·have k2:(lo+hi) / 2<xs.size:=by lia
     have:=u.lt (by lia:(lo+hi) / 2<k) hs
     simp only [zbt5,zbm7 k2,zbm7 hs,zbw5]at d ⊢
     lia
  ·rw [if_neg c]
   have:lo=hi:=by lia
   subst this
   exact⟨h1,a,b⟩
theorem zbi9 {xs:Array Nat} (u:Up xs) (j:Nat):SetTable.below xs j≤xs.size∧(∀k,k<SetTable.below xs j→xs.getD k j<j)∧∀k,SetTable.below xs j≤k→k<xs.size→j≤xs.getD k j :=
 zbj0 u xs.size 0 xs.size (zbl3 _) (by lia) (zbq5 _) (fun k hk=>by lia) fun k h1 h2=>by lia
theorem zy7 {xs:Array Nat}{k j:Nat} (h:k<xs.size):xs.getD k j=xs[k]:=by simp [zbt5,h]
theorem bel_next {xs:Array Nat} (u:Up xs) {i:Nat} (h:i<xs.size):SetTable.below xs (xs[i] + 1)=i+1:=by
 obtain⟨a,b,c⟩:=zbi9 u (xs[i] + 1)
 generalize SetTable.below xs (xs[i] + 1)=m at *
 have h1 : ¬ m≤i:=fun z=>by have:=c i z h;rw [zy7 h]at this;lia
 have h2 : ¬ i+1<m:=fun z=>by
  have:=b (i+1) z
  have hs:i+1<xs.size:=by lia
  rw [zy7 hs]at this
  have:=u.lt (by lia:i<i+1) hs
  lia
 lia
theorem bel_zero {xs:Array Nat} (u:Up xs):SetTable.below xs 0=0:=by
 obtain⟨a,b,c⟩:=zbi9 u 0
 cases e:SetTable.below xs 0 with
 |zero=>rfl
 |succ n=>have:=b 0 (by lia);lia
theorem ins_up {xs:Array Nat} (u:Up xs) {j:Nat} (h : ¬ xs[SetTable.below xs j]?=some j):Up (SetTable.insertAt xs (SetTable.below xs j) j):=by
 obtain⟨a,b,c⟩:=zbi9 u j
 unfold Up
 rw [SetTable.toList_insertAt]
 generalize SetTable.below xs j=p at *
 have h1:∀x∈xs.toList.take p,x<j:=fun x hx=>by
  obtain⟨i,hi,rfl⟩:=List.mem_take_iff_getElem.mp hx
  have hi2:i<xs.size:=by simp at hi;lia
  have:=b i (by simp at hi;lia)
  rw [zy7 hi2]at this
  simpa using this
 have h2:∀x∈xs.toList.drop p,j<x:=fun x hx=>by
  obtain⟨i,hi,rfl⟩:=List.mem_drop_iff_getElem.mp hx
  have hi2:p+i<xs.size:=by simpa [Nat.add_comm] using hi
  have h3:=c (p+i) (by lia) hi2
  rw [zy7 hi2]at h3
  have h4:xs[p+i]≠j:=fun z=>by
   by_cases e:i=0
   ·subst e
    exact h (by rw [zbm7 (by lia)];simpa using z)
   ·have hp:p<xs.size:=by lia
    have h5:=c p (zbl3 _) hp
    rw [zy7 hp]at h5
    have:=u.lt (by lia:p<p+i) hi2
    lia
  have:xs.toList[p+i]'(by simpa using hi2)=xs[p+i]:=by simp
  first | (rw [this];lia) | (simp only [Array.getElem_toList];lia)
 refine zbo8.mpr ⟨u.sublist (zcd1 _ _),zbn2.mpr ⟨h2,u.sublist (List.drop_sublist _ _)⟩,fun x hx y hy=>?_⟩
 have:=h1 x hx
 rcases zbk5.mp hy with z | z
 ·lia
 ·have:=h2 y z;lia
noncomputable def zn5 (b:Bool) (t:SetTable):Prop:=t.led=b∧(t.plain=true→Up t.place∧t.dummies = #[])
theorem zbe6 (j:Nat):SetTable.has #[] j=false:=by simp [SetTable.has]
theorem zau7 {t:SetTable}{j:Nat} (h:t.dummies = #[]):t.slot j≠.dummy:=by
 unfold SetTable.slot
 rw [h,zbe6]
 dsimp only
 split
 ·exact fun z=>by cases z
 ·exact fun z=>by cases z
theorem zau6 {t:SetTable}{j:Nat} (h:t.slot j=.empty) : ¬ t.place[SetTable.below t.place j]?=some j:=fun z=>by
 unfold SetTable.slot at h
 dsimp only at h
 rw [if_pos (by rw [z];simp)]at h
 cases h
theorem zar5 {t:SetTable}{hashAt:Nat→Int}{h:Int} (hd:t.dummies = #[]):∀(f:Nat) (p:SetTable.Probe) (j:Nat) (d:Option Nat),p.dummy=none→SetTable.probe.go t hashAt h f p=some (.empty j d)→t.slot j=.empty∧d=none
 |0,p,j,d,_,e=>by cases e
 |f+1,p,j,d,hp,e=>by
  unfold SetTable.probe.go at e
  cases c:t.slot p.j with
  |empty =>
   rw [c]at e
   dsimp only at e
   cases e
   exact⟨c,hp⟩
  |dummy=>exact absurd c (zau7 hd)
  |live i =>
   rw [c]at e
   dsimp only at e
   have pd:(t.advance p).dummy=none:=by
    unfold SetTable.advance
    split
    ·exact hp
    ·exact hp
   split at e
   ·cases e
   ·exact zar5 hd f _ j d pd e
theorem free_ok {t:SetTable}{h:Int}{j:Nat}{b:Bool} (hd:t.dummies = #[]) (e:t.freeSlot h=some (j,b)):t.slot j=.empty:=by
 unfold SetTable.freeSlot at e
 split at e
 ·rename_i k d q
  have:=zar5 hd _ _ k d rfl q
  cases e
  rw [this.2]
  exact this.1
 ·cases e
theorem zo9 {b:Bool}{t:SetTable}{n:Nat} (h:t.led=b):zn5 b (t.standIn n):=⟨h,fun z=>by cases z⟩
theorem zah7 {b:Bool}{t:SetTable}{n:Nat} (h:zn5 b t):zn5 b (t.orStandIn n):=by
 unfold SetTable.orStandIn
 split
 ·exact h
 ·exact zo9 h.1
theorem put_good {b:Bool}{t:SetTable}{j:Nat} (h:zn5 b t) (e:t.plain=true→t.slot j=.empty):zn5 b (t.put j).1:=by
 refine⟨h.1,fun z=>?_⟩
 have hp:t.plain=true:=z
 obtain⟨u,d⟩:=h.2 hp
 refine⟨ins_up u (zau6 (e hp)),?_⟩
 show (if SetTable.has t.dummies j=true then _ else t.dummies) = #[]
 rw [d,zbe6]
 rfl
theorem lay_good {b:Bool}{t:SetTable} (h:zn5 b t) (es:Array (Int×Value)) (k:Int) (x:Value):zn5 b (layNew t es k x).2.1:=by
 unfold layNew
 cases e:t.freeSlot k with
 |none=>exact zo9 h.1
 |some q =>
  obtain⟨j,wd⟩:=q
  exact zah7 (put_good h fun hp=>free_ok (h.2 hp).2 e)
theorem zav2 (f:Nat→Option Nat):∀n,(((zbo3 n).filterMap fun j=>(f j).map (j, ·)).map (·.1)).Pairwise (· < ·):=fun n=>by
 have sub:(((zbo3 n).filterMap fun j=>(f j).map (j, ·)).map (·.1)).Sublist (zbo3 n):=by
  induction zbo3 n with
  |nil=>exact List.Sublist.slnil
  |cons a l ih =>
   cases e:f a with
   |none=>rw [List.filterMap_cons_none (by simp [e])];exact ih.cons a
   |some v=>rw [zbz0 (b:=(a,v)) (by simp [e])];exact ih.cons₂ a
 exact (List.pairwise_lt_range (n:=n)).sublist sub
theorem zbd5 {mask finger moves:Nat}{led plain:Bool}{hs:Array Int}{t:SetTable}{o:Array Nat} (e:SetTable.laid mask finger moves led plain hs=some (t,o)):zn5 led t∧t.plain=plain:=by
 unfold SetTable.laid at e
 cases c:SetTable.layClean mask hs with
 |none=>rw [c]at e;cases e
 |some owner =>
  rw [c]at e
  have e:=Option.some.inj e
  have e1:=congrArg Prod.fst e
  dsimp only at e1
  subst e1
  refine⟨⟨rfl,fun _=>⟨?_,rfl⟩⟩,rfl⟩
  unfold Up
  simpa using zav2 (fun j=>owner.getD j none) (mask+1)
theorem zav1 {b:Bool}{t:SetTable} (h:zn5 b t) (es:Array (Int×Value)) (n:Nat):zn5 b (relayAll t es n).2.1:=by
 unfold relayAll
 cases e:t.relaid (es.map (·.1)) n with
 |none=>exact zo9 h.1
 |some q =>
  obtain⟨t',o⟩:=q
  have g:=zbd5 (t:=t') e
  dsimp only
  split
  ·have:=g.1
   rw [h.1]at this
   exact this
  ·exact zo9 h.1
theorem zav5 {b:Bool}{t:SetTable} (h:zn5 b t):zn5 b { t with plain:=false }:=⟨h.1,fun z=>by cases z⟩
noncomputable def txt (w:World):Bool:=w.params.followText "set-order"
section
variable {prog:Program}{w:World}{A:Around}{E:Value→zbk8→Prop}{s:zbk8}
noncomputable def SetG (prog:Program) (w:World) (h:Heap) (a:Addr) (S:Int→Bool) (n:Nat):Prop :=
 ∃o es ep t,h.get? a=some o∧o.ExactSet∧o.data=.set es ep t∧ElemsOf (intKind prog w) es.toList∧(∀k,S k=true↔∃e∈es.toList,(intKind prog w).is k e.2=true)∧es.size<scanBound∧t.fits es.size=true∧es.size=n∧zn5 (!txt w) t
theorem SetG.at {h h':Heap}{a:Addr}{S:Int→Bool}{n:Nat} (x:SetG prog w h a S n) (k:∀o,h.get? a=some o→h'.get? a=some o):SetG prog w h' a S n :=
 let ⟨o,es,ep,t,g,r⟩:=x;⟨o,es,ep,t,k o g,r⟩
theorem SetG.store {h:Heap}{a:Addr}{o:Obj}{es es':Array (Int×Value)}{ep:Nat}{t t':SetTable}{S':Int→Bool} (g:h.get? a=some o) (x:o.ExactSet) (d:o.data=.set es ep t) (he:ElemsOf (intKind prog w) es'.toList) (hm:∀k,S' k=true↔∃e∈es'.toList,(intKind prog w).is k e.2=true) (hb:es'.size<scanBound) (hf:t'.fits es'.size=true) (hg:zn5 (!txt w) t') :
  (h.update a (Obj.putSet es' t')).get? a=some { o with data:=.set es' (ep+1) t' }∧SetG prog w (h.update a (Obj.putSet es' t')) a S' es'.size:=by
 have q:=(SetOf_store (knd:=intKind prog w) g x d he hm hb hf).1
 exact⟨q,_,es',ep+1,t',q,x,rfl,he,hm,hb,hf,rfl,hg⟩
theorem zag2 {gw:Bool→Sem Unit} (hgw:∀(b:Bool) (s1:zbk8) (Q1:Unit→zbk8→Prop),Q1 () s1→wpAny (model prog w) A (gw b) Q1 E s1)
  {a:Addr}{o:Obj}{es es1:Array (Int×Value)}{ep:Nat}{t t2:SetTable}{S':Int→Bool}{wd:Bool}{R:Option Bool→zbk8→Prop} (g:s.heap.get? a=some o) (x:o.ExactSet) (d:o.data=.set es ep t)
  (he:ElemsOf (intKind prog w) es1.toList) (hm:∀k,S' k=true↔∃e∈es1.toList,(intKind prog w).is k e.2=true) (hb:es1.size<scanBound) (hf:t2.fits es1.size=true) (hg:zn5 (!txt w) t2)
  (h:∀h',Heap.SameBut a s.heap h'→SetG prog w h' a S' es1.size→R (some true) { s with heap:=h' }) :
  wpAny (model prog w) A (do
    storeSet a es1 t2
    if (!wd&&t2.tooFull)=true then do
      gw (relayAll t2 es1 (SetTable.grown es1.size)).2.2
      storeSet a (relayAll t2 es1 (SetTable.grown es1.size)).1 (relayAll t2 es1 (SetTable.grown es1.size)).2.1
      pure (some true)
     else pure (some true)) R E s:=by
 obtain⟨g1,G1⟩:=SetG.store (prog:=prog) (w:=w) g x d he hm hb hf hg
 have sb:=Heap.SameBut.update s.heap a (Obj.putSet es1 t2)
 refine zbj8 (wpAny_storeSet_of g d ?_ (fits_of_scanBound hb))
 by_cases c:(!wd&&t2.tooFull)=true
 ·rw [if_pos c]
  have pm:=relayAll_perm t2 es1 (SetTable.grown es1.size)
  have ft:=relayAll_fits t2 es1 (SetTable.grown es1.size)
  have gg:=zav1 hg es1 (SetTable.grown es1.size)
  generalize relayAll t2 es1 (SetTable.grown es1.size)=L at pm ft gg ⊢
  have sz:L.1.size=es1.size:=by have:=pm.length_eq;simpa using this
  refine zbj8 (hgw _ _ _ (zbj8 (wpAny_storeSet_of g1 rfl ?_ (fits_of_scanBound (by rw [sz];exact hb)))))
  have G2:=(SetG.store (prog:=prog) (w:=w) (S':=S') g1 x rfl (he.perm pm) (fun k=>(hm k).trans ⟨fun ⟨e,m,q⟩=>⟨e,pm.mem_iff.mpr m,q⟩,fun ⟨e,m,q⟩=>⟨e,pm.mem_iff.mp m,q⟩⟩) (by rw [sz];exact hb) ft gg).2
  rw [sz]at G2
  exact zbk6 (h _ (sb.trans (Heap.SameBut.update _ a _)) G2)
 ·rw [if_neg c]
  exact zbk6 (h _ sb G1)
theorem add_good {a:Addr}{S:Int→Bool}{n:Nat}{k:Int}{x:Value}{Q:Bool→zbk8→Prop} (hk:(intKind prog w).is k x=true) (hx:x.scannable=true) (G:SetG prog w s.heap a S n) (hr:n+1<scanBound)
  (h:∀h',Heap.SameBut a s.heap h'→SetG prog w h' a (fun k'=>S k'||decide (k'=k)) (if S k then n else n+1)→Q (!S k) { s with heap:=h' }) :
  wpAny (model prog w) A (setAddHashed a x ((intKind prog w).hash k)) Q E s:=by
 obtain⟨o,es,ep,t,g,ex,d,he,hm,hb,hf,hn,gt⟩:=G
 unfold setAddHashed setAddHashedIn
 refine wpAny_holding (zbj8 (wpAny_setState_of g d hf ?_))
 dsimp only
 rw [byScan_of hx hb he]
 simp only [↓reduceIte]
 unfold setAddByScan
 refine zbj8 (zbj8 (wpAny_rule (zbj8 (wpAny_setScan_of hk g d hf he ?_))))
 cases c:List.findIdx? (fun e=>(intKind prog w).is k e.2) es.toList with
 |some j =>
  obtain⟨jl,jp,_⟩:=List.findIdx?_eq_some_iff_getElem.mp c
  have sk:S k=true:=(hm k).mpr ⟨_,zbn8 jl,jp⟩
  have q:=h s.heap (Heap.SameBut.refl a s.heap) ⟨o,es,ep,t,g,ex,d,he,fun k'=>by
   rw [zbx5,decide_eq_true_eq, ← hm k']
   exact⟨fun z=>z.elim id fun w=>by rw [w];exact sk,Or.inl⟩,hb,hf,by rw [sk];exact hn,gt⟩
  rw [sk]at q
  exact zbk6 (zbk6 (by cases s;exact q))
 |none =>
  have sk:S k=false:=by
   cases z:S k with
   |false=>rfl
   |true =>
    obtain⟨e,m,p⟩:=(hm k).mp z
    have:=List.findIdx?_eq_none_iff.mp c e m
    rw [p]at this
    cases this
  have pm:=layNew_perm t es ((intKind prog w).hash k) x
  have ft:=layNew_fits t es ((intKind prog w).hash k) x
  have gg:=lay_good gt es ((intKind prog w).hash k) x
  dsimp only
  generalize layNew t es ((intKind prog w).hash k) x=L at pm ft gg ⊢
  obtain⟨es1,t1,wd,gave⟩:=L
  dsimp only at pm ft gg ⊢
  rw [zbz5]at pm
  have sz:es1.size=n+1:=by have:=pm.length_eq;simp at this;lia
  have he1:=(he.push hk hx).perm pm
  have hm1:=mem_push_iff hk hm pm
  have hb1:es1.size<scanBound:=by lia
  have gw:∀(b:Bool) (s1:zbk8) (Q1:Unit→zbk8→Prop),Q1 () s1→wpAny (model prog w) A (match b with | true=>rule "set.scan.the-table-gave-way" |false=>pure ()) Q1 E s1:=fun b s1 Q1 z=>by
   cases b
   ·exact zbk6 z
   ·exact wpAny_rule z
  have fin:∀h',Heap.SameBut a s.heap h'→SetG prog w h' a (fun k'=>S k'||decide (k'=k)) es1.size→Q true { s with heap:=h' }:=fun h' sb G'=>by
   have:=h h' sb
   rw [sk]at this
   exact this (by rw [sz]at G';exact G')
  refine zbj8 (gw _ _ _ ?_)
  cases pl:t1.plain with
  |true =>
   simp only [if_true]
   refine zbj8 ?_
   rw [hashByValue_scannable 8 hx]
   refine zbk6 (zag2 ?_ g ex d he1 hm1 hb1 ?_ ?_ ?_)
   ·intro b s1 Q1 z;cases b<;>first | exact zbk6 z | exact wpAny_rule z
   ·split
    ·exact ft
    ·exact SetTable.fits_plain_off ft
   ·split
    ·exact gg
    ·exact zav5 gg
   ·intro h' sb G';exact zbk6 (fin h' sb G')
  |false =>
   simp only [zbm5,if_false]
   refine zbj8 (zbk6 ?_)
   simp only [↓reduceIte]
   refine zag2 ?_ g ex d he1 hm1 hb1 ft gg ?_
   ·intro b s1 Q1 z;cases b<;>first | exact zbk6 z | exact wpAny_rule z
   ·intro h' sb G';exact zbk6 (fin h' sb G')
end
end TS
namespace TS
noncomputable def zv7 (b:Bool):Obj:={ cls:=.type "set",dict:=none,data:=.set #[] 0 (.fresh 0 0 b) }
theorem zaw9 (b:Bool):zn5 b (SetTable.fresh 0 0 b):=⟨rfl,fun _=>⟨List.Pairwise.nil,rfl⟩⟩
section
variable {prog:Program}{w:World}{A:Around}{E:Value→zbk8→Prop}{s:zbk8}
theorem SetG.cong {h:Heap}{a:Addr}{S S':Int→Bool}{n n':Nat} (x:SetG prog w h a S n) (e:∀k,S k=S' k) (en:n=n'):SetG prog w h a S' n':=by
 cases funext e;cases en;exact x
theorem zai6 {R:Result→zbk8→Prop}{I:Addr}{fp wr:List Addr}{G:Array GenState→Array GenState→Prop}{n:Nat}{P:Nat→Value→Prop}{St:Nat→zbk8→Prop} (W:WalksS prog w A.in1 I fp wr G n P St) (a:Addr) (na:a∉fp)
  (val:Nat→Int) (hv:∀i v,P i v→∃t,v=.int (val i) t) (hb:n+1<scanBound):∀(k i:Nat) (s:zbk8),n - i=k→i≤n→St i s →
   SetG prog w s.heap a (fun q=>(firstMet val i).any (· == q)) (firstMet val i).length →
   (∀s',Moved (a::wr) G s s'→SetG prog w s'.heap a (fun q=>(firstMet val n).any (· == q)) (firstMet val n).length→R (.ok (.ret .none)) s') →
   codeAny (model prog w) A (.builtin "set.update.loop" ⟨[.ref a,.ref I],[]⟩) R s
 |0,i,s,hk,hi,st,G0,hR=>by
  cases (by lia:i=n)
  refine codeAny_builtin F.entry_set_update_loop ?_
  rw [Around.under_plainId F.plain_set_update_loop _]
  show wpAny _ A.in1 (pyNext (.ref I) >>= _) _ _ s
  refine zbj8 (W.done s _ _ st fun s' m=>?_)
  show wpAny _ A.in1 (ret Value.none) _ _ s'
  exact zbk6 (hR s' (m.mono fun b z=>zbj9 _ z) (G0.at fun o g=>m.heap a _ (fun z=>na (W.sub _ z)) g))
 |k+1,i,s,hk,hi,st,G0,hR=>by
  have lt:i<n:=by lia
  have fl:=firstMet_length_le val i
  refine codeAny_builtin F.entry_set_update_loop ?_
  rw [Around.under_plainId F.plain_set_update_loop _]
  show wpAny _ A.in1 (pyNext (.ref I) >>= _) _ _ s
  refine zbj8 (W.item i s _ _ lt st fun v s' p st' m=>?_)
  obtain⟨t,rfl⟩:=hv i v p
  have G1:SetG prog w s'.heap a _ _:=G0.at fun o g=>m.heap a _ (fun z=>na (W.sub _ z)) g
  show wpAny _ A.in1 (holding [Value.int (val i) t] (setAdd a (.int (val i) t)) >>= _) _ _ s'
  unfold setAdd
  refine zbj8 (wpAny_holding (wpAny_holding (zbj8 ((intKind prog w).pyHash (k:=val i) (intKind_is _ _ _ _) ?_))))
  refine add_good (s:={ s' with toks:=s'.toks+1 }) (intKind_is _ _ _ _) rfl G1 (by lia) fun h' sb G2=>?_
  refine zbk6 ⟨plainId_quiet F.plain_set_update_loop _,zai6 W a na val hv hb k (i+1) _ (by lia) lt (W.frame _ s' _ _ st' (zbw3 _) fun b z o e=>?_) (G2.cong (fun q=>by rw [firstMet_succ,step_any]) (by rw [firstMet_succ,step_length])) fun s2 m2 G3=>?_⟩
  ·rw [sb.2 b fun z':b=a=>na (z' ▸ z)];exact e
  ·refine hR s2 (Moved.trans W.gtrans ((m.mono fun b z=>zbj9 _ z).then_heap (zbw3 _) fun b o z e=>?_) m2) G3
   rw [sb.2 b fun z':b=a=>z (by rw [z'];exact zbk2)];exact e
theorem new_good (x:Value) {Q1:Value→zbk8→Prop} (h:Q1 (.ref s.heap.objs.size) { s with heap:=s.heap.push (zv7 (!txt w)) }) :
  codeAny (model prog w) A (.call (.builtin "set.__new__") ⟨[.type "set",x],[]⟩) (wants Q1 E) s:=by
 refine codeAny_of_tree ?_
 show wpAny _ A.in1 (do checkBuiltinCall "set.__new__" ⟨[.type "set",x],[]⟩;again (.builtin "set.__new__" ⟨[.type "set",x],[]⟩)) _ _ s
 refine zbj8 (wpAny_of_eq (PySem.F.newCall_set_1 x) (zbk6 ⟨plainId_quiet zca8 _,codeAny_builtin PySem.F.entry_set_new ?_⟩))
 rw [Around.under_plainId zca8 _]
 unfold Builtin.«set.__new__» Builtin.Frozenset.newClass
 have sub:=sub_set_self
 obtain⟨hp,g,d,tk,os⟩:=s
 dsimp only
 wp_walk
 refine wpAny_askSetting (zbk6 ?_)
 dsimp only
 simp only [newObj]
 exact zbj8 (wpAny_alloc (zbk6 (zbk6 h)))
theorem zbi1 {l:Addr}{items:Array Value}{ns:List Int}{Q:Value→zbk8→Prop} (hh:A.handled=none) (hl:s.heap.IsList l items) (hi:IntsAre items.toList ns) (hb:items.size+1<scanBound)
  (h:∀(h':Heap) (tk:Nat),SetG prog w h' s.heap.objs.size (fun q=>(firstMet (fun i=>ns.getD i 0) items.size).any (· == q)) (firstMet (fun i=>ns.getD i 0) items.size).length →
   (∀b o,b<s.heap.objs.size→s.heap.get? b=some o→h'.get? b=some o)→Q (.ref s.heap.objs.size) { s with heap:=h',toks:=tk }) :
  wpAny (model prog w) A (call (.type "set") [.ref l]) Q E s:=by
 obtain⟨c,tl,mro⟩:=PySem.F.called_set.mro
 have made:=PySem.F.called_set.made
 have sub:=PySem.F.called_set.sub
 refine wpAny_call (codeAny_of_tree ?_)
 show wpAny _ _ (callAny (.type "set") _) _ _ _
 refine zbk6 ⟨Code.quiet_builtin _ (by decide +kernel),codeAny_builtin PySem.F.entry_type_call ?_⟩
 rw [Around.under_plain (weight_type_call_type "set" [.ref l] []) rfl]
 have n1:=PySem.F.called_set.notType
 have n2:=PySem.F.called_set.canCreate
 have n3:=PySem.F.typeCall_set_1 (.ref l)
 repeat (any_goals (first | assumption | wp_step))
 refine codeAny_mono (new_good (.ref l) (E:=E) (Q1:=fun ob s1=>ob=.ref s.heap.objs.size∧s1={ s with heap:=s.heap.push (zv7 (!txt w)) }) ⟨rfl,rfl⟩) fun r s1 hr=>?_
 cases r with
 |error e=>exact hr
 |ok fl =>
  cases fl with
  |ret ob =>
   obtain⟨rfl,rfl⟩:=hr
   have g0:(s.heap.push (zv7 (!txt w))).get? s.heap.objs.size=some (zv7 (!txt w)):=zbl2 _ rfl
   have T0:Shared.TypeIs { s with heap:=s.heap.push (zv7 (!txt w)) } (.ref s.heap.objs.size) "set":=⟨_,g0,rfl⟩
   have i1:=PySem.F.called_set.init.lookup
   have i2:=PySem.F.called_set.init.bind (.ref s.heap.objs.size)
   repeat (any_goals (first | assumption | wp_step))
   refine codeAny_mono (codeAny_call_builtin (R:=wants (fun r s2=>r=.none∧∃h' tk,s2={ s with heap:=h',toks:=tk }∧SetG prog w h' s.heap.objs.size (fun q=>(firstMet (fun i=>ns.getD i 0) items.size).any (· == q)) (firstMet (fun i=>ns.getD i 0) items.size).length ∧
     ∀b o,b<s.heap.objs.size→s.heap.get? b=some o→h'.get? b=some o) E) PySem.F.called_set.init.plain PySem.F.entry_set_init (check_set_init_1 T0 ?_)) fun r2 s2 hr2=>?_
   ·obtain⟨ol,gl,cl,nl,dl⟩:=hl
    obtain⟨ocls,odict,odata,oslots⟩:=ol
    simp only at cl dl
    subst cl;subst dl
    have gl':(s.heap.push (zv7 (!txt w))).get? l=some { cls:=.type "list",dict:=odict,data:=.seq items nl,slots:=oslots }:=zbk0 _ gl
    have s1:=PySem.F.sub_list_set
    have s2:=PySem.F.sub_list_frozenset
    have ne:(Value.type "list" == Value.type "dict")=false:=by decide
    have L1:(s.heap.push (zv7 (!txt w))).IsList l items:=⟨_,gl',rfl,nl,rfl⟩
    have ll:l<s.heap.objs.size:=zbl0 gl
    unfold Builtin.«set.__init__» noKeywords Builtin.Frozenset.updateFrom
    generalize hPI:pyIter=PI
    have g0':(s.heap.push (zv7 (!txt w))).get? s.heap.objs.size=some { cls:=.type "set",dict:=none,data:=.set #[] 0 (.fresh 0 0 (!txt w)),slots := #[] }:=g0
    wp_walk
    subst hPI
    refine wpAny_pyIter_list L1 (zbj8 (wpAny_runValue ?_))
    have hh3:A.in1.in1.in1.handled=none:=by simp [hh]
    refine zai6 ((Walks.list hh3 _ l (by rw [zbs4];exact zbn1 (zbr4 ll)) items).toS) s.heap.objs.size (by
     rw [zbs4]
     simp only [zbk5,zbp0,or_false,not_or]
     exact⟨zbn1 (zbu6 _),zbu0 ll⟩) (fun i=>ns.getD i 0) (fun i v z=>IntsAre.int_at hi i v (by rw [zbm1];exact z)) hb (items.size - 0) 0 _ (by lia) (zbq5 _)
     ⟨⟨_,zbl2 _ rfl,rfl,rfl⟩,L1.push _⟩ ?G0 ?hR
    case G0=>exact⟨_, #[],0,_,zbk0 _ g0,⟨rfl,rfl,rfl⟩,rfl,fun e z=>by simp at z,fun k=>by simp [firstMet_zero],by decide,by rfl,rfl,zaw9 _⟩
    case hR =>
     intro s' m G1
     obtain⟨h',g',d',tk',os'⟩:=s'
     cases (show g'=s.gens from m.gens)
     cases (show d'=s.drawn from m.drawn)
     cases (show os'=s.os from m.os)
     show wpAny _ _ _ _ _ _
     refine zbk6 ?_
     show wpAny _ _ (ret Value.none) _ _ _
     refine zbk6 ⟨rfl,h',tk',rfl,G1,fun b o z e=>?_⟩
     refine m.heap b o ?_ (zbk0 _ (zbk0 _ e))
     simp only [zbk5,zbp0,or_false,not_or]
     exact⟨zbn1 z,by rw [zbs4];exact zbn1 (zbr4 z)⟩
   ·cases r2 with
    |error e=>exact hr2
    |ok f2 =>
     cases f2 with
     |ret r =>
      obtain⟨rfl,h',tk,rfl,G1,kk⟩:=hr2
      repeat (any_goals (first | assumption | wp_step))
      exact h _ _ G1 kk
     |_=>exact hr2.elim
  |_=>exact hr.elim
end
end TS
namespace TS
theorem slot_si_next:Slot "set_iterator" "__next__" "set_iterator.__next__" :=
 .of (owner := "set_iterator") (n := "__next__") (by rw [typeLookup_type,builtinLookup_eq_fast];kernel_rfl) (by decide +kernel) (by decide +kernel) (by decide +kernel) (.inl (by decide +kernel)) (by rw [isSubtype_type];kernel_rfl)
theorem zu1:entryFor table "set_iterator.__next__"=some Builtin.«set_iterator.__next__»:=entryFor_of_tree (by kernel_rfl)
theorem zaa6:entryFor table "set.__iter__"=some Builtin.«frozenset.__iter__» :=
 entryFor_alias (id' := "frozenset.__iter__") (by kernel_rfl) rfl (by decide +kernel) (by kernel_rfl)
theorem own_si:Manifest.owners.lookup (String.ofList ['r', 'o', 't', 'a', 'r', 'e', 't', 'i', '_', 't', 'e', 's'].reverse)=some Manifest.sig_set_iterator:=by kernel_rfl
theorem zw1 (a:Value):argsOk "set_iterator.__next__" ⟨[a],[]⟩:=by
 unfold argsOk;rw [signature?_of (id := "set_iterator.__next__") (n:=['_', '_', 't', 'x', 'e', 'n', '_', '_']) (o:=['r', 'o', 't', 'a', 'r', 'e', 't', 'i', '_', 't', 'e', 's']) (by kernel_rfl) own_si];kernel_rfl
noncomputable def RawS (h:Heap) (a:Addr) (es:Array (Int×Value)) (ep:Nat) (t:SetTable):Prop := ∃o,h.get? a=some o∧o.ExactSet∧o.data=.set es ep t∧t.fits es.size=true
theorem RawS.at {h h':Heap}{a:Addr}{es:Array (Int×Value)}{ep:Nat}{t:SetTable} (x:RawS h a es ep t) (k:∀o,h.get? a=some o→h'.get? a=some o):RawS h' a es ep t:=let ⟨o,g,r⟩:=x;⟨o,k o g,r⟩
noncomputable def ItS (h:Heap) (I:Addr) (f:Value) (i:Nat) (a:Addr) (n ep:Nat):Prop := ∃o,h.get? I=some o∧o.cls=.type "set_iterator"∧o.data=.fields #[f,.int i 0,.ref a,.int n 0,.int ep 0]
theorem ItS.at {h h':Heap}{I a:Addr}{f:Value}{i n ep:Nat} (x:ItS h I f i a n ep) (k:∀o,h.get? I=some o→h'.get? I=some o):ItS h' I f i a n ep:=let ⟨o,g,r⟩:=x;⟨o,k o g,r⟩
theorem ItS.ty {s:zbk8}{I a:Addr}{f:Value}{i n ep:Nat} (x:ItS s.heap I f i a n ep):s.TypeIs (.ref I) "set_iterator":=let ⟨o,g,c,_⟩:=x;⟨o,g,c⟩
theorem RawS.ty {s:zbk8}{a:Addr}{es:Array (Int×Value)}{ep:Nat}{t:SetTable} (x:RawS s.heap a es ep t):s.TypeIs (.ref a) "set":=let ⟨o,g,r,_⟩:=x;⟨o,g,r.1⟩
section
variable {prog:Program}{w:World}{A:Around}{E:Value→zbk8→Prop}{s:zbk8}
theorem zs0 {Q:Bool→zbk8→Prop} (h:Q (txt w) s):wpAny (model prog w) A setsByText Q E s:=by
 unfold setsByText
 exact zbj8 (wpAny_askSetting (zbk6 h))
theorem wp_choose {n:Nat}{Q:Nat→zbk8→Prop} (hn:n≠0) (h:∀i d,i<n→Q i { s with drawn:=d }):wpAny (model prog w) A (choose .order n) Q E s:=by
 intro Γ p hΓ
 unfold choose
 rw [Sem.wp_choose]
 exact⟨hn,h _ _ (Nat.mod_lt _ (by lia))⟩
theorem zam4 {α:Type}:∀(xs:List α) (i:Nat) (h:i<xs.length),(xs[i]::xs.eraseIdx i).Perm xs
 |[],i,h=>by simp at h
 |x::xs,0,h=>List.Perm.refl _
 |x::xs,i+1,h=>by
  have:=zam4 xs i (by simpa using h)
  simp only [List.getElem_cons_succ,List.eraseIdx_cons_succ]
  exact (List.Perm.swap _ _ _).trans (List.Perm.cons x this)
theorem zax8 {α:Type}:∀(n:Nat) (xs:List α) (s:zbk8) {Q:List α→zbk8→Prop},xs.length=n→(∀ys d,ys.Perm xs→Q ys { s with drawn:=d })→wpAny (model prog w) A (drawOrder n xs) Q E s
 |0,xs,s,Q,hl,h=>by
  cases zbp2.mp hl
  unfold drawOrder
  exact zbk6 (h [] s.drawn (List.Perm.refl _))
 |n+1,[],s,Q,hl,h=>by simp at hl
 |n+1,x::xs,s,Q,hl,h=>by
  unfold drawOrder
  refine zbj8 (TS.wp_choose (by simp) fun i d hi=>?_)
  rw [zbk4 hi]
  dsimp only
  refine zbj8 (zax8 n _ _ (by rw [zbx7 hi];lia) fun ys d' p=>zbk6 ?_)
  exact h _ d' ((List.Perm.cons _ p).trans (zam4 _ i hi))
theorem iter_set {a:Addr}{es:Array (Int×Value)}{ep:Nat}{t:SetTable}{Q:Value→zbk8→Prop} (x:RawS s.heap a es ep t) (hz:es.size≤100000)
  (q1:(!txt w&&(!t.plain&&decide (es.size > 1)))=false→Q (.ref s.heap.objs.size) { s with heap:=s.heap.push { cls:=.type "set_iterator",data:=.fields #[.int 0 0,.int 0 0,.ref a,.int es.size 0,.int ep 0] } })
  (q2:∀(ps:List Nat) d,(!txt w&&(!t.plain&&decide (es.size > 1)))=true→ps.Perm (zbo3 es.size)→Q (.ref (s.heap.objs.size+1)) { s with heap:=(s.heap.push { cls:=.type "tuple",data:=.seq (ps.map fun (i:Nat)=>Value.int i 0).toArray }).push { cls:=.type "set_iterator",data:=.fields #[.ref s.heap.objs.size,.int 0 0,.ref a,.int es.size 0,.int ep 0] },drawn:=d }) :
  wpAny (model prog w) A (pyIter (.ref a)) Q E s:=by
 have ty:=x.ty
 obtain⟨o,g,r,dd,hf⟩:=x
 refine wpAny_pyIter_slot ty zca9 (wpAny_call_entry zca9 ty zaa6 ?_ (PySem.F.args_set_iter_1 _))
 unfold Builtin.«frozenset.__iter__» Builtin.Frozenset.slot0 slotArgs
 simp only [zca7,zcc7,zbm5, ↓reduceIte,bind_assoc,zbx4,bne_self_eq_false]
 unfold Builtin.Frozenset.addrOf Builtin.Frozenset.sizeOf
 refine zbj8 (zbk6 ?_)
 try dsimp only
 refine zbj8 (zbk6 ?_)
 refine zbj8 (zbj8 (wpAny_setEntries_of g dd hf (zbk6 ?_)))
 unfold setDrawn
 refine zbj8 (zbj8 (wpAny_setState_of g dd hf ?_))
 dsimp only
 refine zbj8 (zs0 (zbk6 ?_))
 cases hc:(!txt w&&(!t.plain&&decide (es.size > 1))) with
 |true =>
  refine wpAny_ite_split (fun _=>?_) fun z=>absurd hc z
  refine zbj8 (zax8 es.size _ s (zbs6) fun ps d p=>?_)
  have pl:ps.length=es.size:=by rw [p.length_eq,zbs6]
  refine zbj8 (wpAny_newTuple ?_ (by rw [zbm6,pl,sizeLine_eq];lia))
  refine zbj8 (wpAny_setEpoch_of (o:=o) (zbk0 _ g) dd hf ?_)
  unfold newFields
  refine zbj8 (wpAny_newObj_type (zbk6 ⟨_,rfl, "set_iterator",_,⟨_,zbl2 _ rfl,rfl⟩,slot_si_next.lookup,?_⟩))
  have:=q2 ps d hc p
  simpa [rawInt] using this
 |false =>
  refine wpAny_ite_split (fun z=>absurd (hc.symm.trans z) (by decide)) fun _=>?_
  refine zbj8 (zbk6 (zbj8 (wpAny_setEpoch_of g dd hf ?_)))
  unfold newFields
  refine zbj8 (wpAny_newObj_type (zbk6 ⟨_,rfl, "set_iterator",_,⟨_,zbl2 _ rfl,rfl⟩,slot_si_next.lookup,?_⟩))
  have:=q1 hc
  simpa [rawInt] using this
end
end TS
namespace TS
section
variable {prog:Program}{w:World}{A:Around}{E:Value→zbk8→Prop}{s:zbk8}
theorem zt0 {I a:Addr}{f:Value}{i n ep:Nat}{es:Array (Int×Value)}{t:SetTable}{Q:Option Value→zbk8→Prop} (ki:ItS s.heap I f i a es.size ep) (x:RawS s.heap a es ep t) (hh:A.handled=none)
  (slot:Nat) (ef:f=.int slot 0) (item:Option (Value×Nat)) (hn:∀(R:Option (Value×Nat)→zbk8→Prop),R item s→wpAny (model prog w) A.in1 (setNext a slot i ep) R (fun e s'=>False) s)
  (q1:∀v nx h',item=some (v,nx)→ItS h' I (.int nx 0) (i+1) a es.size ep→Heap.SameBut I s.heap h'→Q (some v) { s with heap:=h' })
  (q2:item=none→∀h',Heap.ExtBut I s.heap h'→Q none { s with heap:=h' }):wpAny (model prog w) A (pyNext (.ref I)) Q E s:=by
 have ty:=ki.ty
 obtain⟨o,g,c,d⟩:=ki
 obtain⟨os,gs,r,ds,hf⟩:=x
 subst ef
 unfold pyNext
 refine zbj8 (wpAny_attempt (wpAny_callSpecial?_slot (name:=Str.ofString "__next__") ty slot_si_next (wpAny_call_entry slot_si_next ty zu1 ?_ (zw1 _))))
 unfold Builtin.«set_iterator.__next__» slotArgs
 simp only [zca7,zcc7,zbm5, ↓reduceIte,bind_assoc,zbx4,bne_self_eq_false]
 refine zbj8 (zbk6 ?_)
 refine zbj8 (wpAny_fieldsOf g d ?_)
 dsimp only
 refine zbj8 (wpAny_setEntries_of gs ds hf ?_)
 rw [if_neg (by simp)]
 simp only [zbn9]
 refine zbj8 (wpAny_mono (hn _ ?_) (fun _ _ z=>z) fun _ _ z=>z.elim)
 cases item with
 |some p =>
  obtain⟨v,nx⟩:=p
  dsimp only
  refine zbj8 (wpAny_setField g d (by simp) ?_)
  have g1:=zbo4 (Obj.mapFields (·.setIfInBounds 0 (rawInt (nx:Int)))) g (Obj.isFreed_of_fields (Obj.data_mapFields d _))
  have d1:=Obj.data_mapFields d (·.setIfInBounds 0 (rawInt (nx:Int)))
  refine zbj8 (wpAny_setField g1 d1 (by simp) ?_)
  have g2:=zbo4 (Obj.mapFields (·.setIfInBounds 1 (rawInt ((i:Int)+1)))) g1 (Obj.isFreed_of_fields (Obj.data_mapFields d1 _))
  have d2:=Obj.data_mapFields d1 (·.setIfInBounds 1 (rawInt ((i:Int)+1)))
  refine zbk6 ⟨_,rfl,zbk6 (q1 v nx _ rfl ⟨_,g2,?_,?_⟩ ?_)⟩
  ·rw [Obj.cls_mapFields,Obj.cls_mapFields];exact c
  ·rw [d2];simp [rawInt]
  ·exact (Heap.SameBut.update ..).trans (Heap.SameBut.update ..)
 |none =>
  dsimp only
  refine zbj8 (wpAny_setField g d (by simp) ?_)
  refine zbj8 ?_
  simp only [newExc,newTuple]
  refine zbj8 (wpAny_newObj_type (zbj8 (m:=firstArgMember _ _) (wpAny_of_eq (a:=Value.none) (by first | rfl | (simp only [firstArgMember];rfl)) ?_)) (by size_fits))
  refine wpAny_newObj_type ?_ (by size_fits)
  simp only [raiseNew]
  refine zbj8 (wpAny_handled ?_)
  rw [show A.in1.handled=none from hh]
  refine zbj8 (zbk6 (wpAny_throw ?_))
  refine zbj8 (wpAny_isInstance (T := "StopIteration") (b:=true) ⟨_,zbl2 _ rfl,rfl⟩ isSubtype_stop ?_)
  exact zbk6 (q2 rfl _ (((Heap.SameBut.update ..).extBut.push _).push _))
theorem zab5 {I a T:Addr}{i ep:Nat}{es:Array (Int×Value)}{t:SetTable}{ps:List Nat}{Q:Option Value→zbk8→Prop} (ki:ItS s.heap I (.ref T) i a es.size ep) (x:RawS s.heap a es ep t) (hh:A.handled=none) (hp:ps.Perm (zbo3 es.size))
  (gT:s.heap.get? T=some { cls:=.type "tuple",data:=.seq (ps.map fun (i:Nat)=>Value.int i 0).toArray })
  (q1:∀p v h',ps[i]?=some p→(es[p]?).map (·.2)=some v→ItS h' I (.ref T) (i+1) a es.size ep→Heap.SameBut I s.heap h'→Q (some v) { s with heap:=h' })
  (q2:ps.length≤i→∀h',Heap.ExtBut I s.heap h'→Q none { s with heap:=h' }):wpAny (model prog w) A (pyNext (.ref I)) Q E s:=by
 have ty:=ki.ty
 obtain⟨o,g,c,d⟩:=ki
 obtain⟨os,gs,r,ds,hf⟩:=x
 unfold pyNext
 refine zbj8 (wpAny_attempt (wpAny_callSpecial?_slot (name:=Str.ofString "__next__") ty slot_si_next (wpAny_call_entry slot_si_next ty zu1 ?_ (zw1 _))))
 unfold Builtin.«set_iterator.__next__» slotArgs
 simp only [zca7,zcc7,zbm5, ↓reduceIte,bind_assoc,zbx4,bne_self_eq_false]
 refine zbj8 (zbk6 ?_)
 refine zbj8 (wpAny_fieldsOf g d ?_)
 dsimp only
 refine zbj8 (wpAny_setEntries_of gs ds hf ?_)
 rw [if_neg (by simp)]
 simp only [zbn9]
 refine zbj8 (wpAny_seqItems gT rfl ?_)
 dsimp only
 have pl:ps.length=es.size:=by rw [hp.length_eq,zbs6]
 by_cases hi:i<ps.length
 ·have e:(ps.map fun (i:Nat)=>Value.int i 0).toArray[i]?=some (.int (ps[i]:Int) 0):=by simp [hi]
  rw [e]
  dsimp only
  have pm:ps[i] < es.size:=zbq9.mp (hp.mem_iff.mp (zbn8 hi))
  unfold setNextDrawn
  refine zbj8 (zbj8 (wpAny_setState_of gs ds hf ?_))
  dsimp only
  rw [if_neg (by simp)]
  simp only [zbn9,zbm7 pm]
  refine zbk6 ?_
  refine zbj8 (wpAny_setField g d (by simp) ?_)
  have g2:=zbo4 (Obj.mapFields (·.setIfInBounds 1 (rawInt ((i:Int)+1)))) g (Obj.isFreed_of_fields (Obj.data_mapFields d _))
  have d2:=Obj.data_mapFields d (·.setIfInBounds 1 (rawInt ((i:Int)+1)))
  refine zbk6 ⟨_,rfl,zbk6 (q1 ps[i] es[ps[i]].2 _ (zbk4 hi) (by rw [zbm7 pm];rfl) ⟨_,g2,?_,?_⟩ (Heap.SameBut.update ..))⟩
  ·rw [Obj.cls_mapFields];exact c
  ·rw [d2];simp [rawInt]
 ·have e:(ps.map fun (i:Nat)=>Value.int i 0).toArray[i]?=none:=by simp;lia
  rw [e]
  dsimp only
  refine zbj8 (wpAny_setField g d (by simp) ?_)
  have g1:=zbo4 (Obj.mapFields (·.setIfInBounds 0 (rawInt 0))) g (Obj.isFreed_of_fields (Obj.data_mapFields d _))
  have d1:=Obj.data_mapFields d (·.setIfInBounds 0 (rawInt 0))
  refine zbj8 (wpAny_setField g1 d1 (by simp) ?_)
  refine zbj8 ?_
  simp only [newExc,newTuple]
  refine zbj8 (wpAny_newObj_type (zbj8 (m:=firstArgMember _ _) (wpAny_of_eq (a:=Value.none) (by first | rfl | (simp only [firstArgMember];rfl)) ?_)) (by size_fits))
  refine wpAny_newObj_type ?_ (by size_fits)
  simp only [raiseNew]
  refine zbj8 (wpAny_handled ?_)
  rw [show A.in1.handled=none from hh]
  refine zbj8 (zbk6 (wpAny_throw ?_))
  refine zbj8 (wpAny_isInstance (T := "StopIteration") (b:=true) ⟨_,zbl2 _ rfl,rfl⟩ isSubtype_stop ?_)
  exact zbk6 (q2 (by lia) _ ((((Heap.SameBut.update ..).trans (Heap.SameBut.update ..)).extBut.push _).push _))
theorem zab2 {a:Addr}{es:Array (Int×Value)}{ep:Nat}{t:SetTable} (x:RawS s.heap a es ep t) (hw:txt w=true) (slot i:Nat) (R:Option (Value×Nat)→zbk8→Prop)
  (h:R (((pickOrder (w.params.setOrder a ep) es)[i]?).map fun e=>(e.2,slot)) s):wpAny (model prog w) A (setNext a slot i ep) R (fun _ _=>False) s:=by
 obtain⟨o,g,r,d,hf⟩:=x
 unfold setNext
 refine zbj8 (wpAny_setState_of g d hf ?_)
 dsimp only
 refine zbj8 (zs0 ?_)
 rw [hw,if_pos rfl,if_neg (by simp)]
 unfold setWalk
 refine zbj8 (zbj8 (wpAny_setState_of g d hf ?_))
 dsimp only
 refine zbj8 (zs0 ?_)
 rw [hw,if_pos rfl]
 refine zbj8 (wpAny_askSetting (zbk6 (zbk6 ?_)))
 exact h
theorem zaq4 {a:Addr}{es:Array (Int×Value)}{ep:Nat}{t:SetTable} (x:RawS s.heap a es ep t) (hw:txt w=false) (hd:(!t.plain&&decide (es.size > 1))=false) (hl:t.led=true) (slot i:Nat) (R:Option (Value×Nat)→zbk8→Prop)
  (h:R (match es[SetTable.below t.place slot]?,t.place[SetTable.below t.place slot]? with
   |some (_,v),some j=>some (v,j+1)
   |_,_=>none) s):wpAny (model prog w) A (setNext a slot i ep) R (fun _ _=>False) s:=by
 obtain⟨o,g,r,d,hf⟩:=x
 unfold setNext
 refine zbj8 (wpAny_setState_of g d hf ?_)
 dsimp only
 refine zbj8 (zs0 ?_)
 rw [hw,if_neg (by decide)]
 refine wpAny_ite_split (fun z=>absurd (hd.symm.trans z) (by decide)) fun _=>?_
 refine zbj8 ?_
 show wpAny _ _ (if (!t.led&&!es.isEmpty)=true then _ else _) _ _ _
 rw [hl,if_neg (by simp)]
 exact zbk6 (zbk6 h)
end
end TS
namespace TS
theorem zv4:Slot "set_iterator" "__iter__" "set_iterator.__iter__" :=
 .of (owner := "set_iterator") (n := "__iter__") (by rw [typeLookup_type,builtinLookup_eq_fast];kernel_rfl) (by decide +kernel) (by decide +kernel) (by decide +kernel) (.inl (by decide +kernel)) (by rw [isSubtype_type];kernel_rfl)
theorem zae9:entryFor table "set_iterator.__iter__"=some Builtin.«dict_keyiterator.__iter__» :=
 entryFor_alias (id' := "dict_keyiterator.__iter__") (by kernel_rfl) rfl (by decide +kernel) (by kernel_rfl)
theorem zak9 (a:Value):argsOk "set_iterator.__iter__" ⟨[a],[]⟩:=by
 unfold argsOk;rw [signature?_of (id := "set_iterator.__iter__") (n:=['_', '_', 'r', 'e', 't', 'i', '_', '_']) (o:=['r', 'o', 't', 'a', 'r', 'e', 't', 'i', '_', 't', 'e', 's']) (by kernel_rfl) own_si];kernel_rfl
theorem zbb4 {α:Type} (f:Nat→Nat):∀(n k:Nat) (l:List α) (out:Array α),l.length=n→(pickOrder.go f n k l out).toList.Perm (out.toList++l)
 |0,k,l,out,h=>by
  cases zbp2.mp h
  unfold pickOrder.go
  simp
 |n+1,k,l,out,h=>by
  unfold pickOrder.go
  have hi:f k % l.length<l.length:=Nat.mod_lt _ (by lia)
  rw [zbk4 hi]
  dsimp only
  refine (zbb4 f n (k+1) _ _ (by rw [zbx7 hi];lia)).trans ?_
  rw [zbz5,zbk9]
  exact List.Perm.append_left _ (zam4 l _ hi)
theorem zx4 {α:Type} (f:Nat→Nat) (xs:Array α):(pickOrder f xs).toList.Perm xs.toList:=by
 have:=zbb4 f xs.size 0 xs.toList #[] (by simp)
 simpa [pickOrder] using this
theorem zax1 {α:Type} (xs:Array α) {ps:List Nat} (h:ps.Perm (zbo3 xs.size)):(ps.filterMap fun p=>xs[p]?).Perm xs.toList:=by
 have:=h.filterMap fun p=>xs[p]?
 rw [filterMap_getElem?_range]at this
 exact this
section
variable {prog:Program}{w:World}{A:Around}{E:Value→zbk8→Prop}{s:zbk8}
theorem zac9 {I a:Addr}{f:Value}{i n ep:Nat}{Q:Value→zbk8→Prop} (ki:ItS s.heap I f i a n ep) (h:Q (.ref I) s):wpAny (model prog w) A (pyIter (.ref I)) Q E s:=by
 refine wpAny_pyIter_slot ki.ty zv4 (wpAny_call_entry zv4 ki.ty zae9 ?_ (zak9 _))
 show wpAny _ _ (ret (.ref I)) _ _ s
 exact zbk6 ⟨_,rfl, "set_iterator",_,ki.ty,slot_si_next.lookup,h⟩
theorem zay1 (hh:A.handled=none) (I a:Addr) (ne:a≠I) (es:Array (Int×Value)) (ep:Nat) (t:SetTable) (hw:txt w=true) :
  Walks prog w A I [I,a] [I] es.size (fun i v=>(((pickOrder (w.params.setOrder a ep) es).toList.map (·.2))[i]?)=some v) (fun i h=>ItS h I (.int 0 0) i a es.size ep∧RawS h a es ep t) where
 sub:=fun b hb=>by simp at hb;simp [hb]
 frame:=fun _ _ _ st hk=>⟨st.1.at fun o e=>hk I (by simp) o e,st.2.at fun o e=>hk a (by simp) o e⟩
 item:=fun i s Q E hi st hQ=>by
  have sz:(pickOrder (w.params.setOrder a ep) es).size=es.size:=by have:=(zx4 (w.params.setOrder a ep) es).length_eq;simpa using this
  have e:(pickOrder (w.params.setOrder a ep) es)[i]?=some ((pickOrder (w.params.setOrder a ep) es)[i]'(by lia)):=zbm7 (by lia)
  refine zt0 (n:=0) st.1 st.2 hh 0 rfl _ (fun R h=>zab2 st.2 hw 0 i R h) (fun v nx h' ev it sb=>?_) fun en=>?_
  ·rw [e]at ev
   cases ev
   refine hQ _ h' s.toks ?_ ⟨it,st.2.at fun o g=>sb.extBut a o ne g⟩ fun b o hb g=>sb.extBut b o (fun z=>hb (by simp [z])) g
   rw [zbp6, ← zbm1]at *
   simp [e]
  ·rw [e]at en
   cases en
 done:=fun s Q E st hQ=>by
  have sz:(pickOrder (w.params.setOrder a ep) es).size=es.size:=by have:=(zx4 (w.params.setOrder a ep) es).length_eq;simpa using this
  have e:(pickOrder (w.params.setOrder a ep) es)[es.size]?=none:=zbv7 (by lia)
  refine zt0 (n:=0) st.1 st.2 hh 0 rfl _ (fun R h=>zab2 st.2 hw 0 es.size R h) (fun v nx h' ev it sb=>?_) fun en h' x=>hQ h' s.toks fun b o hb g=>x b o (fun z=>hb (by simp [z])) g
  rw [e]at ev
  cases ev
 self:=fun _ _ _ _ st hQ=>zac9 st.1 hQ
theorem walk_up (hh:A.handled=none) (I a:Addr) (ne:a≠I) (es:Array (Int×Value)) (ep:Nat) (t:SetTable) (hw:txt w=false) (hd:(!t.plain&&decide (es.size > 1))=false) (hl:t.led=true) (hu:Up t.place) (hf:t.place.size=es.size) :
  Walks prog w A I [I,a] [I] es.size (fun i v=>((es.toList.map (·.2))[i]?)=some v) (fun i h=>(∃slot:Nat,SetTable.below t.place slot=i∧ItS h I (.int slot 0) i a es.size ep)∧RawS h a es ep t) where
 sub:=fun b hb=>by simp at hb;simp [hb]
 frame:=fun _ _ _ st hk=>⟨let ⟨sl,e,x⟩:=st.1;⟨sl,e,x.at fun o e=>hk I (by simp) o e⟩,st.2.at fun o e=>hk a (by simp) o e⟩
 item:=fun i s Q E hi st hQ=>by
  obtain⟨⟨sl,es',it⟩,raw⟩:=st
  have hp:i<t.place.size:=by lia
  refine zt0 (n:=0) it raw hh sl rfl _ (fun R h=>zaq4 raw hw hd hl sl i R h) (fun v nx h' ev it' sb=>?_) fun en=>?_
  ·rw [es',zbm7 hi,zbm7 hp]at ev
   cases ev
   exact hQ _ h' s.toks (by rw [zbp6,zbm1,zbm7 hi];rfl) ⟨⟨_,bel_next hu hp,it'⟩,raw.at fun o g=>sb.extBut a o ne g⟩ fun b o hb g=>sb.extBut b o (fun z=>hb (by simp [z])) g
  ·rw [es',zbm7 hi,zbm7 hp]at en
   cases en
 done:=fun s Q E st hQ=>by
  obtain⟨⟨sl,es',it⟩,raw⟩:=st
  refine zt0 (n:=0) it raw hh sl rfl _ (fun R h=>zaq4 raw hw hd hl sl es.size R h) (fun v nx h' ev it sb=>?_) fun en h' x=>hQ h' s.toks fun b o hb g=>x b o (fun z=>hb (by simp [z])) g
  rw [es',zbv7 (zbl3 _)]at ev
  cases ev
 self:=fun _ _ _ _ st hQ=>let ⟨_,_,x⟩:=st.1;zac9 x hQ
theorem zau2 (hh:A.handled=none) (I a T:Addr) (ne:a≠I) (nT:T≠I) (es:Array (Int×Value)) (ep:Nat) (t:SetTable) {ps:List Nat} (hp:ps.Perm (zbo3 es.size)) :
  Walks prog w A I [I,a,T] [I] es.size (fun i v=>(((ps.filterMap fun p=>es[p]?).map (·.2))[i]?)=some v) (fun i h=>ItS h I (.ref T) i a es.size ep∧RawS h a es ep t∧h.get? T=some { cls:=.type "tuple",data:=.seq (ps.map fun (i:Nat)=>Value.int i 0).toArray }) where
 sub:=fun b hb=>by simp at hb;simp [hb]
 frame:=fun _ _ _ st hk=>⟨st.1.at fun o e=>hk I (by simp) o e,st.2.1.at fun o e=>hk a (by simp) o e,hk T (by simp) _ st.2.2⟩
 item:=fun i s Q E hi st hQ=>by
  have pl:ps.length=es.size:=by rw [hp.length_eq,zbs6]
  refine zab5 st.1 st.2.1 hh hp st.2.2 (fun p v h' e1 e2 it sb=>?_) fun z=>by lia
  refine hQ _ h' s.toks ?_ ⟨it,st.2.1.at fun o g=>sb.extBut a o ne g,sb.extBut T _ nT st.2.2⟩ fun b o hb g=>sb.extBut b o (fun z=>hb (by simp [z])) g
  have al:∀(qs:List Nat),(∀q∈qs,q<es.size)→∀i:Nat,((qs.filterMap fun p=>es[p]?).map (fun (x:Int×Value)=>x.2))[i]?=(qs[i]?).bind fun (p:Nat)=>(es[p]?).map (fun (x:Int×Value)=>x.2):=by
   intro qs
   induction qs with
   |nil=>intro _ i;simp
   |cons q qs ih =>
    intro hq i
    have q1:=hq q (zbk2 ..)
    rw [zbz0 (b:=es[q]) (zbm7 q1)]
    cases i with
    |zero=>simp [q1]
    |succ i=>simpa using ih (fun z hz=>hq z (zbj9 _ hz)) i
  rw [al ps (fun q hq=>zbq9.mp (hp.mem_iff.mp hq)) i,e1]
  exact e2
 done:=fun s Q E st hQ=>by
  have pl:ps.length=es.size:=by rw [hp.length_eq,zbs6]
  refine zab5 st.1 st.2.1 hh hp st.2.2 (fun p v h' e1 e2 it sb=>?_) fun z h' x=>hQ h' s.toks fun b o hb g=>x b o (fun z=>hb (by simp [z])) g
  rw [zbr8 (by lia)]at e1
  cases e1
 self:=fun _ _ _ _ st hQ=>zac9 st.1 hQ
theorem hint_set {r:Addr}{Q:Bool→zbk8→Prop} (hT:s.TypeIs (.ref r) "set") (h:Q false s):wpAny (model prog w) A (Builtin.List.listLengthHint (.ref r)) Q E s:=by
 unfold Builtin.List.listLengthHint
 refine zbj8 (wpAny_specialOf hT PySem.F.slot_set_len.lookup ?_)
 generalize hid:("set.__len__":String)=id0
 wp_delta
 rw [show splitId id0=some ("set", "__len__") from by subst hid;decide +kernel]
 subst hid
 refine zbj8 (wpAny_isInstance (T := "set") (b:=true) hT sub_set_self ?_)
 refine wpAny_ite_split (fun z=>absurd z (by decide)) fun _=>wpAny_ite_split (fun _=>?_) fun z=>absurd (by decide +kernel) z
 exact zbj8 (wpAny_typeOf hT (zbk6 h))
end
end TS
namespace TS
section
variable {prog:Program}{w:World}{A:Around}{E:Value→zbk8→Prop}{s:zbk8}
theorem iter_any (hh:A.handled=none) {a:Addr}{es:Array (Int×Value)}{ep:Nat}{t:SetTable}{Q:Value→zbk8→Prop} (x:RawS s.heap a es ep t) (hz:es.size≤100000) (gt:zn5 (!txt w) t)
  (q:∀(I:Addr) (fp:List Addr) (L:List Value) (St:Nat→Heap→Prop) (h1:Heap) d,L.Perm (es.toList.map (·.2))→Walks prog w A I fp [I] es.size (fun i v=>L[i]?=some v) St→St 0 h1→(∀b∈fp,b=a∨s.heap.objs.size≤b)→s.heap.objs.size≤I →
   (∀b o,s.heap.get? b=some o→h1.get? b=some o)→Q (.ref I) { s with heap:=h1,drawn:=d }):wpAny (model prog w) A (pyIter (.ref a)) Q E s:=by
 have ha:a<s.heap.objs.size:=by obtain⟨o,g,_⟩:=x;exact zbl0 g
 have hf:t.place.size=es.size:=by
  obtain⟨o,g,r,d,hf⟩:=x
  simp only [SetTable.fits,zbk7,beq_iff_eq]at hf
  exact hf.1
 refine iter_set x hz (fun hc=>?_) fun ps d hc hp=>?_
 ·have x1:RawS (s.heap.push { cls:=.type "set_iterator",data:=.fields #[.int 0 0,.int 0 0,.ref a,.int es.size 0,.int ep 0] }) a es ep t:=x.at fun o e=>zbk0 _ e
  have i1:ItS (s.heap.push { cls:=.type "set_iterator",data:=.fields #[.int 0 0,.int 0 0,.ref a,.int es.size 0,.int ep 0] }) s.heap.objs.size (.int 0 0) 0 a es.size ep:=⟨_,zbl2 _ rfl,rfl,rfl⟩
  have fpk:∀b∈[s.heap.objs.size,a],b=a∨s.heap.objs.size≤b:=fun b hb=>by
   simp only [zbk5,zbp0,or_false]at hb
   rcases hb with rfl | rfl
   ·exact .inr (zbl3 _)
   ·exact .inl rfl
  cases hw:txt w with
  |true=>exact q _ _ _ _ _ s.drawn ((zx4 _ es).map _) (zay1 hh _ a (zbn1 ha) es ep t hw) ⟨i1,x1⟩ fpk (zbl3 _) fun b o e=>zbk0 _ e
  |false =>
   rw [hw]at hc gt
   have hd:(!t.plain&&decide (es.size > 1))=false:=by simpa using hc
   have hu:Up t.place:=by
    cases hp:t.plain with
    |true=>exact (gt.2 hp).1
    |false =>
     rw [hp]at hd
     have : ¬ es.size > 1:=by simpa using hd
     unfold Up
     have l:t.place.toList.length≤1:=by simp;lia
     exact zar6 l
   exact q _ _ _ _ _ s.drawn (List.Perm.refl _) (walk_up hh _ a (zbn1 ha) es ep t hw hd gt.1 hu hf) ⟨⟨0,bel_zero hu,i1⟩,x1⟩ fpk (zbl3 _) fun b o e=>zbk0 _ e
 ·have sz:(s.heap.push { cls:=.type "tuple",data:=.seq (ps.map fun (i:Nat)=>Value.int i 0).toArray }).objs.size=s.heap.objs.size+1:=zbs4 ..
  have g2:((s.heap.push { cls:=.type "tuple",data:=.seq (ps.map fun (i:Nat)=>Value.int i 0).toArray }).push { cls:=.type "set_iterator",data:=.fields #[.ref s.heap.objs.size,.int 0 0,.ref a,.int es.size 0,.int ep 0] }).get? (s.heap.objs.size+1)=some { cls:=.type "set_iterator",data:=.fields #[.ref s.heap.objs.size,.int 0 0,.ref a,.int es.size 0,.int ep 0] }:=by
   rw [← sz];exact zbl2 _ rfl
  refine q _ _ _ _ _ d ((zax1 es hp).map _) (zau2 hh (s.heap.objs.size+1) a s.heap.objs.size (zbn1 (zbr4 ha)) (zbn1 (zbu6 _)) es ep t hp) ⟨⟨_,g2,rfl,rfl⟩,x.at fun o e=>zbk0 _ (zbk0 _ e),zbk0 _ (zbl2 _ rfl)⟩ (fun b hb=>?_) (zbw3 _) fun b o e=>zbk0 _ (zbk0 _ e)
  simp only [zbk5,zbp0,or_false]at hb
  rcases hb with rfl | rfl | rfl
  ·exact .inr (zbw3 _)
  ·exact .inl rfl
  ·exact .inr (zbl3 _)
theorem ext_set {R:Result→zbk8→Prop} (hh:A.handled=none) {a:Addr}{es:Array (Int×Value)}{ep:Nat}{t:SetTable} (x:RawS s.heap a es ep t) (hz:es.size≤100000) (gt:zn5 (!txt w) t) (S:Addr) (res:Value) (c₀:Nat) (hS:s.heap.get? S=some { cls:=.type "list",data:=.seq #[] c₀ })
  (hR:∀h' d tk acc c (L:List Value),L.Perm (es.toList.map (·.2))→(∀b o,b≠S→s.heap.get? b=some o→h'.get? b=some o)→h'.get? S=some { cls:=.type "list",dict:=none,data:=.seq acc c,slots := #[] }→acc.toList=L→R (.ok (.ret res)) { s with heap:=h',drawn:=d,toks:=tk }) :
  wpAny (model prog w) A.in1 (Builtin.List.listExtendWith (.ref S) (.ref a) res) (fun fin s'=>match fin with | .done f=>R (.ok f) s' | .again c'=>c'.quiet=true∧codeAny (model prog w) A c' R s') (fun e s'=>R (.error e) s') s:=by
 have Sa:S≠a:=fun e=>by
  obtain⟨o,g,r,_⟩:=x
  rw [e,g]at hS
  have:o.cls=.type "list":=by rw [Option.some.inj hS]
  rw [r.1]at this
  exact absurd this (by decide +kernel)
 have Sl:S<s.heap.objs.size:=zbl0 hS
 unfold Builtin.List.listExtendWith
 refine zbj8 (wpAny_typeOf (T := "set") x.ty ?_)
 have h1:Builtin.List.listSameRef (.ref S) (.ref a)=false:=by simp [Builtin.List.listSameRef,Sa]
 simp only [h1,show (Value.type "set" == Value.type "list")=false by decide,show (Value.type "set" == Value.type "tuple")=false by decide,zca6,zbm5,if_false]
 refine zbj8 (iter_any (A:=A.in1) hh x hz gt fun I fp L St h1 d pm W st fpk hI hk=>?_)
 have Lz:L.length=es.size:=by have:=pm.length_eq;simpa using this
 have SI:S≠I:=zbn1 (zbm4 Sl hI)
 have nS:S∉fp:=fun z=>(fpk S z).elim Sa fun w=>absurd Sl (Nat.not_lt.mpr w)
 have x1:RawS h1 a es ep t:=x.at fun o e=>hk a o e
 refine zbj8 (wpAny_holding (hint_set (RawS.ty (s:={ s with heap:=h1,drawn:=d }) x1) ?_))
 have key:∀(h:Heap) (c₁ tk:Nat),St 0 h→(∀b o,b≠S→s.heap.get? b=some o→h.get? b=some o)→h.get? S=some { cls:=.type "list",data:=.seq #[] c₁ } →
   codeAny (model prog w) A (.builtin "list.extend.loop" ⟨[.ref S,.ref I,res],[]⟩) R { s with heap:=h,drawn:=d,toks:=tk }:=by
  intro h c₁ tk st' hk' g1
  refine codeAny_extend_loopS W.toS (by rw [sizeLine_eq];lia) S nS res es.size 0 _ #[] c₁ rfl (zbq5 _) st' g1 (ItemsOf.nil _) fun s' acc' c' hm hS' hacc=>?_
  rw [Moved.eq_with hm]
  refine hR s'.heap d s'.toks acc' c' L pm (fun b o hb e=>hm.heap b o (fun hmem=>?_) (hk' b o hb e)) hS' ?_
  ·rcases zbk5.mp hmem with e' |hmem
   ·exact hb e'
   ·exact absurd (zbl0 e) (by rw [zbm2.mp hmem];exact Nat.not_lt.mpr hI)
  ·obtain⟨a1,a2⟩:=hacc
   refine zbw4 (by simp;lia) fun i u v=>?_
   have:L[i]?=some acc'[i]:=a2 i acc'[i] (by simp at u;simp [u])
   rw [zbk4 v]at this
   simpa using (Option.some.inj this).symm
 refine wpAny_ite_split (fun _=>?_) (fun _=>zbk6 ⟨plainId_quiet F.plain_extend_loop _,key h1 c₀ _ st (fun b o _ e=>hk b o e) (hk S _ hS)⟩)
 have g1:=hk S _ hS
 refine zbj8 (wpAny_rule (zbj8 ?_))
 show wpAny _ _ (updateSeq S (·.push .none) >>= fun _=>updateSeq S (·.pop)) _ _ _
 refine zbj8 (wpAny_updateSeq g1 rfl ?_)
 have g2:=zbo4 (Obj.mapSeq (·.push Value.none)) g1 rfl
 refine wpAny_updateSeq (hz:=by seq_fits) g2 rfl ?_
 have g3:=zbo4 (Obj.mapSeq (·.pop)) g2 rfl
 have ot:∀ {b:Addr}{o:Obj},b≠S→h1.get? b=some o→((h1.update S (Obj.mapSeq (·.push Value.none))).update S (Obj.mapSeq (·.pop))).get? b=some o:=fun {b o} hb e=>(zbn5 _ _ (Ne.symm hb)).trans ((zbn5 _ _ (Ne.symm hb)).trans e)
 exact zbk6 ⟨plainId_quiet F.plain_extend_loop _,key _ _ _ (W.frame 0 _ _ st fun b hb o e=>ot (fun z=>nS (z ▸ hb)) e) (fun b o hb e=>ot hb (hk b o e)) g3⟩
theorem zao5 (hh:A.handled=none) {a:Addr}{es:Array (Int×Value)}{ep:Nat}{t:SetTable} (x:RawS s.heap a es ep t) (hz:es.size≤100000) (gt:zn5 (!txt w) t) {R:List Value→zbk8→Prop}
  (h:∀(h':Heap) d (tk:Nat) (us:List Value),(∀b o,s.heap.get? b=some o→h'.get? b=some o)→s.heap.objs.size≤h'.objs.size→us.Perm (es.toList.map (·.2))→R us { s with heap:=h',drawn:=d,toks:=tk }) :
  wpAny (model prog w) A (collect (.ref a)) R E s:=by
 unfold collect
 refine zbj8 (wpAny_runValue (codeAny_builtin entry_proto_collect' ?_))
 rw [Around.under_plainId zbx0 _]
 show wpAny _ A.in1 (newList [] >>= fun l=>again (.builtin "list.__iadd__" ⟨[l,.ref a],[]⟩)) _ _ s
 refine zbj8 (wpAny_newObj_type ?_)
 refine zbk6 ⟨plainId_quiet zbs9 _,codeAny_builtin entry_list_iadd' ?_⟩
 rw [Around.under_plainId zbs9 _]
 have g0:(s.heap.push { cls:=.type "list",data:=.seq ([]:List Value).toArray }).get? s.heap.objs.size=some { cls:=.type "list",data:=.seq #[] }:=zbl2 _ rfl
 have key:=ext_set (A:=A) (s:={ s with heap:=s.heap.push { cls:=.type "list",data:=.seq ([]:List Value).toArray } }) (prog:=prog) (w:=w)
  (R:=fun (q:Result) (s':zbk8) => ∃(h':Heap) (d:Drawn) (tk:Nat) (acc:Array Value) (c:Nat),q=.ok (.ret (.ref s.heap.objs.size))∧s'={ s with heap:=h',drawn:=d,toks:=tk } ∧
   (∀b o,s.heap.get? b=some o→h'.get? b=some o)∧s.heap.objs.size≤h'.objs.size∧h'.get? s.heap.objs.size=some { cls:=.type "list",dict:=none,data:=.seq acc c,slots := #[] }∧acc.toList.Perm (es.toList.map (·.2)))
  hh (x.at fun o e=>zbk0 _ e) hz gt s.heap.objs.size (.ref s.heap.objs.size) 0 g0
  (fun h' d tk acc c L pm hk gS ea=>⟨h',d,tk,acc,c,rfl,rfl,fun b o e=>hk b o (zbn1 (zbl0 e)) (zbk0 _ e),zbv1 (zbl0 gS),gS,by rw [ea];exact pm⟩)
 show wpAny _ A.in1 (Builtin.List.listExtendWith (.ref s.heap.objs.size) (.ref a) (.ref s.heap.objs.size)) _ _ _
 refine wpAny_mono key (fun fin s' y=>?_) fun e s' y=>?_
 ·cases fin with
  |done f =>
   obtain⟨h',d,tk,acc,c,e,rfl,hk,hz',gS,pm⟩:=y
   cases e
   show wpAny _ A (load s.heap.objs.size >>= _) _ _ _
   exact zbj8 (wpAny_load gS (zbk6 (h h' d tk acc.toList hk hz' pm)))
  |again c₁ =>
   refine⟨y.1,codeAny_mono y.2 fun q s₂ z=>?_⟩
   obtain⟨h',d,tk,acc,c,rfl,rfl,hk,hz',gS,pm⟩:=z
   show wpAny _ A (load s.heap.objs.size >>= _) _ _ _
   exact zbj8 (wpAny_load gS (zbk6 (h h' d tk acc.toList hk hz' pm)))
 ·obtain⟨_,_,_,_,_,e',_⟩:=y
  cases e'
theorem zag5 {u:Value}{Q:Value→zbk8→Prop}{P:List Value→Prop}
  (col:∀R:List Value→zbk8→Prop,(∀(h':Heap) d (tk:Nat) (us:List Value),(∀b o,s.heap.get? b=some o→h'.get? b=some o)→s.heap.objs.size≤h'.objs.size→P us→us.length≤100000→R us { s with heap:=h',drawn:=d,toks:=tk })→wpAny (model prog w) A.in1 (collect u) R E s)
  (srt:∀(h':Heap) d (tk:Nat) (us:List Value),(∀b o,s.heap.get? b=some o→h'.get? b=some o)→s.heap.objs.size≤h'.objs.size→P us→us.length≤100000 →
   wpAny (model prog w) A.in1.in1 (Builtin.«list.sort» ⟨[.ref h'.objs.size],[]⟩) (fun fin s'=>fin=.done (.ret .none)∧Q (.ref h'.objs.size) s') E { s with heap:=h'.push (seqObj "list" us.toArray 0),drawn:=d,toks:=tk }) :
  wpAny (model prog w) A (call (.builtin "sorted") [u]) Q E s:=by
 refine call_function_entry_kw kind_sorted plain_sorted entry_sorted (args_sorted1 _) ?_
 unfold Builtin.«sorted»
 refine zbj8 (m:=checkCount "sorted" 1 1 _) (zbk6 (zbj8 (col _ fun h' d tk us hk hz hp hl=>?_)))
 refine zbj8 (wpAny_newList ?_ (by rw [sizeLine_eq];lia))
 have hoL:(h'.push (seqObj "list" us.toArray 0)).get? h'.objs.size=some (seqObj "list" us.toArray 0):=zbl2 _ rfl
 refine zbj8 (wpAny_holding (wpAny_call_entry_kw slot_list_sort ⟨_,hoL,rfl⟩ entry_list_sort ?_ (args_list_sort _)))
 refine wpAny_mono (srt h' d tk us hk hz hp hl) (fun fin s' hq=>?_) fun _ _ e=>e
 obtain⟨rfl,hq⟩:=hq
 exact⟨_,rfl,zbk6 ⟨_,rfl,hq⟩⟩
end
end TS
namespace TS
theorem zbe1 {prog:Program}{w:World}:∀ {es:List (Int×Value)},ElemsOf (intKind prog w) es→∃ms:List Int,IntsAre (es.map (·.2)) ms∧∀k,(∃e∈es,(intKind prog w).is k e.2=true)↔k∈ms
 |[],_=>⟨[],.nil,fun k=>by simp⟩
 |e::es,h=>by
  obtain⟨ms,i,m⟩:=zbe1 (es:=es) h.tail
  obtain⟨⟨n,hn,_⟩,_⟩:=h.head
  obtain⟨t,ht⟩:=Value.isInt_shape hn
  refine⟨n::ms,by rw [zbl8,ht];exact .cons n t i,fun k=>?_⟩
  constructor
  ·rintro ⟨e',m',p⟩
   rcases zbk5.mp m' with rfl | m'
   ·rw [(intKind prog w).inj _ _ _ p hn];exact zbk2 ..
   ·exact zbj9 _ ((m k).mp ⟨e',m',p⟩)
  ·intro hk
   rcases zbk5.mp hk with rfl | hk
   ·exact⟨e,zbk2 ..,hn⟩
   ·obtain⟨e',m',p⟩:=(m k).mpr hk
    exact⟨e',zbj9 _ m',p⟩
theorem zbe0 {us vs:List Value} (h:us.Perm vs):∀ {ms:List Int},IntsAre vs ms→∃ns:List Int,IntsAre us ns∧ns.Perm ms:=by
 induction h with
 |nil=>intro ms i;cases i;exact⟨[],.nil,List.Perm.refl _⟩
 |cons x _ ih =>
  intro ms i
  cases i with
  |cons n t i =>
   obtain⟨ns,a,b⟩:=ih i
   exact⟨n::ns,.cons n t a,List.Perm.cons n b⟩
 |swap x y l =>
  intro ms i
  cases i with
  |cons n t i =>
   cases i with
   |cons m u i=>exact⟨m::n::_,.cons m u (.cons n t i),List.Perm.swap ..⟩
 |trans _ _ a b =>
  intro ms i
  obtain⟨ns,x,p⟩:=b i
  obtain⟨ns',x',p'⟩:=a x
  exact⟨ns',x',p'.trans p⟩
theorem zah5:∀ {l m:List Int},l.Nodup→(∀x∈l,x∈m)→m.length≤l.length→m.Perm l
 |[],m,_,_,h=>by cases zbp2.mp (Nat.le_zero.mp h);exact List.Perm.refl _
 |x::l,m,nd,hs,h=>by
  have c:=zbm9.mp nd
  have xm:=hs x (zbk2 ..)
  have pe:=List.perm_cons_erase xm
  refine pe.trans (List.Perm.cons x (zah5 c.2 (fun y hy=>?_) ?_))
  ·have:y≠x:=fun z=>c.1 (z ▸ hy)
   exact (zcb5 this).mpr (hs y (zbj9 _ hy))
  ·rw [zbz1 xm];simp only [zbo6]at h;lia
theorem ddp_nodup (ns:List Int):(DL.ddp ns).Nodup:=by
 have:∀(l acc:List Int),acc.Nodup→(l.foldl step_dedup acc).Nodup:=by
  intro l
  induction l with
  |nil=>intro acc h;exact h
  |cons x l ih =>
   intro acc h
   simp only [zbt7]
   refine ih _ ?_
   unfold step_dedup
   split
   ·exact h
   ·rename_i c
    refine zbm8.mpr ⟨h,by simp,fun a ha b hb=>?_⟩
    rw [zbm2]at hb
    subst hb
    intro z
    subst z
    exact c (zbw6.mpr ⟨a,ha,by simp⟩)
 exact this ns [] zbs3
end TS
namespace L2
open PySem.Spec TS
theorem Inv.drew {X:Cx}{pins:List (Addr×Obj)}{s:zbk8}{σ:L2.St}{H:Hp} (I:Inv X pins σ H s) (d:Drawn):Inv X pins σ H { s with drawn:=d } :=
 ⟨I.ok,I.os,I.bare,I.base,I.loc,I.cell,I.free,I.freeC,I.pin,I.hok,I.len⟩
section
variable {X:Cx}{a:Expr}{pos pos2:Pos}{te:TE}
noncomputable def tSortSet (K:zbj6) (te:TE):TE:=fun σ H Q=>te σ H fun v H1 => ∃(p:Addr) (ns:List Int),v=.ref p∧SqL K H1 p (ns.map V.int)∧ns.length≤3000∧∀l,H1 l=none→Q (.ref l) (upd H1 l (.lst ((DL.sortI' (DL.ddp ns)).map V.int)))
theorem zav7 {p1 p2:Pos} (hc:X.calm=true) (hg1:Gl X "sorted") (hm1:X.mg "sorted"=none) (hg2:Gl X "set") (hm2:X.mg "set"=none) (ha:PE X a te) (hst:zbm0 [a] X.env=[(false,eval a X.env)]:=by rfl) (hst2:zbm0 [.Call (.Name "set" p2) [a] [] pos2] X.env=[(false,eval (.Call (.Name "set" p2) [a] [] pos2) X.env)]:=by rfl)
  (hpl:(zbt6 pos2 (zbm0 [] X.env)).any (·.1)=false:=by rfl) (hpl2:(zbt6 pos (zbm0 [] X.env)).any (·.1)=false:=by rfl) :
  PE X (.Call (.Name "sorted" p1) [.Call (.Name "set" p2) [a] [] pos2] [] pos) (tSortSet X.K te):=by
 intro pins s σ H Q I h
 refine wpAny_Call_Name_kw (zn7 I hg1 hm1 boot_sorted ?_ (by decide) (by decide))
 refine PyProof.Rows.callWith_builtin1 ?_ hst2 hpl2
 rw [hst2]
 show wpAny _ _ (spliced ((false,eval (.Call (.Name "set" p2) [a] [] pos2) X.env)::zbt6 pos (zbm0 [] X.env))) _ _ s
 refine Calls.spliced_cons (wpAny_Call_Name_kw (zn7 I hg2 hm2 DL.bt_set ?_ (by decide) (by decide)))
 refine PyProof.Rows.callWith_type1 ?_ hst hpl
 rw [hst]
 show wpAny _ _ (spliced ((false,eval a X.env)::zbt6 pos2 (zbm0 [] X.env))) _ _ s
 refine Calls.spliced_cons (thn (ha pins s σ H _ I h) fun u s1 ⟨x,H1,I1,r1,q1⟩=>Calls.spliced_nil ?_)
 obtain⟨p,ns,rfl,hs,hz,q⟩:=q1
 cases r1
 obtain⟨its,rv,pl,_⟩:=I1.list hs
 have hi:IntsAre its ns:=zq1 rv
 have hl:=hi.length
 have e0:its.toArray.size=ns.length:=by rw [zbl6];exact hl
 refine zbi1 (ns:=ns) (I1.ok.hd hc) (DL.PlainL.isL pl) (by simpa using hi) (by rw [e0];unfold scanBound;lia) fun h2 tk G hk=>?_
 rw [e0,DL.first_met]at G
 refine Calls.spliced_nil ?_
 have I2:Inv X pins σ H1 { s1 with heap:=h2,toks:=tk }:=I1.kept fun b o e=>hk b o (zbl0 e) e
 obtain⟨o,es,ep,t,g,ex,d,he,hm,hb,hf,hn,gt⟩:=G
 obtain⟨ms,im,mm⟩:=zbe1 he
 have ml:ms.length=es.size:=by have:=im.length;simpa using this.symm
 have pm:ms.Perm (DL.ddp ns):=zah5 (ddp_nodup ns) (fun x hx=>(mm x).mp ((hm x).mp (zbw6.mpr ⟨x,hx,by simp⟩))) (by lia)
 have dl:=DL.ddp_le ns
 refine zag5 (s:={ s1 with heap:=h2,toks:=tk }) (P:=fun us=>us.Perm (es.toList.map (·.2))) (fun R hR=>?_) (fun h' dr tk' us hk' hz' hu hlen=>?_)
 ·refine zao5 (A:=X.A.in1) (s:={ s1 with heap:=h2,toks:=tk }) (show X.A.in1.handled=none from I1.ok.hd hc) (⟨o,g,ex,d,hf⟩:RawS h2 s1.heap.objs.size es ep t) (by lia) gt fun h' dr tk' us hk' hz' hu=>hR h' dr tk' us hk' hz' hu ?_
  have:=hu.length_eq
  simp at this
  lia
 ·obtain⟨ks,ik,pk⟩:=zbe0 hu im
  have es':DL.sortI' ks=DL.sortI' (DL.ddp ns):=DL.sorted_uniq (((DL.sortI'_perm ks).trans (pk.trans pm)).trans (DL.sortI'_perm _).symm) (DL.sortI'_sorted ks) (DL.sortI'_sorted _)
  refine ls_plain (zbl2 _ rfl) ik hlen fun out ho=>⟨rfl,?_⟩
  have fr:h2.objs.size≤h'.objs.size:=hz'
  have g0:(h'.push (seqObj "list" us.toArray 0)).get? h'.objs.size=some (seqObj "list" us.toArray 0):=zbl2 _ rfl
  obtain⟨e1,g1⟩:∃e1,((h'.push (seqObj "list" us.toArray 0)).update h'.objs.size (Obj.mapSeq fun _=>(#[]:Array Value))).get? h'.objs.size=some (seqObj "list" #[] e1):=⟨_,get?_update_seq g0 fun _ => #[]⟩
  obtain⟨k,g2⟩:∃k,(sortedHeap (h'.push (seqObj "list" us.toArray 0)) h'.objs.size us out).get? h'.objs.size=some (seqObj "list" out k):=⟨_,get?_update_seq (zbk0 _ (zbk0 _ g1)) fun _=>out⟩
  rw [es']at ho
  refine⟨.ref _,_,(I2.drew dr).laid (o:=HO.lst ((DL.sortI' (DL.ddp ns)).map V.int)) (fun b o e=>?_) fr ⟨?_,out.toList,k,zx0 ho,by simpa [seqObj] using g2⟩,rfl,q _ (I2.hok.fresh fr)⟩
  ·have e2:=hk' b o e
   have nb:h'.objs.size≠b:=zbu0 (zbl0 e2)
   unfold sortedHeap
   exact (zbn5 _ _ nb).trans (zbk0 _ (zbk0 _ ((zbn5 _ _ nb).trans (zbk0 _ e2))))
  ·refine DL.le_line ?_
   rw [zbm6,(DL.sortI'_perm _).length_eq];lia
end
end L2
namespace DL
open PySem.Spec L2 TS
section
variable {X:Cx}{F:List Addr}{a:Expr}{fa:DE}{pos pos2:Pos}
noncomputable def zt4:List Ev→Option Ev:=fun rs=>match rs with
 |[r]=>(match r.d with
  |.lst ds=>(zm3 ds).bind fun ns=>if ns.length≤3000 then some (.nw ((sortI' (ddp ns)).map D.int)) else none
  |_=>none)
 |_=>none
theorem zam5 {p1 p2:Pos} (hc:X.calm=true) (hg1:Gl X "sorted") (hm1:X.mg "sorted"=none) (hg2:Gl X "set") (hm2:X.mg "set"=none) (ha:PE X a (dE X.K F fa)) (hst:zbm0 [a] X.env=[(false,eval a X.env)]:=by rfl) (hst2:zbm0 [.Call (.Name "set" p2) [a] [] pos2] X.env=[(false,eval (.Call (.Name "set" p2) [a] [] pos2) X.env)]:=by rfl)
  (hpl:(zbt6 pos2 (zbm0 [] X.env)).any (·.1)=false:=by rfl) (hpl2:(zbt6 pos (zbm0 [] X.env)).any (·.1)=false:=by rfl) :
  PE X (.Call (.Name "sorted" p1) [.Call (.Name "set" p2) [a] [] pos2] [] pos) (dE X.K F (dT1 zt4 (za2 fa dNil))):=by
 refine PE.imp (zav7 hc hg1 hm1 hg2 hm2 ha hst hst2 hpl hpl2) ?_
 rintro σ H Q ⟨A,t,r,R,e,h⟩
 unfold dT1 za2 dNil at e
 cases e1:fa t with
 |none=>rw [e1]at e;cases e
 |some r1 =>
  rw [e1]at e
  simp only [zbk3]at e
  unfold zt4 at e
  simp only at e
  split at e
  case h_2=>cases e
  rename_i ds z
  cases e2:zm3 ds with
  |none=>rw [e2]at e;cases e
  |some ns =>
   rw [e2]at e
   simp only [zbk3]at e
   split at e
   case isFalse=>cases e
   rename_i hz
   cases e
   refine⟨A,t,r1,R,e1,fun x H1 gs q=>?_⟩
   have p:=q.full
   rw [z,zq0 e2]at p
   cases p with
   |@lst _ l ws h1 h2 =>
    rw [zi1 h2]at h1
    exact⟨l,ns,rfl,h1,hz,fun l2 hl2=>h _ _ (gs.trans (zd2 hl2)) ⟨l2,_,rfl,Same.free gs hl2,zc3,Reps.ints _⟩⟩
end
end DL
namespace L2
open PySem.Spec
open AutoSeq1 (wpAny_loadPart')
theorem zac5 {M:Model}{A:Around}{E:Value→zbk8→Prop}{s:zbk8}{a:Addr}{Q:Option Obj→zbk8→Prop} (h:Q (s.heap.get? a) s):wpAny M A (loadIfAlive a) Q E s:=by
 intro Γ p hp
 unfold loadIfAlive
 rw [Sem.wp_loadIfAlive]
 exact zbk6 h Γ p hp
section
variable {prog:Program}{w:World}{A:Around}{E:Value→zbk8→Prop}{s:zbk8}
theorem free_is {z TI TO:Addr}{f0:Value}{b1:Bool}{Q:Bool→zbk8→Prop} (hf:f0=.none∨∃a:Nat,f0=rawInt a) (hz:s.heap.get? z=some { cls:=.type "zip",dict:=none,data:=.fields #[f0,.bool b1,.bool false,.ref TI,.ref TO],slots := #[] })
  (h1:Q true s) (h2:∀h',(∃b,h'.get? z=some { cls:=.type "zip",dict:=none,data:=.fields #[f0,.bool b,.bool false,.ref TI,.ref TO],slots := #[] })→Heap.SameBut z s.heap h'→Q false { s with heap:=h' }) :
  wpAny (model prog w) A (Builtin.SmallTypes.ownedTupleIsFree (.ref z)) Q E s:=by
 unfold Builtin.SmallTypes.ownedTupleIsFree
 rcases hf with rfl | ⟨a,rfl⟩
 ·exact zbj8 (wpAny_field hz rfl (x:=.none) rfl (zbk6 h1))
 ·refine zbj8 (wpAny_field hz rfl (x:=rawInt a) rfl ?_)
  show wpAny _ _ (loadIfAlive _ >>= _) _ _ s
  refine zbj8 (zac5 ?_)
  cases e:s.heap.get? (Int.toNat (a:Int)) with
  |none =>
   simp only [Option.isNone_none,if_true]
   exact zbk6 h1
  |some o =>
   simp only [Option.isNone_some,zbm5,if_false]
   refine zbj8 (wpAny_field hz rfl (x:=.bool b1) rfl ?_)
   cases b1 with
   |true =>
    have:(Value.bool true != Value.bool true)=false:=by decide
    simp only [this,zbm5,if_false]
    exact zbk6 (h2 s.heap ⟨_,hz⟩ (Heap.SameBut.refl ..))
   |false =>
    have:(Value.bool false != Value.bool true)=true:=by decide
    simp only [this,if_true]
    refine zbj8 (wpAny_setField_rec hz (by simp) fun h' hz' hs'=>zbk6 (h2 h' ⟨true,hz'⟩ hs'))
end
end L2
namespace L2
open PySem.Spec
theorem vals_get:∀ {xs:List V}{us:List Value},xs.length=us.length→(∀(j:Nat) (a:V) (b:Value),xs[j]?=some a→us[j]?=some b→RelV a b)→Vals xs us
 |[],[],_,_=>.nil
 |[],_::_,h,_=>by simp at h
 |_::_,[],h,_=>by simp at h
 |x::xs,u::us,h,k=>.cons (k 0 x u rfl rfl) (vals_get (by simpa using h) fun j a b ha hb=>k (j+1) a b (by simpa using ha) (by simpa using hb))
end L2
namespace DL
open PySem.Spec L2
section
variable {X:Cx}{F:List Addr}{a b c:Expr}{es:List Expr}{fa fb fc:DE}{pos:Pos}
noncomputable def kPopE (t:Th) (i:Nat) (k:Ev):Option Out:=match t[i]?,k.d with
 |some (.own xs),.int n=>if decide (-1000000≤n∧n≤1000000) then (ixN xs.length n).bind fun q=>(xs[q]?).map fun _=>.nx (t.set i (.own (xs.eraseIdx q))) else none
 |_,_=>none
noncomputable def zbg3 (i:Nat) (f:DE):DS:=fun t=>(f t).bind (kPopE t i)
end
end DL
namespace DL
open PySem.Spec L2
theorem RepDs.part {K:zbj6}{H0 H:Hp}{xs:List D} (sc:xs.all scD=true):∀ {ds:List D}{vs:List V}{C:List Addr}{k:Nat},RepDs K H0 H ds vs C→ds[k]?=some (.lst xs) →
  ∃C1 C2 r,C=C1++r::C2∧vs[k]?=some (.ref r)∧H r=some (.lst (xs.map sV))∧∀(H01 H1:Hp) (xs':List D),xs'.all scD=true→H1 r=some (.lst (xs'.map sV))→(∀b∈C1++C2,∀o,H b=some o→H1 b=some o)→Same H0 H01→RepDs K H01 H1 (ds.set k (.lst xs')) vs (C1++r::C2)
 |_,_,_,_,.nil,e=>by simp at e
 |_,_,_,0,.cons (B:=B) (C:=C) h r,e=>by
  simp at e
  subst e
  cases h with
  |flat f q=>simp [flat]at f
  |@lst _ p vs' B' h1 h2 =>
   obtain⟨rfl,rfl⟩:=zar1 h2 sc
   refine⟨[],C,p,rfl,rfl,h1,fun H01 H1 xs' s' h' kp sm=>?_⟩
   exact .cons (B:=[p]) (C:=C) (.lst h' (zaq8 s')) (RepDs.mono sm r fun b hb o w=>kp b (by simpa using hb) o w)
 |_,_,_,k+1,.cons (B:=B) (C:=C) h r,e=>by
  obtain⟨C1,C2,q,rfl,a2,a3,a4⟩:=RepDs.part sc r (k:=k) (by simpa using e)
  refine⟨B++C1,C2,q,by simp,by simpa using a2,a3,fun H01 H1 xs' s' h' kp sm=>?_⟩
  rw [zbk9]
  exact .cons (RepD.mono sm h fun b hb o w=>kp b (by simp [hb]) o w) (a4 H01 H1 xs' s' h' (fun b hb o w=>kp b (by rcases zbk1.mp hb with z | z<;>simp [z]) o w) sm)
theorem RS.takeDp2 {K:zbj6}{F A:List Addr}{H:Hp}{t:Th}{σ:L2.St}{i:Nat}{d:D} (R:RS K F H A t σ) (e:t[i]?=some (.dp d)) :
  ∃v B A',σ[i]?=some (some v)∧RS K (B++F) H A' (t.set i .no) σ∧B.Nodup∧(∀b∈B,b∉F)∧RepD K (hide (A++F) H) H d v B∧(∀x∈A',x∈A)∧(∀x∈B,x∈A):=by
 obtain⟨v,B,A',a1,a2,a3,a4,a5,a6,a7,a8,a9⟩:=R.rel.loseDp R.nd e
 have s:Same (hide (A++F) H) (hide (A'++(B++F)) H):=zb2 H fun x hx=>by
  rcases zbk1.mp hx with z | z
  ·exact zbj7 _ (a4 x z)
  ·rcases zbk1.mp z with z | z
   ·exact zbj7 _ (a5 x z)
   ·exact zbj5 _ z
 refine⟨v,B,A',a1,⟨fun p hp=>?_,a8,fun p hp z=>?_,RSl.mono s a3 fun _ _ _ w=>w⟩,a7,fun b hb=>R.dj b (a5 b hb),a2,a4,a5⟩
 ·rcases zbk1.mp hp with z | z
  ·exact R.mu p (zbj7 _ (a4 p z))
  ·rcases zbk1.mp z with z | z
   ·exact R.mu p (zbj7 _ (a5 p z))
   ·exact R.mu p (zbj5 _ z)
 ·rcases zbk1.mp z with z | z
  ·exact a9 p hp z
  ·exact R.dj p (a4 p hp) z
theorem Reps.sc {K:zbj6}{H:Hp}:∀ {ds:List D},ds.all scD=true→Reps K H ds (ds.map sV)
 |[],_=>.nil
 |d::ds,s=>by
  simp only [zbo7,zbk7]at s
  exact .cons (sc_rep s.1) (Reps.sc s.2)
theorem RS.putRow {K:zbj6}{F A:List Addr}{H:Hp}{t:Th}{σ:L2.St}{i:Nat}{p:Addr}{xs:List D}{vs:List V} (R:RS K ([p]++F) H A t σ) (dj:p∉F) (hp:H p=some (.lst vs)) (r:Reps K (hide (A++([p]++F)) H) xs vs) (hi:i<t.length) :
  ∃A',(∀x∈A',x=p∨x∈A)∧RS K F H A' (t.set i (.own xs)) (σ.set i (some (.ref p))):=by
 obtain⟨A2,r2,sub2,nd2⟩:=RSl.setAny (s:=.own xs) (v:=.ref p) (B:=[p]) (fun q=>.own hp r q) i R.rel hi
 have sub2:∀x∈A2,x=p∨x∈A:=fun x hx=>by
  rcases sub2 x hx with z | z
  ·exact .inl (zbm2.mp z)
  ·exact .inr z
 refine⟨A2,sub2,⟨fun q hq=>?_,nd2 R.nd (by simp) (fun b hb z=>R.dj b z (zbj7 _ hb)),fun q hq=>?_,RSl.mono (zb2 H fun x hx=>?_) r2 fun _ _ _ w=>w⟩⟩
 ·rcases zbk1.mp hq with z | z
  ·rcases sub2 q z with w | w
   ·exact⟨mL vs,w ▸ hp⟩
   ·exact R.mu q (zbj7 _ w)
  ·exact R.mu q (zbj5 _ (zbj5 _ z))
 ·rcases sub2 q hq with w | w
  ·exact w ▸ dj
  ·exact fun z=>R.dj q w (zbj5 _ z)
 ·rcases zbk1.mp hx with z | z
  ·rcases sub2 x z with w | w
   ·exact zbj5 _ (by simp [w])
   ·exact zbj7 _ w
  ·exact zbj5 _ (zbj5 _ z)
theorem Gr.beside {A A' P:List Addr}{H H':Hp} (g:Gr A H A' H') (h:∀b∈P,b∉A∧H b≠none):Gr (A++P) H (A'++P) H' where
 kp:=fun b o n e=>g.kp b o (fun z=>n (zbj7 _ z)) e
 al:=fun b hb=>by
  rcases zbk1.mp hb with z | z
  ·exact g.al b z
  ·obtain⟨n,e⟩:=h b z
   cases q:H b with
   |none=>exact absurd q e
   |some o=>rw [g.kp b o n q];simp
 nw:=fun b hb=>by
  rcases zbk1.mp hb with z | z
  ·rcases g.nw b z with w | w
   ·exact .inl (zbj7 _ w)
   ·exact .inr w
  ·exact .inl (zbj5 _ z)
structure Lent (K:zbj6) (F:List Addr) (ir jx:Nat) (ds:List D) (k:Nat) (A0:List Addr) (Hb:Hp) (p r:Addr) (C1 C2:List Addr) (A:List Addr) (H:Hp) (σ:L2.St):Prop where
 nd:(p ::(C1++r::C2)).Nodup
 dj:∀b∈p ::(C1++r::C2),b∉F
 s1:σ[ir]?=some (some (.ref p))
 s2:σ[jx]?=some (some (.ref r))
 gr:Gr A0 Hb (A++p ::(C1++C2)) H
 kp:∀b∈p ::(C1++C2),∀o,Hb b=some o→H b=some o
 re:∀(H01 H1:Hp) (xs':List D),xs'.all scD=true→H1 r=some (.lst (xs'.map sV))→(∀b∈p ::(C1++C2),∀o,Hb b=some o→H1 b=some o)→Same (hide (A0++F) Hb) H01→RepD K H01 H1 (.lst (ds.set k (.lst xs'))) (.ref p) (p ::(C1++r::C2))
noncomputable def dB (K:zbj6) (F:List Addr) (ir jx:Nat) (G:List D→Nat→DS):TS:=fun E σ H => ∃ds k A0 Hb p r C1 C2 A t o,RS K ((p ::(C1++C2))++F) H A t σ∧Lent K F ir jx ds k A0 Hb p r C1 C2 A H σ∧G ds k t=some o∧Post K F A0 Hb E o
noncomputable def zw3 (g1 g2:DS):DS:=fun t=>match g1 t with
 |some (.nx t')=>g2 t'
 |_=>none
noncomputable def zbg4 (ir jx:Nat) (ds:List D) (k:Nat) (g:DS):DS:=fun t=>match t[jx]? with
 |some (.own xs)=>if xs.all scD&&decide (ir<t.length) then g ((t.set jx .no).set ir (.dp (.lst (ds.set k (.lst xs))))) else none
 |_=>none
noncomputable def zao3 (ir jx:Nat) (fb:DE) (G:List D→Nat→DS):DS:=fun t=>match t[ir]? with
 |some (.dp (.lst ds))=>(fb t).bind fun r=>match r.d with
  |.int i=>(ixN ds.length i).bind fun k=>match ds[k]? with
   |some (.lst xs)=>if xs.all scD&&decide (ir≠jx∧jx<t.length) then G ds k ((t.set ir .no).set jx (.own xs)) else none
   |_=>none
  |_=>none
 |_=>none
section
variable {X:Cx}{F:List Addr}{I:List Nat}{a b c:Expr}{es:List Expr}{fa fb fc:DE}{g g1 g2:DS}{ft fu:DT}{pos:Pos}{st:Stmt}{rest:List Stmt}{ir jx:Nat}{G:List D→Nat→DS}
theorem pp_nil:PSs X [] (dP X.K F I zk6):=by
 refine PSs.imp zam0 ?_
 rintro E σ H ⟨A,t,t2,R,e,h⟩
 cases e
 exact h σ H A (Gr.refl R.mu.left) R fun _ _=>rfl
theorem zt3 (h1:∀F',PS X st (dP X.K F' [ir,jx] g1)) (h2:PSs X rest (dB X.K F ir jx G)):PSs X (st::rest) (dB X.K F ir jx fun ds k=>zw3 g1 (G ds k)):=by
 have h1':PS X st (fun E σ H => ∃F',dP X.K F' [ir,jx] g1 E σ H):=fun pins s σ H E I ⟨F',h⟩=>h1 F' pins s σ H E I h
 refine PSs.imp (zp7 h1' h2) ?_
 rintro E σ H ⟨ds,k,A0,Hb,p,r,C1,C2,A,t,o,R,L,e,h⟩
 unfold zw3 at e
 dsimp only at e
 split at e
 case h_2=>cases e
 rename_i t' e1
 refine⟨(p ::(C1++C2))++F,A,t,t',R,e1,fun σ' H' A' g' R' n'=>⟨ds,k,A0,Hb,p,r,C1,C2,A',t',o,R',?_,e,h⟩⟩
 have out:∀b∈p ::(C1++C2),b∉A:=fun b hb z=>R.dj b z (zbj7 _ hb)
 refine⟨L.nd,L.dj,(n' ir (by simp)).trans L.s1,(n' jx (by simp)).trans L.s2,L.gr.trans (g'.beside fun b hb=>⟨out b hb,?_⟩),fun b hb o w=>g'.kp b o (out b hb) (L.kp b hb o w),L.re⟩
 obtain⟨o,w⟩:=R.mu b (zbj5 _ (zbj7 _ hb))
 rw [w];simp
theorem lent_end (h1:PSs X rest (dS X.K F g)):PSs X rest (dB X.K F ir jx fun ds k=>zbg4 ir jx ds k g):=by
 refine PSs.imp h1 ?_
 rintro E σ H ⟨ds,k,A0,Hb,p,r,C1,C2,A,t,o,R,L,e,h⟩
 unfold zbg4 at e
 dsimp only at e
 split at e
 case h_2=>cases e
 rename_i xs z
 split at e
 case isFalse=>cases e
 rename_i ok
 simp only [zbk7,decide_eq_true_eq]at ok
 obtain⟨r',vs,A1,a1,R1,a3,a4,a5,a6,a7⟩:=R.takeOwn z
 rw [L.s2]at a1
 cases a1
 have eB:∀b,b∈p ::(C1++r::C2)↔b=r∨b∈p ::(C1++C2):=fun b=>by
  simp only [zbk5,zbk1]
  constructor
  ·rintro (h | h | h | h)<;>simp [h]
  ·rintro (h | h | h | h)<;>simp [h]
 have R2:RS X.K ((p ::(C1++r::C2))++F) H A1 (t.set jx .no) σ:=R1.less fun b hb=>by
  rcases zbk1.mp hb with w | w
  ·rcases (eB b).mp w with w | w
   ·exact zbj7 _ (by simp [w])
   ·exact zbj5 _ (zbj7 _ w)
  ·exact zbj5 _ (zbj5 _ w)
 have sm:Same (hide (A0++F) Hb) (hide (A1++((p ::(C1++r::C2))++F)) H):=fun b o w=>by
  obtain⟨n,w⟩:=zn3 w
  have n0:b∉A0:=fun z=>n (zbj7 _ z)
  refine zc4 (L.gr.kp b o n0 w) fun z=>?_
  have no:∀c,c=b→c∈A++p ::(C1++C2)→False:=fun c hc m=>by
   subst hc
   rcases L.gr.nw c m with q | q
   ·exact n0 q
   ·rw [q]at w;cases w
  rcases zbk1.mp z with z | z
  ·exact no b rfl (zbj7 _ (a6 b z))
  ·rcases zbk1.mp z with z | z
   ·rcases (eB b).mp z with q | q
    ·exact no b rfl (zbj7 _ (q ▸ a7))
    ·exact no b rfl (zbj5 _ q)
   ·exact n (zbj5 _ z)
 have ev:=zba1 a5 ok.1
 subst ev
 have RD:=L.re (hide (A1++((p ::(C1++r::C2))++F)) H) H xs ok.1 a4 L.kp sm
 obtain⟨A2,b1,R3⟩:=R2.putOwned L.nd L.dj RD (i:=ir) (by rw [zbv5];exact ok.2)
 have es:σ.set ir (some (.ref p))=σ:=by
  apply zbz4
  intro j
  by_cases hj:ir=j
  ·subst hj
   rw [L.s1,zbr6 (by
    have:=L.s1
    rcases zbn0.mp this with ⟨w,_⟩
    exact w)]
  ·rw [zbs2 hj]
 rw [es]at R3
 refine⟨A2,_,o,R3,e,Post.back h ⟨L.gr.kp,L.gr.al,fun b hb=>?_⟩⟩
 rcases b1 b hb with w | w
 ·rcases (eB b).mp w with q | q
  ·exact L.gr.nw b (zbj7 _ (q ▸ a7))
  ·exact L.gr.nw b (zbj5 _ q)
 ·exact L.gr.nw b (zbj7 _ (a6 b w))
theorem psd_lend {x y:Str}{p0 pos' spos:Pos} (hN:X.N.Nodup) (hi:X.N[jx]?=some x) (hx:Loc X.env.scope x) (hb:PE X b (dE X.K F fb)) (hr:PSs X rest (dB X.K F ir jx G)) (hNy:X.N[ir]?=some y:=by rfl) (hv:Vis X.env.scope y:=by first | exact Or.inl rfl | exact Or.inr (Or.inl rfl) |exact Or.inr (Or.inr rfl)) (hd:(y ==("__debug__":Str))=false:=by decide)
  (hcd:(y ==("__classdict__":Str))=false:=by decide) (hpl:zap2 b:=by intro _ _;rfl) (hs:swapsWith (.Subscript (.Name y p0) b spos) (some (.Name x pos')) pos.line X.env=pure false:=by rfl) (hf:X.fn x=true∨X.env.scope.names.lookup x=some .local:=by first | exact .inl rfl | exact .inr rfl | assumption) :
  PSs X (.Assign [.Name x pos'] (.Subscript (.Name y p0) b spos) pos::rest) (dS X.K F (zao3 ir jx fb G)):=by
 refine PSs.imp (zp7 (zah1 hN hi hx (pe_ix ix_list (zr0 (i:=ir) hNy hv hd hcd) hb hpl) hs hf) hr) ?_
 rintro E σ H ⟨A,t,o,R,e,h⟩
 have h:Post X.K F A H E o:=h
 unfold zao3 at e
 split at e
 case h_2=>cases e
 rename_i ds z
 cases e1:fb t with
 |none=>rw [e1]at e;cases e
 |some rb =>
  rw [e1]at e
  simp only [zbk3]at e
  split at e
  case h_2=>cases e
  rename_i n zn
  cases e2:ixN ds.length n with
  |none=>rw [e2]at e;cases e
  |some k =>
   rw [e2]at e
   simp only [zbk3]at e
   split at e
   case h_2=>cases e
   rename_i xs zx
   split at e
   case isFalse=>cases e
   rename_i ok
   simp only [zbk7,decide_eq_true_eq]at ok
   obtain⟨sc,ne,lj⟩:=ok
   obtain⟨v0,B0,A00,c1,c2,c3,c4,c5,c6,c7⟩:=R.takeDp z
   refine⟨v0,c1,A,t,rb,R,e1,fun y0 H2 gs q=>?_⟩
   have pb:=q.full
   rw [zn]at pb
   cases zd4 pb
   obtain⟨v,B,A',d1,R1,d3,d4,d5,d6,d7⟩:=(R.grow gs).takeDp2 z
   rw [c1]at d1
   cases d1
   cases d5 with
   |flat f _=>simp [flat]at f
   |@lst _ p vs C h1 h2 =>
    obtain⟨C1,C2,r,rfl,f2,f3,f4⟩:=RepDs.part sc h2 zx
    have eB:∀b,b∈p ::(C1++r::C2)↔b=r∨b∈p ::(C1++C2):=fun b=>by
     simp only [zbk5,zbk1]
     constructor
     ·rintro (h | h | h | h)<;>simp [h]
     ·rintro (h | h | h | h)<;>simp [h]
    have vl:vs.length=ds.length:=by
     have:Reps X.K H2 ds vs:=h2.rep (zb0 _ _) fun _ _ _ w=>w
     exact this.length
    refine⟨p,vs,n,.ref r,rfl,rfl,SqL.of h1,?_,?_⟩
    ·unfold L2.atI
     rw [vl,e2]
     exact f2
    ·have rP:r∉p ::(C1++C2):=by
      have n0:=zbm9.mp d3
      have n1:=zbm8.mp n0.2
      have n2:=zbm9.mp n1.2.1
      intro w
      rcases zbk5.mp w with w | w
      ·exact n0.1 (by rw [← w];simp)
      ·rcases zbk1.mp w with w | w
       ·exact n1.2.2 r w r (zbk2 ..) rfl
       ·exact n2.1 w
     have R2:RS X.K ([r]++((p ::(C1++C2))++F)) H2 A' (t.set ir .no) σ:=R1.less fun b hb=>by
      rcases zbk1.mp hb with w | w
      ·exact zbj7 _ ((eB b).mpr (.inl (zbm2.mp w)))
      ·rcases zbk1.mp w with w | w
       ·exact zbj7 _ ((eB b).mpr (.inr w))
       ·exact zbj5 _ w
     have rF:r∉(p ::(C1++C2))++F:=fun w=>by
      rcases zbk1.mp w with w | w
      ·exact rP w
      ·exact d4 r ((eB r).mpr (.inl rfl)) w
     have rx:Reps X.K (hide (A'++([r]++((p ::(C1++C2))++F))) H2) xs (xs.map sV):=Reps.sc sc
     obtain⟨A1,sub,R3⟩:=R2.putRow (i:=jx) rF f3 rx (by rw [zbv5];exact lj)
     refine⟨ds,k,A,H2,p,r,C1,C2,A1,_,o,R3,⟨d3,d4,?_,?_,⟨fun b o _ w=>w,fun b hb=>?_,fun b hb=>.inl ?_⟩,fun b _ o w=>w,fun H01 H1 xs' s' w1 w2 w3=>?_⟩,e,Post.back h (Gr.of_same R.mu.left gs)⟩
     ·rw [zbs2 (fun w:jx=ir=>ne w.symm)];exact c1
     ·rw [zbr6 (by
       have:=R.rel.len
       rw [this];exact lj)]
     ·obtain⟨o,w⟩:=(R.mu.mono gs) b (zbj7 _ hb)
      rw [w];simp
     ·rcases zbk1.mp hb with w | w
      ·rcases sub b w with w | w
       ·exact d7 b ((eB b).mpr (.inl w))
       ·exact d6 b w
      ·exact d7 b ((eB b).mpr (.inr w))
     ·exact .lst (w2 p (zbk2 ..) _ h1) (f4 H01 H1 xs' s' w1 (fun b hb o w=>w2 b (zbj9 _ hb) o w) w3)
end
end DL
namespace DL
open PySem.Spec L2
section
variable {X:Cx}{F:List Addr}{I:List Nat}{a b c:Expr}{es:List Expr}{fa fb fc:DE}{ga:DA}{g g1 g2:DS}{ft fu:DT}{pos:Pos}{st:Stmt}{rest:List Stmt}
theorem pp_popE (i:Nat) {x:Str}{p1 apos1 cpos1:Pos} (he:PE X a (dE X.K F fa)) (hN:X.N[i]?=some x:=by rfl) (hv:Vis X.env.scope x:=by first | exact Or.inl rfl | exact Or.inr (Or.inl rfl) |exact Or.inr (Or.inr rfl)) (hd:(x ==("__debug__":Str))=false:=by decide)
  (hcd:(x ==("__classdict__":Str))=false:=by decide) (hst:zbm0 [a] X.env=[(false,eval a X.env)]:=by rfl)
  (hbase:attributeBase (.Name x p1) "pop" X.env (eval (.Name x p1) X.env)=eval (.Name x p1) X.env:=by rfl)
  (hfew:((zbt6 cpos1 (zbm0 [a] X.env)).all (fun x=>!x.1)&&(backToKw cpos1 (keywordEach [] X.env)).all (fun x=>x.1.isSome)
   && decide ([a].length+([]:List Keyword).length+(if ([]:List Keyword).isEmpty then 0 else 1)<30))=true:=by rfl)
  (hline:(apos1.endLine == cpos1.line)=true:=by rfl) (hplain:(zbt6 cpos1 (zbm0 [] X.env)).any (·.1)=false:=by rfl)
  (hsw:swapsWith (.Call (.Attribute (.Name x p1) "pop" apos1) [a] [] cpos1) none pos.line X.env=pure false:=by rfl) :
  PS X (.Expr (.Call (.Attribute (.Name x p1) "pop" apos1) [a] [] cpos1) pos) (dP X.K F I (zbg3 i fa)):=by
 refine PS.imp (zad7 (pe_bm zbu9 PySem.F.slot_list_pop PySem.F.type_list_pop mt_popAt (zr0 (i:=i) hN hv hd hcd) (zh2 he zr1 hst) hbase hfew hline hst hplain) hsw) ?_
 rintro E σ H ⟨A,t,t2,R,e,h⟩
 unfold zbg3 at e
 cases e1:fa t with
 |none=>rw [e1]at e;cases e
 |some r =>
  rw [e1]at e
  have e:kPopE t i r=some (.nx t2):=e
  unfold kPopE at e
  split at e
  case h_2=>cases e
  rename_i xs n z1 zr
  split at e
  case isFalse=>cases e
  rename_i ok
  simp only [decide_eq_true_eq]at ok
  cases e3:ixN xs.length n with
  |none=>rw [e3]at e;cases e
  |some q =>
   rw [e3]at e
   simp only [zbk3]at e
   cases e4:xs[q]? with
   |none=>rw [e4]at e;cases e
   |some d =>
    rw [e4]at e
    cases e
    obtain⟨p,vs,a1,a2,a3,a4⟩:=R.rel.getOwn z1
    obtain⟨v,c1,c2⟩:=a4.get e4
    have hj:=zao1 (by rw [← a4.length]at e3;exact e3)
    refine⟨_,a1,.inl ⟨rfl,vs,SqL.of a3⟩,A,t,r,R,e1,fun w H1 gs q1=>?_⟩
    have pr:=q1.full
    rw [zr]at pr
    cases zd4 pr
    obtain⟨R1,g1⟩:=(R.grow gs).write (es:=xs.eraseIdx q) (ws:=vs.eraseIdx q) z1 a1 (Reps.erase q (Reps.mono (zc7 gs) a4))
    refine⟨p,vs,n,q,v,rfl,rfl,gs _ _ a3,by lia,by lia,hj.1,c1,?_⟩
    exact h _ _ _ ((Gr.of_same R.mu.left gs).trans g1) R1 fun _ _=>rfl
theorem pp_ins (i:Nat) {x:Str}{p0 apos cpos:Pos} (he:PA X [a,b] (dA X.K F ga)) (hN:X.N[i]?=some x:=by rfl) (hv:Vis X.env.scope x:=by first | exact Or.inl rfl | exact Or.inr (Or.inl rfl) |exact Or.inr (Or.inr rfl)) (hd:(x ==("__debug__":Str))=false:=by decide)
  (hcd:(x ==("__classdict__":Str))=false:=by decide) (hst:zbm0 [a,b] X.env=(false,eval a X.env)::zbm0 [b] X.env:=by rfl)
  (hbase:attributeBase (.Name x p0) "insert" X.env (eval (.Name x p0) X.env)=eval (.Name x p0) X.env:=by rfl)
  (hfew:((zbt6 cpos (zbm0 [a,b] X.env)).all (fun x=>!x.1)&&(backToKw cpos (keywordEach [] X.env)).all (fun x=>x.1.isSome)
   && decide ([a,b].length+([]:List Keyword).length+(if ([]:List Keyword).isEmpty then 0 else 1)<30))=true:=by rfl)
  (hline:(apos.endLine == cpos.line)=true:=by rfl) (hplain:(zbt6 cpos (zbm0 [b] X.env)).any (·.1)=false:=by rfl)
  (hsw:swapsWith (.Call (.Attribute (.Name x p0) "insert" apos) [a,b] [] cpos) none pos.line X.env=pure false:=by rfl) :
  PS X (.Expr (.Call (.Attribute (.Name x p0) "insert" apos) [a,b] [] cpos) pos) (dP X.K F I (dIns i ga)):=by
 refine PS.imp (zad7 (pe_bm zbu9 zby8 PySem.F.type_list_insert zbc8 (zr0 (i:=i) hN hv hd hcd) he hbase hfew hline hst hplain) hsw) ?_
 rintro E σ H ⟨A,t,t2,R,e,h⟩
 unfold dIns at e
 cases e1:ga t with
 |none=>rw [e1]at e;cases e
 |some rs =>
  rw [e1]at e
  have e:kIns t i rs=some (.nx t2):=e
  unfold kIns at e
  split at e
  case h_2=>cases e
  rename_i rk rn
  split at e
  case h_2=>cases e
  rename_i xs k n z zk zn
  cases e3:zm3 xs with
  |none=>rw [e3]at e;cases e
  |some ns =>
   rw [e3]at e
   simp only [zbk3]at e
   split at e
   case isFalse=>cases e
   rename_i ok
   cases e
   obtain⟨p,vs,a1,a2,a3,a4⟩:=R.rel.getOwn z
   rw [zq0 e3]at a4
   have a5:=zi1 a4
   subst a5
   refine⟨_,a1,.inl ⟨rfl,_,SqL.of a3⟩,A,t,_,R,e1,fun ys H1 gs q=>⟨p,ns,k,n,rfl,?_,gs _ _ a3,ok.1,ok.2.1,ok.2.2,?_⟩⟩
   ·cases q with
    |cons qa qb =>
     cases qb with
     |cons qb qc =>
      cases qc
      have p1:=qa.full
      rw [zk]at p1
      cases zd4 p1
      have p2:=qb.full
      rw [zn]at p2
      cases zd4 p2
      rfl
   ·obtain⟨R',g'⟩:=(R.grow gs).write (es:=(insN ns k.toNat n).map D.int) (ws:=(insN ns k.toNat n).map V.int) z a1 (Reps.ints _)
    exact h _ _ _ ((Gr.of_same R.mu.left gs).trans g') R' fun _ _=>rfl
theorem zar7 {i:Nat}{x:Str}{pos':Pos} (hJ:i∉I) (hN:X.N.Nodup) (hi:X.N[i]?=some x) (hx:Loc X.env.scope x) (he:PE X a (dE X.K F fa)) (hs:swapsWith a (some (.Name x pos')) pos.line X.env=pure false:=by rfl) (hf:X.fn x=true∨X.env.scope.names.lookup x=some .local:=by first | exact .inl rfl | exact .inr rfl | assumption) :
  PS X (.Assign [.Name x pos'] a pos) (dP X.K F I (dAsg i fa)):=by
 refine PS.imp (zah1 hN hi hx he hs hf) ?_
 rintro E σ H ⟨A,t,t',R,e,h⟩
 unfold dAsg at e
 cases e1:fa t with
 |none=>rw [e1]at e;cases e
 |some r1 =>
  rw [e1]at e
  have e:(zs3 t i r1).map Out.nx=some (.nx t'):=e
  cases e2:zs3 t i r1 with
  |none=>rw [e2]at e;cases e
  |some t2 =>
   rw [e2]at e
   cases e
   refine⟨A,t,r1,R,e1,fun v H' gs q=>?_⟩
   obtain⟨A',g',R'⟩:=R.put gs q e2
   exact h _ _ _ g' R' fun k hk=>zbs2 (fun (z:i=k)=>hJ (z ▸ hk))
end
end DL
namespace DL
open PySem.Spec L2
section
variable {X:Cx}{F:List Addr}{es:List Expr}{fns:DNs}{pos:Pos}
noncomputable def zax2 (g:DNs):DE:=fun t=>(g t).bind fun q=>if q.1.length≤1000&&q.2.isEmpty then some (.dn (.lst q.1)) else none
theorem ped_newL (h:PA X es (dNs X.K F fns)):PE X (.List es pos) (dE X.K F (zax2 fns)):=by
 refine PE.imp (pe_lst h) ?_
 rintro σ H Q ⟨A,t,r,R,e,h⟩
 unfold zax2 at e
 cases e1:fns t with
 |none=>rw [e1]at e;cases e
 |some q =>
  obtain⟨ds,I⟩:=q
  rw [e1]at e
  simp only [zbk3]at e
  split at e
  case isFalse=>cases e
  rename_i ok
  cases e
  simp only [zbk7,decide_eq_true_eq,zce4]at ok
  obtain⟨hl,rfl⟩:=ok
  refine⟨A,t,ds,[],R,e1,fun vs H1 B g1 n1 f1 r1=>⟨by rw [r1.length];exact le_line (by lia),fun p hp=>?_⟩⟩
  have s1:=zd2 (o:=HO.lst vs) hp
  have np:p∉B:=zd0 r1.lists hp
  refine h _ _ (g1.trans s1) ⟨p::B,zbm9.mpr ⟨np,n1⟩,fun b hb=>?_,.lst zc3 (RepDs.mono (zl3 hp) r1 fun b hb o w=>s1 _ _ w)⟩
  rcases zbk5.mp hb with z | z
  ·rw [z];exact Same.free g1 hp
  ·rcases f1 b z with w | ⟨i,hi,_⟩
   ·exact w
   ·cases hi
end
end DL
namespace KX
open PySem.Spec L2 DL
noncomputable abbrev qA:=kOr (kI tt2 fun i j=>.int (i+j)) kCat
noncomputable abbrev qS:=kI tt2 fun i j=>.int (i - j)
noncomputable abbrev qM:=kOr (kI cMul fun i j=>.int (i*j)) kRep
noncomputable abbrev qV:=kI cDiv fun i j=>.int (i.fdiv j)
noncomputable abbrev qR:=kI cMod fun i j=>.int (i.fmod j)
noncomputable abbrev qL:=kI tt2 fun i j=>.bl (decide (i<j))
noncomputable abbrev qE:=kI tt2 fun i j=>.bl (decide (i≤j))
noncomputable abbrev qG:=kI tt2 fun i j=>.bl (decide (j<i))
noncomputable abbrev qN:=k2I fun i j=>if j<i then j else i
noncomputable abbrev qU:=kBls fun bs=>bs.all id
noncomputable abbrev qP:=kI cPow fun i j=>.int (i ^ j.toNat)
theorem bnd_big:1000000000000000000000000000000000000≤bndS:=by
 have:(2:Nat) ^ 120≤2 ^ 1048576:=zbu1 (by decide) (by decide)
 unfold bndS
 exact zbq4 (by decide) this
theorem app_of (t:Th) {f:DE}{i:Nat}{xs:List D}{d:D} (hf:f t=some (.cl d)) (hi:t[i]?=some (.own xs)) (hl:xs.length<100000):dApp i f t=some (.nx (t.set i (.own (xs++[d])))):=by
 unfold dApp
 rw [hf]
 simp only [zbk3,kApp,hi,Ev.ok,Ev.d,hl,decide_true,Bool.and_self,if_true]
theorem asg_of (t:Th) {f:DE}{i:Nat}{d:D} (hf:f t=some (.cl d)) (hi:i<t.length):dAsg i f t=some (.nx (t.set i (.val d))):=by
 unfold dAsg
 rw [hf]
 simp only [zbk3,zs3,hi,if_true,zbp8]
theorem ze9:∀xs:List Int,zg9 (xs.map D.int)=true
 |[]=>rfl
 |x::xs=>by
  have:=ze9 xs
  simp [zg9,flat,this]
theorem zl8 {k:List Ev→Option Ev}{fa fb:DE}{t:Th}{ra rb:Ev} (h1:fa t=some ra) (h2:fb t=some rb):dT1 k (za2 fa (za2 fb dNil)) t=k [ra,rb]:=by
 simp [dT1,za2,dNil,h1,h2]
theorem zg2 {k:Ev→Ev→Option Ev}{fa fb:DE}{t:Th}{ra rb:Ev} (h1:fa t=some ra) (h2:fb t=some rb):d2 k fa fb t=k ra rb:=by
 simp [d2,h1,h2]
theorem zu0 (n:Nat):∀xs:List Int,eqOk (n+1) (.lst (xs.map D.int)) (.lst (xs.map D.int))=true
 |[]=>rfl
 |x::xs=>by
  have:=zu0 n xs
  simp only [eqOk]at this ⊢
  simp only [zbl8,zbt4,zbo7,this,zbx2]
  cases n<;>rfl
theorem zau5 {k:List Ev→Option Ev}{fa fb fc fd:DE}{t:Th}{ra rb rc rd:Ev} (h1:fa t=some ra) (h2:fb t=some rb) (h3:fc t=some rc) (h4:fd t=some rd):dT1 k (za2 fa (za2 fb (za2 fc (za2 fd dNil)))) t=k [ra,rb,rc,rd]:=by
 simp [dT1,za2,dNil,h1,h2,h3,h4]
theorem t3_of {k:List Ev→Option Ev}{fa fb fc:DE}{t:Th}{ra rb rc:Ev} (h1:fa t=some ra) (h2:fb t=some rb) (h3:fc t=some rc):dT1 k (za2 fa (za2 fb (za2 fc dNil))) t=k [ra,rb,rc]:=by
 simp [dT1,za2,dNil,h1,h2,h3]
theorem zw2 {k:List Ev→Option Ev}{fa:DE}{t:Th}{ra:Ev} (h1:fa t=some ra):dT1 k (za2 fa dNil) t=k [ra]:=by
 simp [dT1,za2,dNil,h1]
theorem ze1 {t:Th}{f:DE}{i:Nat}{d:D} (hf:f t=some (.cl d)) (hi:i<t.length):dAsg i f t=some (.nx (t.set i (.val d))):=asg_of t hf hi
theorem zu3 {t:Th}{f:DE}{i:Nat}{xs:List D} (hf:f t=some (.nw xs)) (hi:i<t.length):dAsg i f t=some (.nx (t.set i (.own xs))):=by
 unfold dAsg
 rw [hf]
 simp only [zbk3,zs3,hi,if_true,zbp8]
theorem zy1 (n b:Nat) (h:b<n):ixN n (b:Int)=some b:=by unfold ixN;rw [if_pos (by lia),if_pos (by lia)];simp
theorem get_map (L:List Int) (b:Nat) (h:b<L.length):(L.map D.int)[b]?=some (.int (L.getD b 0)):=by simp [zbl1,h]
theorem at_map (L:List Int) (b:Nat) (h:b<L.length):atI (L.map D.int) (b:Int)=some (.int (L.getD b 0)):=by
 unfold atI
 rw [zy1 _ _ (by simpa using h)]
 exact get_map L b h
theorem ixEv {r1 r2:Ev} (L:List Int) (b:Nat) (h:b<L.length) (h1:r1.d=.lst (L.map D.int)) (h2:r2.d=.int (b:Int)):kIx r1 r2=some (.cl (.int (L.getD b 0))):=by
 unfold kIx
 rw [h1,h2]
 show (atI (L.map D.int) (b:Int)).map _=_
 rw [at_map L b h]
 simp [flat]
theorem ifs_of {c:DT}{g1 g2:DS}{t:Th}{b:Bool} (h:c t=some b):dIfS c g1 g2 t=if b then g1 t else g2 t:=by
 unfold dIfS;rw [h];rfl
theorem zaj4 {c:DT}{g1 g2:DS}{t:Th}{b:Bool} (h:c t=some b) (hb:b=true):dIfS c g1 g2 t=g1 t:=by
 rw [ifs_of h,hb];rfl
theorem ifs_f {c:DT}{g1 g2:DS}{t:Th}{b:Bool} (h:c t=some b) (hb:b=false):dIfS c g1 g2 t=g2 t:=by
 rw [ifs_of h,hb];rfl
theorem zbe3 {r1 r2:Ev} (p:Int) (K:List Int) (h1:r1.d=.int p) (h2:r2.d=.lst (K.map D.int)):kIn r1 r2=some (.cl (.bl (decide (p∈K)))):=by
 unfold kIn
 rw [h1,h2]
 clear h2
 have e1:(K.map D.int).all (fun d=>scD d&&eqOk 0 d (.int p))=true:=by
  rw [zbq0]
  intro d hd
  obtain⟨k,_,rfl⟩:=zbq1.mp hd
  rfl
 have e2:(K.map D.int).any (fun d=>eqD d (.int p))=decide (p∈K):=by
  induction K with
  |nil=>rfl
  |cons k K ih =>
   have e1':(K.map D.int).all (fun d=>scD d&&eqOk 0 d (.int p))=true:=by
    simp only [zbl8,zbo7,zbk7]at e1;exact e1.2
   rw [zbl8,zbs1,ih e1',zao2]
   by_cases h:k=p
   ·subst h;simp
   ·have : ¬ p=k:=fun q=>h q.symm
    simp [h,this]
 show (if scD (.int p)&&(K.map D.int).all (fun d=>scD d&&eqOk 0 d (.int p)) then some (Ev.cl (.bl ((K.map D.int).any fun d=>eqD d (.int p)))) else none)=_
 rw [e1,e2]
 rfl
theorem zz8 (t:Th) {f:DE}{i:Nat}{xs:List Int}{p:Int} (hf:f t=some (.cl (.int p))) (hi:t[i]?=some (.own (xs.map D.int))) (hl:xs.length<100000):dApp i f t=some (.nx (t.set i (.own ((xs++[p]).map D.int)))):=by
 rw [app_of t hf hi (by simpa using hl)]
 simp
theorem seq_rt {g1 g2:DS}{t:Th}{r:Ev} (h:g1 t=some (.rt r)):dSeq g1 g2 t=some (.rt r):=by simp [dSeq,h]
theorem grd {c:DT}{g:DS}{t:Th}{b:Bool} (h:c t=some b) (hb:b=false):dIfS c g zk6 t=some (.nx t):=(ifs_f h hb).trans rfl
theorem zae5 {c:DT}{g:DS}{t:Th}{b:Bool}{d:D} (h:c t=some b) (hb:b=true):dIfS c (dRet (dC d)) g t=some (.rt (.cl d)):=(zaj4 h hb).trans rfl
theorem bnd {g:Option Out}{r:Ev} (h:g=some (.rt r)):g.bind zj2=some r:=by rw [h];rfl
theorem zg7 {fa fb:DE}{t:Th}{a b:Int} (h1:fa t=some (.cl (.int a))) (h2:fb t=some (.cl (.int b))):(d2 qA fa fb) t=some (.cl (.int (a+b))):=(zg2 h1 h2).trans rfl
theorem zag3 {fa fb:DE}{t:Th}{a b:Int} (h1:fa t=some (.cl (.int a))) (h2:fb t=some (.cl (.int b))):(d2 qS fa fb) t=some (.cl (.int (a - b))):=(zg2 h1 h2).trans rfl
theorem zf2 {fa fb:DE}{t:Th}{a b:Int} (h1:fa t=some (.cl (.int a))) (h2:fb t=some (.cl (.int b))) (hb:b≠0):(d2 qR fa fb) t=some (.cl (.int (a.fmod b))):=by
 rw [zg2 h1 h2]
 show (if cMod a b=true then _ else none)=_
 rw [if_pos (by unfold cMod;exact decide_eq_true hb)]
theorem zj9 {fa fb:DE}{t:Th}{a b:Int} (h1:fa t=some (.cl (.int a))) (h2:fb t=some (.cl (.int b))) (hb:b≠0) (hs:sm b=true):(d2 qV fa fb) t=some (.cl (.int (a.fdiv b))):=by
 rw [zg2 h1 h2]
 show (if cDiv a b=true then _ else none)=_
 rw [if_pos (by unfold cDiv;rw [hs];simp [hb])]
theorem zr2 {fa fb:DE}{t:Th}{a b:Int} (h1:fa t=some (.cl (.int a))) (h2:fb t=some (.cl (.int b))) (ha:sm a=true) (hb:sm b=true):(d2 qM fa fb) t=some (.cl (.int (a*b))):=by
 rw [zg2 h1 h2]
 have:cMul a b=true:=by simp only [cMul];rw [ha,hb];rfl
 simp [kOr,kI,Ev.d,this]
theorem pow12 (t:Th):(d2 qP (dC (.int 10)) (dC (.int 12))) t=some (.cl (.int 1000000000000)):=by
 simp [d2,dC,kI,cPow,kOr,tt2,Ev.d]
theorem lt_of {fa fb:DE}{t:Th}{a b:Int} (h1:fa t=some (.cl (.int a))) (h2:fb t=some (.cl (.int b))):dBo (d2 qL fa fb) t=some (decide (a<b)):=by
 unfold dBo;rw [zg2 h1 h2];rfl
theorem gt_of {fa fb:DE}{t:Th}{a b:Int} (h1:fa t=some (.cl (.int a))) (h2:fb t=some (.cl (.int b))):dBo (d2 qG fa fb) t=some (decide (b<a)):=by
 unfold dBo;rw [zg2 h1 h2];rfl
theorem zaj7 {fa fb:DE}{t:Th}{a b:Int} (h1:fa t=some (.cl (.int a))) (h2:fb t=some (.cl (.int b))):dBo (d2 kEq fa fb) t=some (decide (a=b)):=by
 unfold dBo;rw [zg2 h1 h2]
 have:kEq (.cl (.int a)) (.cl (.int b))=some (.cl (.bl (eqD (.int a) (.int b)))):=rfl
 rw [this,zao2];rfl
theorem neI_of {fa fb:DE}{t:Th}{a b:Int} (h1:fa t=some (.cl (.int a))) (h2:fb t=some (.cl (.int b))):dBo (d2 kNe fa fb) t=some (!decide (a=b)):=by
 unfold dBo;rw [zg2 h1 h2]
 have:kNe (.cl (.int a)) (.cl (.int b))=some (.cl (.bl (!eqD (.int a) (.int b)))):=rfl
 rw [this,zao2];rfl
theorem or_of {f g:DT}{t:Th}{a b:Bool} (h1:f t=some a) (h2:a=false→g t=some b):dOr f g t=some (a||b):=by
 unfold dOr;rw [h1]
 cases a with
 |true=>rfl
 |false=>simp [h2 rfl]
theorem zah6 {f g:DT}{t:Th}{a b:Bool} (h1:f t=some a) (h2:g t=some b):dOr f g t=some (a||b):=or_of h1 fun _=>h2
theorem zo8 {f g:DT}{t:Th}{a b:Bool} (h1:f t=some a) (h2:g t=some b):dAnd f g t=some (a&&b):=by
 unfold dAnd;rw [h1];cases a<;>simp [h2]
theorem zai8 {t:Th}{f:DE}{r:Ev}{xs:List Int} (h:f t=some r) (hr:r.d=.lst (xs.map D.int)):(dT1 kLen (za2 f dNil)) t=some (.cl (.int (xs.length:Int))):=by
 rw [zw2 h]
 unfold kLen
 simp only [hr,zbm6]
theorem zm1 {fa fb:DE}{t:Th}{r1 r2:Ev} (L:List Int) (b:Nat) (ha:fa t=some r1) (hb:fb t=some r2) (h:b<L.length) (h1:r1.d=.lst (L.map D.int)) (h2:r2.d=.int (b:Int)):(d2 kIx fa fb) t=some (.cl (.int (L.getD b 0))):=by
 rw [zg2 ha hb,ixEv L b h h1 h2]
theorem zu5 {t:Th}{fk fv:DE}{i:Nat}{L:List Int}{b:Nat}{v:Int} (hv:fv t=some (.cl (.int v))) (hk:fk t=some (.cl (.int (b:Int)))) (hi:t[i]?=some (.own (L.map D.int))) (hb:b<L.length):zk0 i fk fv t=some (.nx (t.set i (.own ((L.set b v).map D.int)))):=by
 unfold zk0
 rw [hv,hk]
 show zy0 t i (.cl (.int v)) (.cl (.int (b:Int)))=_
 unfold zy0
 rw [hi]
 show (ixN (L.map D.int).length (b:Int)).map _=_
 rw [zy1 _ b (by simpa using hb),zce5]
 rfl
theorem calln {G:List D→Option Ev}{rs:List Ev}{xs:List Int} (h:G (rs.map Ev.d)=some (.nw (xs.map D.int))):zd3 G rs=some (.nw (xs.map D.int)):=by
 unfold zd3
 rw [h]
 simp only [zbp8,upEv]
 split
 ·rfl
 ·simp [ze9]
theorem callc {G:List D→Option Ev}{rs:List Ev}{d:D} (h:G (rs.map Ev.d)=some (.cl d)) (hf:flat d=true):zd3 G rs=some (.cl d):=by
 unfold zd3
 rw [h]
 simp only [zbp8,upEv]
 split
 ·rfl
 ·simp [hf]
theorem cns {f:DE}{g:DA}{t:Th}{r:Ev}{rs:List Ev} (h1:f t=some r) (h2:g t=some rs):za2 f g t=some (r::rs):=by
 unfold za2;rw [h1,h2];rfl
theorem tk1 {k:List Ev→Option Ev}{g:DA}{t:Th}{rs:List Ev} (h:g t=some rs):dT1 k g t=k rs:=by
 unfold dT1;rw [h];rfl
theorem zag0 {f:DE}{t:Th}{b:Bool} (h:f t=some (.cl (.bl b))):dTr f t=some b:=by
 unfold dTr;rw [h];rfl
theorem zab4 {f:DT}{t:Th}{b:Bool} (h:f t=some b):dNot f t=some (!b):=by
 unfold dNot;rw [h];rfl
theorem zn6 {f:DE}{t:Th}{r:Ev} (h:f t=some r):dRet f t=some (.rt r):=by
 unfold dRet;rw [h];rfl
theorem zas5 {k:D→Th→Option Th}{f:DE}{b:DS}{t:Th}{r:Ev}{ds:List D} (h:f t=some r) (hd:r.d=.lst ds) (ho:r.ok=true):dFor k f b t=forD k b ds t:=by
 unfold dFor
 rw [h]
 simp only [zbk3,hd,ho,if_true]
theorem zar2 (x:Int):∀m:Nat,(zbl4 m [D.int x]).flatten=(zbl4 m x).map D.int
 |0=>rfl
 |m+1=>by rw [zbp4,zbq2,zar2 x m,zbp4];rfl
theorem repn_of {fa fb:DE}{t:Th}{x:Int}{m:Nat} (h1:fa t=some (.nw [.int x])) (h2:fb t=some (.cl (.int (m:Int)))) (hm:m≤900):(d2 qM fa fb) t=some (.nw ((zbl4 m x).map D.int)):=by
 rw [zg2 h1 h2]
 show (if ([D.int x].length≤100&&decide (-1000000≤(m:Int)∧(m:Int)≤1000))=true then some (Ev.nw (zbl4 (m:Int).toNat [D.int x]).flatten) else none)=_
 rw [if_pos (by simp;lia),zbn9,zar2]
theorem zal1 (n:Nat):Builtin.Range.rangeSize 0 (n:Int) 1=(n:Int):=by
 unfold Builtin.Range.rangeSize
 rw [if_pos (by lia)]
 split<;>lia
theorem ok_of {n:Nat} (hn:n≤1000):zx1 0 (n:Int) 1=true:=by
 unfold zx1
 rw [small_of (by lia) (by lia),zal1,decide_eq_true (by lia)]
 rfl
theorem lr_of {f:DE}{t:Th}{n:Nat} (h:f t=some (.cl (.int (n:Int)))) (hn:n≤1000):(zv8 (za2 f dNil)) t=some (.nw ((zd1 n).map D.int)):=by
 have e:(za2 f dNil) t=some [.cl (.int (n:Int))]:=by simp [za2,dNil,h]
 have e2:rArgs ([Ev.cl (.int (n:Int))].map Ev.d)=some (0,(n:Int),1):=rfl
 have c:(zx1 0 (n:Int) 1&&decide (Builtin.Range.rangeSize 0 (n:Int) 1≤50000))=true:=by
  rw [ok_of hn,zal1,decide_eq_true (by lia)];rfl
 unfold zv8
 rw [e,zbk3,e2,zbk3,if_pos c]
 unfold rng3 zd1
 rw [zal1,zbn9]
 simp
theorem zu7 {k0:D→Th→Option Th}{b:DS}{t:Th}{f:DE}{r:Ev}{n:Nat} (h:f t=some r) (hr:r.d=.int (n:Int)) (hn:n≤100000):zz3 k0 f b t=forD k0 b ((zd1 n).map D.int) t:=by
 unfold zz3
 rw [h]
 simp only [zbk3,hr]
 rw [if_pos (by unfold bigI;exact decide_eq_true (by lia)),zbn9]
 congr 1
 unfold rngD zd1
 simp
theorem zv1 {f:DE}{t:Th}{r:Ev}{xs:List Int} (h:f t=some r) (hr:r.d=.lst (xs.map D.int)):(dT1 zn4 (za2 f dNil)) t=some (.nw (xs.map D.int)):=by
 rw [zw2 h]
 unfold zn4
 simp only [hr,ze9,zbp3,if_true]
theorem zbe2 {f:DE}{t:Th}{b:Bool} (h:f t=some (.cl (.bl b))):(dT1 zao0 (za2 f dNil)) t=some (.cl (.int (if b then 1 else 0))):=by
 rw [zw2 h];rfl
theorem gtv_of {fa fb:DE}{t:Th}{a b:Int} (h1:fa t=some (.cl (.int a))) (h2:fb t=some (.cl (.int b))):(d2 qG fa fb) t=some (.cl (.bl (decide (b<a)))):=(zg2 h1 h2).trans rfl
theorem zaf1 {k:D→Th→Option Th}{fe:DE}{f:Int→Int}{ext:Th} (hk:∀(s:Sl) (x:Int),k (.int x) (s::ext)=some (.val (.int x)::ext)):∀(xs:List Int) (s:Sl),(∀x∈xs,fe (.val (.int x)::ext)=some (.cl (.int (f x))))→zd8 k ze5 fe (xs.map D.int) (s::ext)=some ((xs.map f).map D.int)
 |[],s,_=>rfl
 |x::xs,s,hf=>by
  simp only [zbl8,zd8,hk,zbk3,ze5,hf x (zbk2 ..),if_true]
  rw [zaf1 hk xs _ fun y hy=>hf y (zbj9 _ hy)]
  rfl
theorem zaf2 {cap:List Nat}{f:DE}{fe:DE}{t:Th}{r:Ev}{xs:List Int}{g:Int→Int}{b:Bool}{c:List D} (hf:f t=some r) (hr:r.d=.lst (xs.map D.int)) (hn:xs.length≤50000) (hc:capD t cap=some (b,c)) (he:∀x∈xs,fe (.val (.int x)::c.map Sl.val)=some (.cl (.int (g x)))) :
  (ze6 1 cap (fsL f) (za5 0) ze5 fe) t=some (.nw ((xs.map g).map D.int)):=by
 unfold ze6
 have e1:fsL f t=some (r.ok,xs.map D.int):=by
  unfold fsL
  rw [hf]
  simp only [zbk3,hr]
 have e2:zd8 (za5 0) ze5 fe (xs.map D.int) (Sl.no::c.map Sl.val)=some ((xs.map g).map D.int):=zaf1 (fun _ _=>rfl) _ _ he
 rw [e1,hc]
 simp only [zbk3]
 rw [if_pos (by simpa using hn)]
 show (zd8 (za5 0) ze5 fe (xs.map D.int) (Sl.no::c.map Sl.val)).bind _=_
 rw [e2]
 simp only [zbk3,ze9,zbp3,if_true]
theorem zaq1 {f:DE}{t:Th}{r:Ev}{xs:List Int} (h:f t=some r) (hr:r.d=.lst (xs.map D.int)):(dT1 kSum (za2 f dNil)) t=some (.cl (.int xs.sum)):=by
 rw [zw2 h]
 unfold kSum
 simp only [hr,zm2]
 rfl
theorem for_P {k:D→Th→Option Th}{b:DS}{P:Th→Prop}:∀(ds:List D),(∀d∈ds,∀t,P t→∃t1 t2,k d t=some t1∧b t1=some (.nx t2)∧P t2)→∀t,P t→∃t',forD k b ds t=some (.nx t')∧P t'
 |[],_,t,h=>⟨t,rfl,h⟩
 |d::ds,hd,t,h=>by
  obtain⟨t1,t2,e1,e2,h2⟩:=hd d (zbk2 ..) t h
  obtain⟨t',e,h'⟩:=for_P ds (fun d' hd'=>hd d' (zbj9 _ hd')) t2 h2
  exact⟨t',by simp only [forD,e1,e2,zbk3];exact e,h'⟩
noncomputable def stG (W:Int→Int) (b x:Int):Int:=if W b<W x then x else b
theorem zbi6 {fb:DE}{W:Int→Int}{cs:List D}:∀(l:List Int) (b:Int),(∀x∈l,fb (.val (.int x)::cs.map Sl.val)=some (.cl (.int (W x))))→zbi7 true fb cs (.int b) (.int (W b)) (l.map D.int)=some (.int (l.foldl (stG W) b))
 |[],b,_=>rfl
 |x::l,b,h=>by
  have e:=h x (zbk2 ..)
  simp only [zbl8,zbi7,e,zbk3,Ev.d,flat,if_true,cmpD,cmpI,zbt7]
  have ih:=fun b=>zbi6 l b fun y hy=>h y (zbj9 _ hy)
  by_cases c:W b<W x
  ·rw [if_pos (decide_eq_true c),show stG W b x=x from if_pos c];exact ih x
  ·rw [if_neg (by simpa using c),show stG W b x=b from if_neg c];exact ih b
theorem key_of {fa fb:DE}{W:Int→Int}{cs:List D}{b:Bool}{cap:List Nat}{t:Th}{r:Ev}{x:Int}{l:List Int} (ha:fa t=some r) (hr:r.d=.lst ((x::l).map D.int)) (hc:capD t cap=some (b,cs)) (h:∀y∈x::l,fb (.val (.int y)::cs.map Sl.val)=some (.cl (.int (W y)))):dKey true cap fa fb t=some (.cl (.int (l.foldl (stG W) x))):=by
 unfold dKey
 rw [ha,hc]
 simp only [zbk3,hr,zbl8]
 rw [show (zm3 (D.int x::l.map D.int)).isSome=true by rw [← zbl8 (f:=D.int),zm2];rfl,if_pos rfl,h x (zbk2 ..)]
 simp only [zbk3,Ev.d,flat,if_true]
 rw [zbi6 l x fun y hy=>h y (zbj9 _ hy)]
 rfl
noncomputable def rwD (r:List Int):D:=.lst (r.map D.int)
noncomputable def mD (M:List (List Int)):D:=.lst (M.map rwD)
noncomputable def gM (M:List (List Int)) (i j:Int):Int:=(M.getD i.toNat []).getD j.toNat 0
structure Sq (n:Nat) (M:List (List Int)):Prop where
 len:M.length=n
 row:∀r∈M,r.length=n
noncomputable def lowI (L:List Int):Int:=leastI (L.headD 0) L.tail
noncomputable def zay5 (L:List Int):Int:=zo1 (L.headD 0) L.tail
theorem extt_of {f:DE}{t:Th}{r:Ev}{L:List Int} (h:f t=some r) (hr:r.d=.lst (L.map D.int)) (hl:0<L.length):(dT1 (zaw6 zo1) (za2 f dNil)) t=some (.cl (.int (zay5 L))):=by
 rw [zw2 h]
 unfold zaw6
 simp only [hr,zm2]
 cases L with
 |nil=>simp at hl
 |cons x r=>rfl
theorem zal9:∀xs:List Int,(xs.map D.int).all scD=true
 |[]=>rfl
 |x::xs=>by simp only [zbl8,zbo7,zal9 xs];rfl
theorem zt1 {n:Nat}{x:Int} (h:x∈zd1 n):0≤x∧x<(n:Int):=by
 obtain⟨i,hi⟩:=List.mem_iff_getElem?.mp h
 obtain⟨q,l⟩:=zbc6 hi
 lia
theorem mem_nats {n:Nat}{x:Int} (h0:0≤x) (h1:x<(n:Int)):x∈zd1 n:=by
 unfold zd1
 exact zbq1.mpr ⟨x.toNat,zbq9.mpr (by lia),by lia⟩
theorem zaz0:∀ {l C:List Int},l.Nodup→(∀x∈l,x∈C)→l.length≤C.length
 |[],C,_,_=>zbq5 _
 |x::l,C,nd,h=>by
  rw [zbm9]at nd
  have hx:=h x (zbk2 ..)
  have:=zaz0 (l:=l) (C:=C.erase x) nd.2 fun y hy=>(zcb5 (fun e=>nd.1 (by rw [← e];exact hy))).mpr (h y (zbj9 _ hy))
  rw [zbz1 hx]at this
  have:=zca3 hx
  simp only [zbo6]
  lia
theorem zaz8 {f:DE}{t:Th}{n:Nat} (hf:f t=some (.cl (.int (n:Int)))) (hn:n≤50000):fsR1 f t=some (true,(zd1 n).map D.int):=by
 unfold fsR1
 rw [hf]
 simp only [zbk3,Ev.d]
 rw [if_pos (by unfold bigI;exact decide_eq_true (by lia)),zbn9]
 congr 2
 unfold rngD zd1
 simp
theorem zbg7 {cap:List Nat}{f:DE}{fe:DE}{t:Th}{n:Nat}{g:Int→Int}{b:Bool}{c:List D} (hf:f t=some (.cl (.int (n:Int)))) (hn:n≤50000) (hc:capD t cap=some (b,c)) (he:∀x∈zd1 n,fe (.val (.int x)::c.map Sl.val)=some (.cl (.int (g x)))) :
  (ze6 1 cap (fsR1 f) (za5 0) ze5 fe) t=some (.nw (((zd1 n).map g).map D.int)):=by
 unfold ze6
 have e2:zd8 (za5 0) ze5 fe ((zd1 n).map D.int) (Sl.no::c.map Sl.val)=some (((zd1 n).map g).map D.int):=zaf1 (fun _ _=>rfl) _ _ he
 rw [zaz8 hf hn,hc]
 simp only [zbk3]
 rw [if_pos (by rw [zbm6,zm0];exact hn)]
 show (zd8 (za5 0) ze5 fe ((zd1 n).map D.int) (Sl.no::c.map Sl.val)).bind _=_
 rw [e2]
 simp only [zbk3,ze9,zbp3,if_true]
theorem zv9 {ft:DT}{p:Int→Bool}{ext:Th}:∀(l:List Int) (s:Sl),(∀x∈l,ft (.val (.int x)::ext)=some (p x))→zd8 (za5 0) ft (dVar 0) (l.map D.int) (s::ext)=some ((l.filter p).map D.int)
 |[],s,_=>rfl
 |x::l,s,h=>by
  have e0:za5 0 (.int x) (s::ext)=some (.val (.int x)::ext):=rfl
  have e1:=h x (zbk2 ..)
  have ih:=zv9 l (.val (.int x)) fun y hy=>h y (zbj9 _ hy)
  simp only [zbl8,zd8,e0,zbk3,e1]
  cases c:p x with
  |true=>rw [List.filter_cons_of_pos c,if_pos rfl,ih];rfl
  |false=>rw [List.filter_cons_of_neg (by simp [c]),if_neg (by simp),ih]
theorem zaj9 {cap:List Nat}{f:DE}{ft:DT}{t:Th}{n:Nat}{p:Int→Bool}{b:Bool}{c:List D} (hf:f t=some (.cl (.int (n:Int)))) (hn:n≤50000) (hc:capD t cap=some (b,c)) (he:∀x∈zd1 n,ft (.val (.int x)::c.map Sl.val)=some (p x)) :
  (ze6 1 cap (fsR1 f) (za5 0) ft (dVar 0)) t=some (.nw (((zd1 n).filter p).map D.int)):=by
 unfold ze6
 have e2:zd8 (za5 0) ft (dVar 0) ((zd1 n).map D.int) (Sl.no::c.map Sl.val)=some (((zd1 n).filter p).map D.int):=zv9 _ _ he
 rw [zaz8 hf hn,hc]
 simp only [zbk3]
 rw [if_pos (by rw [zbm6,zm0];exact hn)]
 show (zd8 (za5 0) ft (dVar 0) ((zd1 n).map D.int) (Sl.no::c.map Sl.val)).bind _=_
 rw [e2]
 simp only [zbk3,ze9,zbp3,if_true]
noncomputable def nr (M:List (List Int)) (C:List Int) (p:Int):Int:=lowI (C.map (gM M p))
structure CIn (n:Nat) (C:List Int):Prop where
 ne:0<C.length
 rg:∀x∈C,0≤x∧x<(n:Int)
noncomputable def dV (P:List Int) (V:Int→Int):D:=.dct (P.map Sum.inl) (P.map fun p=>.int (V p))
noncomputable def ltr (n:Int):Nat→List Int→Int→Int
 |_,[],_=>n
 |i,x::xs,p=>if x=p then (i:Int) else ltr n (i+1) xs p
noncomputable def Fo (v:Int→Int) (p q:Int):Prop:=v q<v p∨(v q=v p∧p≤q)
theorem for_I {k:D→Th→Option Th}{b:DS}{f:Nat→D}{P:Nat→Th→Prop}{n:Nat} (hb:∀x,x<n→∀t,P x t→∃t1 t2,k (f x) t=some t1∧b t1=some (.nx t2)∧P (x+1) t2):∀(m i:Nat) (t:Th),i+m=n→P i t→∃t',forD k b ((zby1 i m).map f) t=some (.nx t')∧P n t'
 |0,i,t,e,h=>⟨t,rfl,by rw [← e];exact h⟩
 |m+1,i,t,e,h=>by
  obtain⟨t1,t2,e1,e2,h2⟩:=hb i (by lia) t h
  obtain⟨t',e3,h'⟩:=for_I hb m (i+1) t2 (by lia) h2
  refine⟨t',?_,h'⟩
  rw [zce6,zbl8]
  simp only [forD,e1,e2,zbk3,e3]
theorem zbe9 {k:D→Th→Option Th}{b:DS}{f:Nat→D}{P:Nat→Th→Prop}{n:Nat} (hb:∀x,x<n→∀t,P x t→∃t1 t2,k (f x) t=some t1∧b t1=some (.nx t2)∧P (x+1) t2) (t:Th) (h:P 0 t):∃t',forD k b ((zbo3 n).map f) t=some (.nx t')∧P n t':=by
 have:=for_I hb n 0 t (by lia) h
 rwa [zbw9]
noncomputable def DI (n:Int) (P:List Int) (V:Int→Int) (i:Nat) (ps:List Int):Prop := ∀q,(if q∈P then V q else n)=ltr n i (ps.drop i) q
theorem neg_of {f:DE}{t:Th}{a:Int} (h:f t=some (.cl (.int a))):(d1 kNeg f) t=some (.cl (.int (-a))):=by
 unfold d1
 rw [h]
 rfl
structure Pol (room:Nat) (K:List Int) (x:Int) (K':List Int):Prop where
 has:x∈K'
 hit:x∈K→∀q,q∈K'↔q∈K
 old:∀q∈K',q=x∨q∈K
 nd:K'.Nodup
 len:K'.length≤room
inductive Rn (room:Nat):List Int→List Int→Nat→Prop
 |nil (K:List Int):Rn room K [] 0
 |cons {K K' xs:List Int}{x:Int}{m:Nat}:Pol room K x K'→Rn room K' xs m→Rn room K (x::xs) ((if x∈K then 0 else 1)+m)
noncomputable def pD (p:Int×Int):D:=.tup [.int p.1,.int p.2]
theorem zae7:∀ts:List (Int×Int),zg9 (ts.map pD)=true
 |[]=>rfl
 |p::ts=>by simp only [zbl8,zg9,zae7 ts];rfl
theorem zbf2 (n:Nat):∀ts:List (Int×Int),eqOk (n+2) (.lst (ts.map pD)) (.lst (ts.map pD))=true
 |[]=>rfl
 |p::ts=>by
  have:=zbf2 n ts
  simp only [eqOk]at this ⊢
  simp only [zbl8,zbt4,zbo7,this,zbx2]
  cases n<;>rfl
theorem slu_pD {fa fb:DE}{t:Th}{r:Ev}{ts:List (Int×Int)}{n:Nat} (ha:fa t=some r) (hb:fb t=some (.cl (.int (n:Int)))) (hr:r.d=.lst (ts.map pD)):(dSlU fb fa) t=some (.nw ((ts.take n).map pD)):=by
 unfold dSlU
 rw [ha,hb]
 simp only [zbk3,hr]
 show (if (r.ok||zg9 (ts.map pD))=true then some (Ev.nw ((ts.map pD).take (HT.sIx (ts.map pD).length (ts.map pD).length (some (n:Int))))) else none)=_
 rw [zae7,if_pos (by simp),HT.sIx_nat,zbm6, ← zcc6]
 congr 3
 by_cases h:n≤ts.length
 ·rw [Nat.min_eq_left h]
 ·rw [Nat.min_eq_right (by lia),zbo1 (zbl3 _),zbo1 (by lia)]
theorem list_pD {f:DE}{t:Th}{r:Ev}{ts:List (Int×Int)} (h:f t=some r) (hr:r.d=.lst (ts.map pD)):(dT1 zn4 (za2 f dNil)) t=some (.nw (ts.map pD)):=by
 rw [zw2 h]
 unfold zn4
 simp only [hr,zae7,zbp3,if_true]
noncomputable def prC (L:List Int) (u:Nat×Nat):Int:=if L.getD u.2 0<L.getD u.1 0 then L.getD u.2 0 else L.getD u.1 0
noncomputable def lfC (L:List Int) (u:Nat×Nat):List Int:=(L.set u.1 (L.getD u.1 0 - prC L u)).set u.2 ((L.set u.1 (L.getD u.1 0 - prC L u)).getD u.2 0 - prC L u)
noncomputable def stC (s:List Int×List Int) (u:Nat×Nat):List Int×List Int:=(lfC s.1 u,s.2++[prC s.1 u])
theorem zan7 (L:List Int) (u:Nat×Nat):(lfC L u).length=L.length:=by unfold lfC;simp
theorem zq2 (L:List Int) (i j:Nat) (v:Int) (h:i<L.length):(L.set i v).getD j 0=if j=i then v else L.getD j 0:=by
 rw [zbl1,zcd5]
 by_cases e:j=i
 ·subst e;simp [h]
 ·rw [if_neg (fun z=>e z.symm),if_neg e, ← zbl1]
theorem zbd2 {L:List Int}{u:Nat×Nat} (h:u.1<u.2) (h2:u.2<L.length) (j:Nat):(lfC L u).getD j 0=if j=u.1∨j=u.2 then L.getD j 0 - prC L u else L.getD j 0:=by
 unfold lfC
 rw [zq2 _ _ _ _ (by simpa using h2),zq2 _ _ _ _ (by lia),zq2 _ _ _ _ (by lia)]
 by_cases a:j=u.2
 ·subst a
  rw [if_pos rfl,if_neg (by lia),if_pos (Or.inr rfl)]
 ·rw [if_neg a]
  by_cases b:j=u.1
  ·rw [if_pos b,if_pos (Or.inl b),b]
  ·rw [if_neg b,if_neg (by lia)]
noncomputable def nnL (L:List Int):Prop := ∀j,0≤L.getD j 0
theorem prC_le (L:List Int) (u:Nat×Nat):prC L u≤L.getD u.1 0∧prC L u≤L.getD u.2 0:=by unfold prC;split<;>lia
theorem prC_nn {L:List Int} (h:nnL L) (u:Nat×Nat):0≤prC L u:=by
 have:=h u.1;have:=h u.2
 unfold prC;split<;>lia
theorem lfC_nn {L:List Int}{u:Nat×Nat} (h:nnL L) (hu:u.1<u.2) (h2:u.2<L.length):nnL (lfC L u):=fun j=>by
 rw [zbd2 hu h2]
 have:=h j
 have p:=prC_le L u
 split
 ·rename_i z
  rcases z with rfl | rfl<;>lia
 ·exact this
structure Ms where
 E:List Int
 Pr:List Int
 T:List Int
noncomputable def uA (us:List (Nat×Nat)) (a:Int):Nat×Nat:=us.getD a.toNat (0,0)
structure Fe (us:List (Nat×Nat)) (ws:List Int) (s:Ms) (seen:List Int) (lo:Int):Prop where
 nn:∀j,0≤s.Pr.getD j 0
 hi:∀j:Nat,(j:Int)∈s.E→lo≤s.Pr.getD j 0
 ok:∀a∈seen,ws.getD a.toNat 0≤s.Pr.getD (uA us a).1 0+s.Pr.getD (uA us a).2 0
 zr:∀j:Nat,(j:Int)∉s.E→s.Pr.getD j 0=0
noncomputable def top (i:Nat):Stmt:=PySem.Challenge.pw_nearenough_k07_papers_of_covers.main.body.getD i (.Pass ⟨0,0,0,0⟩)
noncomputable abbrev zs4:Stmt:=top 1
noncomputable abbrev zk7:Stmt:=top 2
noncomputable abbrev zp5:Stmt:=top 4
noncomputable abbrev zj1:Stmt:=top 5
noncomputable abbrev zk8:Stmt:=top 6
noncomputable abbrev zj0:Stmt:=top 8
noncomputable abbrev zm9:Stmt:=top 9
noncomputable abbrev zs6:Stmt:=top 10
noncomputable abbrev zp0:Stmt:=top 11
noncomputable abbrev zs5:Stmt:=top 12
noncomputable abbrev zi9:Stmt:=top 13
noncomputable abbrev zp1:Stmt:=top 14
noncomputable abbrev zp2:Stmt:=top 15
noncomputable abbrev zp4:Stmt:=top 16
noncomputable abbrev zp3:Stmt:=top 17
noncomputable abbrev zk9:Stmt:=top 18
noncomputable abbrev s_law:Stmt:=top 19
structure Blt (mg:Str→Option Value):Prop where
 n_all:mg "all"=none
 n_any:mg "any"=none
 n_bool:mg "bool"=none
 n_enumerate:mg "enumerate"=none
 n_int:mg "int"=none
 n_isinstance:mg "isinstance"=none
 n_len:mg "len"=none
 n_list:mg "list"=none
 n_max:mg "max"=none
 n_min:mg "min"=none
 n_range:mg "range"=none
 n_set:mg "set"=none
 n_sorted:mg "sorted"=none
 n_sum:mg "sum"=none
 n_zip:mg "zip"=none
variable {P:Program}{w:World}{K:zbj6}{mg:Str→Option Value}{base:BHeap}{ad:Addr}{fd:FuncData}
theorem zau8:FnScope ["web", "point"] ["web", "point"] (zb8 zs4):=zn8 rfl rfl rfl rfl (by decide +kernel)
noncomputable def ktT:D→Th→Option Th:=(zg1 2 (zb3 (za5 0) (zb3 (za5 1) zg5)))
noncomputable def zy8:DS :=
 (dRet (ze6 2 [1] (fsE (d2 kIx (dVar 0) (dC (.int 1)))) ktT (dBo (d2 kIn (dVar 2) (dVar 1))) (dVar 0)))
noncomputable def zk5:List D→Option Ev:=mkG 2 ["web", "point"] zy8
theorem zav8 (Fn:L2.Fun K "ties_of" "ties_of" zs4 ad fd) (bu:Blt mg) :FnOk P w K mg base CX0 1 ad fd ["web", "point"] (spD K zk5):=by
 have SC:=zau8
 refine zi8 (k:=0) Fn SC (fun _ _ e=>zf8 e) zy8 (fun _ _ e=>zi7 e) (fun cdv A outer s H E F hr=>?_)
 exact zb5 (zd5 (ze3 2 [1] ["at", "tie", "point"] rfl (pid_enum rfl bu.n_enumerate (zb1 (za0 0) za3)) (fun _ _ _ _ _=>(zl9 rfl (zc6 (zb7 (i:=0) (show List.Nodup (["at", "tie", "point"]:List Str) by decide +kernel) rfl (za9 rfl)) (zc6 (zb7 (i:=1) (show List.Nodup (["at", "tie", "point"]:List Str) by decide +kernel) rfl (za9 rfl)) zh8)))) (fun _=>(zl7 (zc5 (zb6 0) (zc5 (zb6 1) zh6)))) (fun _ _ _ _ _ _=>(zad3 (zc8 zai1 (za0 2) (za0 1)))) (fun _ _ _ _ _ _=>(za0 0))))
theorem zad0:FnScope ["numbers", "many"] ["numbers", "many"] (zb8 zk7):=zn8 rfl rfl rfl rfl (by decide +kernel)
noncomputable def zo4:DS :=
 (dRet (dT1 qU (za2 (ze6 2 [] (fsZ (d2 qA (dT1 kLst (za2 (d1 kNeg (dC (.int 1))) dNil)) (dVar 0)) (d2 qA (dVar 0) (dT1 kLst (za2 (dVar 1) dNil)))) ktT ze5 (d2 qL (dVar 0) (dVar 1))) dNil)))
noncomputable def zi3:List D→Option Ev:=mkG 2 ["numbers", "many"] zo4
theorem zad8 (Fn:L2.Fun K "rise_below" "rise_below" zk7 ad fd) (bu:Blt mg) :FnOk P w K mg base CX0 1 ad fd ["numbers", "many"] (spD K zi3):=by
 have SC:=zad0
 refine zi8 (k:=0) Fn SC (fun _ _ e=>zf8 e) zo4 (fun _ _ e=>zi7 e) (fun cdv A outer s H E F hr=>?_)
 exact zb5 (zd5 (zb4 (zat3 (zl6 rfl)) rfl bu.n_all (by decide +kernel) (za1 (ze3 2 [] ["low", "high"] rfl (pid_zip rfl bu.n_zip (za7 (od_add.or zd9) (zf1 (za1 (zv0 za3) za4)) (za0 0)) (za7 (od_add.or zd9) (za0 0) (zf1 (za1 (za0 1) za4)))) (fun _ _ _ _ _=>(zl9 rfl (zc6 (zb7 (i:=0) (show List.Nodup (["low", "high"]:List Str) by decide +kernel) rfl (za9 rfl)) (zc6 (zb7 (i:=1) (show List.Nodup (["low", "high"]:List Str) by decide +kernel) rfl (za9 rfl)) zh8)))) (fun _=>(zl7 (zc5 (zb6 0) (zc5 (zb6 1) zh6)))) (fun _ _ _ _ _ _=>zh0) (fun _ _ _ _ _ _=>(zn2 zx7 (za0 0) (za0 1)))) za4)))
theorem zal8:FnScope ["web", "points", "many", "ties"] ["web", "points"] (zb8 zp5):=zn8 rfl rfl rfl rfl (by decide +kernel)
noncomputable def zac1:DS :=
 (dSeq (zaf0 (zg1 2 (zb3 (za5 2) (zb3 (za5 3) zg5))) (dVar 0)) (dSeq (dIfS (dNot (dTr (dT1 (zd3 zi3) (za2 (dVar 1) (za2 (dVar 2) dNil))))) (dRet (dC (.bl false))) zk6) (dRet (dT1 qU (za2 (ze6 2 [1] (fsL (dVar 3)) ktT ze5 (dOrV (d2 kIn (dVar 0) (dVar 2)) (d2 kIn (dVar 1) (dVar 2)))) dNil)))))
noncomputable def zm8:List D→Option Ev:=mkG 2 ["web", "points", "many", "ties"] zac1
theorem zan2 (Fn:L2.Fun K "is_cover" "is_cover" zp5 ad fd) (bu:Blt mg) (c_rise_below:Cal P w K mg base "rise_below" 1 zi3):FnOk P w K mg base CX0 2 ad fd ["web", "points"] (spD K zm8):=by
 have SC:=zal8
 refine zi8 (k:=1) Fn SC (fun _ _ e=>zf8 e) zac1 (fun _ _ e=>zi7 e) (fun cdv A outer s H E F hr=>?_)
 refine za6 ?_ ?_
 ·exact (zam1 (za0 0) (zl9 rfl (zc6 (zb7 (i:=2) SC.nd rfl (za9 rfl)) (zc6 (zb7 (i:=3) SC.nd rfl (za9 rfl)) zh8))) (zl7 (zc5 (zb6 2) (zc5 (zb6 3) zh6))))
 refine za6 ?_ ?_
 ·exact (zj7 (zu8 (zo0 (zc0 c_rise_below (hr.mono (by decide)) (za1 (za0 1) (za1 (za0 2) za4))))) (zb5 (zd5 zi6)) zh7)
 exact zb5 (zd5 (zb4 (zat3 (zl6 rfl)) rfl bu.n_all (by decide +kernel) (za1 (ze3 2 [1] ["one", "other", "points"] rfl (zl2 (za0 3)) (fun _ _ _ _ _=>(zl9 rfl (zc6 (zb7 (i:=0) (show List.Nodup (["one", "other", "points"]:List Str) by decide +kernel) rfl (za9 rfl)) (zc6 (zb7 (i:=1) (show List.Nodup (["one", "other", "points"]:List Str) by decide +kernel) rfl (za9 rfl)) zh8)))) (fun _=>(zl7 (zc5 (zb6 0) (zc5 (zb6 1) zh6)))) (fun _ _ _ _ _ _=>zh0) (fun _ _ _ _ _ _=>(ped_or (zn2 zai1 (za0 0) (za0 2)) (ped_one (zn2 zai1 (za0 1) (za0 2)))))) za4)))
theorem zaa1:FnScope ["web", "weights", "prices", "many", "ties", "paid"] ["web", "weights", "prices"] (zb8 zj1):=zn8 rfl rfl rfl rfl (by decide +kernel)
noncomputable def zt7:DS :=
 (dSeq (zaf0 (zg1 2 (zb3 (za5 3) (zb3 (za5 4) zg5))) (dVar 0)) (dSeq (dIfS (dOr (dBo (d2 kNe (dT1 kLen (za2 (dVar 2) dNil)) (dT1 kLen (za2 (dVar 4) dNil)))) (dTr (dT1 (kBls fun bs=>bs.any id) (za2 (ze6 1 [] (fsL (dVar 2)) (za5 0) ze5 (d2 qL (dVar 0) (dC (.int 0)))) dNil)))) (dRet (dC (.bl false))) zk6) (dSeq (dAsg 5 (ze6 1 [2,0] (fsR1 (dVar 3)) (za5 0) ze5 (dT1 kSum (za2 (ze6 1 [1] (fsL (dT1 (zd3 zk5) (za2 (dVar 2) (za2 (dVar 0) dNil)))) (za5 0) ze5 (d2 kIx (dVar 1) (dVar 0))) dNil)))) (dRet (dT1 qU (za2 (ze6 1 [5,1] (fsR1 (dVar 3)) (za5 0) ze5 (d2 qE (d2 kIx (dVar 1) (dVar 0)) (d2 kIx (dVar 2) (dVar 0)))) dNil))))))
noncomputable def zh4:List D→Option Ev:=mkG 3 ["web", "weights", "prices", "many", "ties", "paid"] zt7
theorem zaa5 (Fn:L2.Fun K "are_payable" "are_payable" zj1 ad fd) (bu:Blt mg) (c_ties_of:Cal P w K mg base "ties_of" 1 zk5):FnOk P w K mg base CX0 2 ad fd ["web", "weights", "prices"] (spD K zh4):=by
 have SC:=zaa1
 refine zi8 (k:=1) Fn SC (fun _ _ e=>zf8 e) zt7 (fun _ _ e=>zi7 e) (fun cdv A outer s H E F hr=>?_)
 refine za6 ?_ ?_
 ·exact (zam1 (za0 0) (zl9 rfl (zc6 (zb7 (i:=3) SC.nd rfl (za9 rfl)) (zc6 (zb7 (i:=4) SC.nd rfl (za9 rfl)) zh8))) (zl7 (zc5 (zb6 3) (zc5 (zb6 4) zh6))))
 refine za6 ?_ ?_
 ·exact (zj7 (L2.PW.pt (zag9 (zc8 (zaw1 hr.units) (zb4 zk1 rfl bu.n_len PySem.boot_len (za1 (za0 2) za4)) (zb4 zk1 rfl bu.n_len PySem.boot_len (za1 (za0 4) za4))) (zx2 (zo0 (zb4 (zat3 (zaa7 rfl)) rfl bu.n_any (by decide +kernel) (za1 (ze3 1 [] ["price"] rfl (zl2 (za0 2)) (fun _ _ _ _ _=>(zb7 (i:=0) (show List.Nodup (["price"]:List Str) by decide +kernel) rfl (za9 rfl))) (fun _=>(zb6 0)) (fun _ _ _ _ _ _=>zh0) (fun _ _ _ _ _ _=>(zn2 zx7 (za0 0) za3))) za4)))))) (zb5 (zd5 zi6)) zh7)
 refine za6 ?_ ?_
 ·exact (zb9 (i:=5) SC.nd rfl (za9 rfl) (ze3 1 [2,0] ["point", "prices", "web"] rfl (zw5 rfl bu.n_range (za0 3)) (fun _ _ _ _ _=>(zb7 (i:=0) (show List.Nodup (["point", "prices", "web"]:List Str) by decide +kernel) rfl (za9 rfl))) (fun _=>(zb6 0)) (fun _ _ _ _ _ _=>zh0) (fun _ _ _ _ _ _=>(zb4 (zak0 rfl) rfl bu.n_sum (by decide +kernel) (za1 (ze3 1 [1] ["at", "prices"] rfl (zl2 (zc0 c_ties_of (hr.mono (by decide)) (za1 (za0 2) (za1 (za0 0) za4)))) (fun _ _ _ _ _=>(zb7 (i:=0) (show List.Nodup (["at", "prices"]:List Str) by decide +kernel) rfl (za9 rfl))) (fun _=>(zb6 0)) (fun _ _ _ _ _ _=>zh0) (fun _ _ _ _ _ _=>(zb1 (za0 1) (za0 0)))) za4)))))
 exact zb5 (zd5 (zb4 (zat3 (zl6 rfl)) rfl bu.n_all (by decide +kernel) (za1 (ze3 1 [5,1] ["point", "paid", "weights"] rfl (zw5 rfl bu.n_range (za0 3)) (fun _ _ _ _ _=>(zb7 (i:=0) (show List.Nodup (["point", "paid", "weights"]:List Str) by decide +kernel) rfl (za9 rfl))) (fun _=>(zb6 0)) (fun _ _ _ _ _ _=>zh0) (fun _ _ _ _ _ _=>(zn2 zbc4 (zb1 (za0 1) (za0 0)) (zb1 (za0 2) (za0 0))))) za4)))
theorem zad1:FnScope ["web", "weights", "cover", "prices"] ["web", "weights", "cover", "prices"] (zb8 zk8):=zn8 rfl rfl rfl rfl (by decide +kernel)
noncomputable def zv6:DS :=
 (dSeq (dIfS (dOr (dNot (dTr (dT1 (zd3 zm8) (za2 (dVar 0) (za2 (dVar 2) dNil))))) (dNot (dTr (dT1 (zd3 zh4) (za2 (dVar 0) (za2 (dVar 1) (za2 (dVar 3) dNil))))))) (dRet (dC (.bl false))) zk6) (dRet (d2 qE (dT1 kSum (za2 (ze6 1 [1] (fsL (dVar 2)) (za5 0) ze5 (d2 kIx (dVar 1) (dVar 0))) dNil)) (d2 qM (dC (.int 2)) (dT1 kSum (za2 (dVar 3) dNil))))))
noncomputable def zi4:List D→Option Ev:=mkG 4 ["web", "weights", "cover", "prices"] zv6
theorem zad9 (Fn:L2.Fun K "lets_cover" "lets_cover" zk8 ad fd) (bu:Blt mg) (c_is_cover:Cal P w K mg base "is_cover" 2 zm8) (c_are_payable:Cal P w K mg base "are_payable" 2 zh4):FnOk P w K mg base CX0 3 ad fd ["web", "weights", "cover", "prices"] (spD K zi4):=by
 have SC:=zad1
 refine zi8 (k:=2) Fn SC (fun _ _ e=>zf8 e) zv6 (fun _ _ e=>zi7 e) (fun cdv A outer s H E F hr=>?_)
 refine za6 ?_ ?_
 ·exact (zj7 (L2.PW.pt (zag9 (zu8 (zo0 (zc0 c_is_cover (hr.mono (by decide)) (za1 (za0 0) (za1 (za0 2) za4))))) (zx2 (zu8 (zo0 (zc0 c_are_payable (hr.mono (by decide)) (za1 (za0 0) (za1 (za0 1) (za1 (za0 3) za4))))))))) (zb5 (zd5 zi6)) zh7)
 exact zb5 (zd5 (zn2 zbc4 (zb4 (zak0 rfl) rfl bu.n_sum (by decide +kernel) (za1 (ze3 1 [1] ["point", "weights"] rfl (zl2 (za0 2)) (fun _ _ _ _ _=>(zb7 (i:=0) (show List.Nodup (["point", "weights"]:List Str) by decide +kernel) rfl (za9 rfl))) (fun _=>(zb6 0)) (fun _ _ _ _ _ _=>zh0) (fun _ _ _ _ _ _=>(zb1 (za0 1) (za0 0)))) za4)) (za7 (od_mul.or zj8) za3 (zb4 (zak0 rfl) rfl bu.n_sum (by decide +kernel) (za1 (za0 3) za4)))))
theorem zaa0:FnScope ["_law_script", "_law_k"] ["_law_script", "_law_k"] (zb8 zj0):=zn8 rfl rfl rfl rfl (by decide +kernel)
noncomputable def zf5:DS :=
 (dSeq (dIfS (dBo (d2 qL (dVar 1) (dT1 kLen (za2 (dVar 0) dNil)))) (dRet (d2 kIx (dVar 0) (dVar 1))) zk6) (dRet (dC (.int 0))))
noncomputable def zc1:List D→Option Ev:=mkG 2 ["_law_script", "_law_k"] zf5
theorem zaa4 (Fn:L2.Fun K "_law_cell_at" "_law_cell_at" zj0 ad fd) (bu:Blt mg) :FnOk P w K mg base CX0 1 ad fd ["_law_script", "_law_k"] (spD K zc1):=by
 have SC:=zaa0
 refine zi8 (k:=0) Fn SC (fun _ _ e=>zf8 e) zf5 (fun _ _ e=>zi7 e) (fun cdv A outer s H E F hr=>?_)
 refine za6 ?_ ?_
 ·exact (zj7 (zc8 zx7 (za0 1) (zb4 zk1 rfl bu.n_len PySem.boot_len (za1 (za0 0) za4))) (zb5 (zd5 (zb1 (za0 0) (za0 1)))) zh7)
 exact zb5 (zd5 za3)
theorem zag7:FnScope ["_law_cell", "_law_k", "_law_number"] ["_law_cell", "_law_k"] (zb8 zm9):=zn8 rfl rfl rfl rfl (by decide +kernel)
noncomputable def zr6:DS :=
 (dSeq (dAsg 2 (d2 qR (d2 qA (d2 qA (d2 qR (dVar 0) (dC (.int 2147483647))) (d2 qM (d2 qM (dC (.int 69621)) (dVar 1)) (dVar 1))) (dC (.int 40014))) (dC (.int 2147483647)))) (dSeq (dAsg 2 (d2 qR (d2 qA (d2 qA (d2 qM (dVar 2) (dVar 2)) (d2 qM (dC (.int 7919)) (dVar 1))) (dC (.int 1))) (dC (.int 2147483629)))) (dRet (d2 qV (d2 qR (d2 qA (d2 qM (dVar 2) (dVar 2)) (d2 qM (dC (.int 104729)) (dVar 1))) (dC (.int 2147483587))) (dC (.int 64))))))
noncomputable def zd7:List D→Option Ev:=mkG 2 ["_law_cell", "_law_k", "_law_number"] zr6
theorem zah9 (Fn:L2.Fun K "_law_mixed" "_law_mixed" zm9 ad fd) (bu:Blt mg) :FnOk P w K mg base CX0 1 ad fd ["_law_cell", "_law_k"] (spD K zd7):=by
 have SC:=zag7
 refine zi8 (k:=0) Fn SC (fun _ _ e=>zf8 e) zr6 (fun _ _ e=>zi7 e) (fun cdv A outer s H E F hr=>?_)
 refine za6 ?_ ?_
 ·exact (zb9 (i:=2) SC.nd rfl (za9 rfl) (za7 ze8 (za7 (od_add.or zd9) (za7 (od_add.or zd9) (za7 ze8 (za0 0) za3) (za7 (od_mul.or zj8) (za7 (od_mul.or zj8) za3 (za0 1)) (za0 1))) za3) za3))
 refine za6 ?_ ?_
 ·exact (zb9 (i:=2) SC.nd rfl (za9 rfl) (za7 ze8 (za7 (od_add.or zd9) (za7 (od_add.or zd9) (za7 (od_mul.or zj8) (za0 2) (za0 2)) (za7 (od_mul.or zj8) za3 (za0 1))) za3) za3))
 exact zb5 (zd5 (za7 zh5 (za7 ze8 (za7 (od_add.or zd9) (za7 (od_mul.or zj8) (za0 2) (za0 2)) (za7 (od_mul.or zj8) za3 (za0 1))) za3) za3))
theorem zav0:FnScope ["_law_found", "_law_many", "_law_number", "_law_one", "_law_other"] ["_law_found", "_law_many", "_law_number"] (zb8 zs6):=zn8 rfl rfl rfl rfl (by decide +kernel)
theorem zaw0 (Fn:L2.Fun K "_law_put" "_law_put" zs6 ad fd) (bu:Blt mg):FnOk P w K mg base CX0 1 ad fd ["_law_found", "_law_many", "_law_number"] (spP putG):=by
 have SC:=zav0
 refine Fn.ok (k:=0) SC (fun vs H Q E h=>?_) (fun cdv A outer s H vs Q E hr h=>?_)
 ·obtain⟨p,ps,ps',ns,rfl,_,hg,_⟩:=h
  exact put_len hg
 ·obtain⟨p,ps,ps',ns,rfl,hp,hg,cont⟩:=h
  obtain⟨m,k,rfl⟩:=zba4 hg
  exact⟨tPutB K fP1 fP2 ftP gkP fvP,zp7 (zah1 (i:=3) SC.nd rfl (za9 rfl) (za7 ze8 (za0 2) (za0 1))) (zp7 (zah1 (i:=4) SC.nd rfl (za9 rfl) (za7 ze8 (za7 zh5 (za0 2) (za0 1)) (za0 1))) (zad4 (ps_if (zc8 (zaw1 hr.units) (za0 3) (za0 4)) (zad4 (ps_dput (zby6 (Nat.add_lt_add_left (by decide) _) hr.units) (zr0 (i:=0) rfl (by first | exact Or.inl rfl | exact Or.inr (Or.inl rfl) |exact Or.inr (Or.inr rfl))) (pe_tup (za1 (zb4 (zbh4 rfl) rfl bu.n_min (by decide +kernel) (za1 (za0 3) (za1 (za0 4) za4))) (za1 (zb4 (cd_max rfl) rfl bu.n_max (by decide +kernel) (za1 (za0 3) (za1 (za0 4) za4))) za4))) zi6 rfl)) zam0))),put_law hp hg cont⟩
theorem zal3:FnScope ["_law_script", "_law_many", "_law_found", "_law_k", "_law_cell", "_law_number", "_law_turn"] ["_law_script", "_law_many"] (zb8 zp0):=zn8 rfl rfl rfl rfl (by decide +kernel)
noncomputable def tieN:DE:=(dT1 (zd3 zd7) (za2 (dVar 4) (za2 (d2 qA (d2 qA (dC (.int 64)) (d2 qM (dC (.int 6)) (dVar 3))) (dVar 6)) dNil)))
noncomputable def bdT1:DS:=(dSeq (dIfS (dBo (d2 qE (dVar 5) (dC (.int 0)))) (dAsg 5 tieN) zk6)
  (dSeq (zac3 2 putG (za2 (dVar 1) (za2 (dVar 5) dNil)))
  (dAsg 5 (d2 qV (dVar 5) (d2 qM (dVar 1) (dVar 1))))))
noncomputable def bdT2:DS:=(zac3 2 putG (za2 (dVar 1) (za2 tieN dNil)))
noncomputable def bdT:DS:=(dIfS (dBo (d2 kEq (d2 qR (dT1 (zd3 zc1) (za2 (dVar 0) (za2 (dC (.int 0)) dNil))) (dC (.int 2))) (dC (.int 0)))) (dSeq (dAsg 5 (d2 qV (dVar 4) (dC (.int 61))))
  (zz3 (za5 6) (d2 qR (dVar 4) (dC (.int 61))) bdT1)) (zz3 (za5 6) (d2 qA (dC (.int 1)) (d2 qR (dT1 (zd3 zd7) (za2 (dVar 4) (za2 (dVar 3) dNil))) (dC (.int 6)))) bdT2))
noncomputable def zq3:DS :=
 (dSeq (dAsg 2 dNewP) (dSeq (zbg5 (zg1 2 (zb3 (za5 3) (zb3 (za5 4) zg5))) (dSl (dC (.int 3)) (dC (.int 62)) (dVar 0)) bdT) (dRet (dSlU (dC (.int 400)) (dT1 zaj0 (za2 (dVar 2) dNil))))))
noncomputable def zi0:List D→Option Ev:=mkG 2 ["_law_script", "_law_many", "_law_found", "_law_k", "_law_cell", "_law_number", "_law_turn"] zq3
theorem zam7 (Fn:L2.Fun K "_law_ties" "_law_ties" zp0 ad fd) (bu:Blt mg) (c_law_cell_at:Cal P w K mg base "_law_cell_at" 1 zc1) (c_law_mixed:Cal P w K mg base "_law_mixed" 1 zd7) (c_law_put:CalP P w K mg base "_law_put" 1 putG):FnOk P w K mg base CX0 2 ad fd ["_law_script", "_law_many"] (spD K zi0):=by
 have SC:=zal3
 refine zi8 (k:=1) Fn SC (fun _ _ e=>zf8 e) zq3 (fun _ _ e=>zi7 e) (fun cdv A outer s H E F hr=>?_)
 refine za6 ?_ ?_
 ·exact (zb9 (i:=2) SC.nd rfl (za9 rfl) ped_newP)
 refine za6 ?_ ?_
 ·exact (psd_enum PassesOwn.never rfl rfl bu.n_enumerate (zbb8 (za0 0) za3 za3) (zl9 rfl (zc6 (zb7 (i:=3) SC.nd rfl (za9 rfl)) (zc6 (zb7 (i:=4) SC.nd rfl (za9 rfl)) zh8))) (zl7 (zc5 (zb6 3) (zc5 (zb6 4) zh6))) (zb5 (zj7 (zc8 (zan3 hr.units) (za7 ze8 (zc0 c_law_cell_at (hr.mono (by decide)) (za1 (za0 0) (za1 za3 za4))) za3) za3) (za6 (zb9 (i:=5) SC.nd rfl (za9 rfl) (za7 zh5 (za0 4) za3))
  (zb5 (zp8 PassesOwn.never rfl rfl bu.n_range (za7 ze8 (za0 4) za3) (zb7 (i:=6) SC.nd rfl (za9 rfl)) (zb6 6) (za6 (zj7 (zc8 zbc4 (za0 5) za3) (zb5 (zb9 (i:=5) SC.nd rfl (za9 rfl) (zc0 c_law_mixed (hr.mono (by decide)) (za1 (za0 4) (za1 (za7 (od_add.or zd9) (za7 (od_add.or zd9) za3 (za7 (od_mul.or zj8) za3 (za0 3))) (za0 6)) za4))))) zh7)
  (za6 (zah0 2 c_law_put (hr.mono (by decide)) (za1 (za0 1) (za1 (za0 5) za4)))
  (zb5 (zb9 (i:=5) SC.nd rfl (za9 rfl) (za7 zh5 (za0 5) (za7 (od_mul.or zj8) (za0 1) (za0 1)))))))))) (zb5 (zp8 PassesOwn.never rfl rfl bu.n_range (za7 (od_add.or zd9) za3 (za7 ze8 (zc0 c_law_mixed (hr.mono (by decide)) (za1 (za0 4) (za1 (za0 3) za4))) za3)) (zb7 (i:=6) SC.nd rfl (za9 rfl)) (zb6 6) (zb5 (zah0 2 c_law_put (hr.mono (by decide)) (za1 (za0 1) (za1 (zc0 c_law_mixed (hr.mono (by decide)) (za1 (za0 4) (za1 (za7 (od_add.or zd9) (za7 (od_add.or zd9) za3 (za7 (od_mul.or zj8) za3 (za0 3))) (za0 6)) za4))) za4)))))))))
 exact zb5 (zd5 (zav6 (zb4 (cd_sortD rfl) rfl bu.n_sorted boot_sorted (za1 (za0 2) za4)) za3))
theorem zau9:FnScope ["_law_script", "_law_most", "_law_many"] ["_law_script", "_law_most"] (zb8 zs5):=zn8 rfl rfl rfl rfl (by decide +kernel)
noncomputable def zy9:DS :=
 (dSeq (dAsg 2 (d2 qA (dC (.int 1)) (d2 qR (d2 qV (dT1 (zd3 zc1) (za2 (dVar 0) (za2 (dC (.int 0)) dNil))) (dC (.int 2))) (dVar 1)))) (dRet (dT1 kTup (za2 (dVar 2) (za2 (dT1 (zd3 zi0) (za2 (dVar 0) (za2 (dVar 2) dNil))) dNil)))))
noncomputable def zm5:List D→Option Ev:=mkG 2 ["_law_script", "_law_most", "_law_many"] zy9
theorem zav9 (Fn:L2.Fun K "_law_web" "_law_web" zs5 ad fd) (bu:Blt mg) (c_law_cell_at:Cal P w K mg base "_law_cell_at" 1 zc1) (c_law_ties:Cal P w K mg base "_law_ties" 2 zi0):FnOk P w K mg base CX0 3 ad fd ["_law_script", "_law_most"] (spD K zm5):=by
 have SC:=zau9
 refine zi8 (k:=2) Fn SC (fun _ _ e=>zf8 e) zy9 (fun _ _ e=>zi7 e) (fun cdv A outer s H E F hr=>?_)
 refine za6 ?_ ?_
 ·exact (zb9 (i:=2) SC.nd rfl (za9 rfl) (za7 (od_add.or zd9) za3 (za7 ze8 (za7 zh5 (zc0 c_law_cell_at (hr.mono (by decide)) (za1 (za0 0) (za1 za3 za4))) za3) (za0 1))))
 exact zb5 (zd5 (zf7 (za1 (za0 2) (za1 (zc0 c_law_ties (hr.mono (by decide)) (za1 (za0 0) (za1 (za0 2) za4))) za4))))
theorem zz9:FnScope ["_law_script", "_law_many", "_law_found", "_law_number", "_law_k", "_law_drawn"] ["_law_script", "_law_many"] (zb8 zi9):=zn8 rfl rfl rfl rfl (by decide +kernel)
noncomputable def bdW:DS:=(dIfS (dAnd (dBo (d2 kEq (d2 qR (dT1 (zd3 zc1) (za2 (dVar 0) (za2 (dC (.int 0)) dNil))) (dC (.int 2))) (dC (.int 0)))) (dBo (d2 qG (dVar 3) (dC (.int 0))))) (dSeq (dApp 2 (d2 qR (dVar 3) (d2 qA (d2 qP (dC (.int 10)) (dC (.int 12))) (dC (.int 1)))))
  (dAsg 3 (d2 qV (dVar 3) (d2 qA (d2 qP (dC (.int 10)) (dC (.int 12))) (dC (.int 1)))))) (dSeq (dAsg 5 (dT1 (zd3 zd7) (za2 (dT1 (zd3 zc1) (za2 (dVar 0) (za2 (dC (.int 1)) dNil))) (za2 (d2 qA (dC (.int 500)) (dVar 4)) dNil))))
  (dApp 2 (d2 kIx (dT1 kLst (za2 (dC (.int 0)) (za2 (dC (.int 1)) (za2 (dC (.int 2)) (za2 (d2 qR (d2 qV (dVar 5) (dC (.int 4))) (dC (.int 10))) (za2 (d2 qR (d2 qV (dVar 5) (dC (.int 4))) (dC (.int 100))) (za2 (d2 qR (d2 qM (dVar 5) (dC (.int 29803))) (d2 qA (d2 qP (dC (.int 10)) (dC (.int 12))) (dC (.int 1)))) dNil))))))) (d2 qR (dVar 5) (dC (.int 6)))))))
noncomputable def zj3:DS :=
 (dSeq (dAsg 2 (dT1 kLst dNil)) (dSeq (dAsg 3 (dT1 (zd3 zc1) (za2 (dVar 0) (za2 (dC (.int 1)) dNil)))) (dSeq (zz3 (za5 4) (dVar 1) bdW) (dRetO 2))))
noncomputable def zh3:List D→Option Ev:=mkG 2 ["_law_script", "_law_many", "_law_found", "_law_number", "_law_k", "_law_drawn"] zj3
theorem zaa3 (Fn:L2.Fun K "_law_weights" "_law_weights" zi9 ad fd) (bu:Blt mg) (c_law_cell_at:Cal P w K mg base "_law_cell_at" 1 zc1) (c_law_mixed:Cal P w K mg base "_law_mixed" 1 zd7):FnOk P w K mg base CX0 2 ad fd ["_law_script", "_law_many"] (spD K zh3):=by
 have SC:=zz9
 refine zi8 (k:=1) Fn SC (fun _ _ e=>zf8 e) zj3 (fun _ _ e=>zi7 e) (fun cdv A outer s H E F hr=>?_)
 refine za6 ?_ ?_
 ·exact (zb9 (i:=2) SC.nd rfl (za9 rfl) (zf1 za4))
 refine za6 ?_ ?_
 ·exact (zb9 (i:=3) SC.nd rfl (za9 rfl) (zc0 c_law_cell_at (hr.mono (by decide)) (za1 (za0 0) (za1 za3 za4))))
 refine za6 ?_ ?_
 ·exact (zp8 PassesOwn.never rfl rfl bu.n_range (za0 1) (zb7 (i:=4) SC.nd rfl (za9 rfl)) (zb6 4) (zb5 (zj7 (L2.PW.pt (zn9 (zc8 (zan3 hr.units) (za7 ze8 (zc0 c_law_cell_at (hr.mono (by decide)) (za1 (za0 0) (za1 za3 za4))) za3) za3) (zl0 (zc8 od_gt (za0 3) za3)))) (za6 (zu9 2 (za7 ze8 (za0 3) (za7 (od_add.or zd9) (za7 zai0 za3 za3) za3)))
  (zb5 (zb9 (i:=3) SC.nd rfl (za9 rfl) (za7 zh5 (za0 3) (za7 (od_add.or zd9) (za7 zai0 za3 za3) za3))))) (za6 (zb9 (i:=5) SC.nd rfl (za9 rfl) (zc0 c_law_mixed (hr.mono (by decide)) (za1 (zc0 c_law_cell_at (hr.mono (by decide)) (za1 (za0 0) (za1 za3 za4))) (za1 (za7 (od_add.or zd9) za3 (za0 4)) za4))))
  (zb5 (zu9 2 (zb1 (by refine zf1 ?_;exact (by refine za1 ?_ ?_ ?_;exact za3;exact (by refine za1 ?_ ?_ ?_;exact za3;exact (by refine za1 ?_ ?_ ?_;exact za3;exact (by refine za1 ?_ ?_ ?_;exact (za7 ze8 (za7 zh5 (za0 5) za3) za3);exact (by refine za1 ?_ ?_ ?_;exact (za7 ze8 (za7 zh5 (za0 5) za3) za3);exact (by refine za1 ?_ ?_ ?_;exact (za7 ze8 (za7 (od_mul.or zj8) (za0 5) za3) (za7 (od_add.or zd9) (za7 zai0 za3 za3) za3));exact za4;exact (zc2 rfl));exact (zc2 rfl));exact (zc2 rfl));exact (zc2 rfl));exact (zc2 rfl));exact (zc2 rfl))) (za7 ze8 (za0 5) za3))))))))
 exact zb5 (psd_retO 2)
theorem zal4:FnScope ["_law_web_here", "_law_weights_here", "_law_left", "_law_prices", "_law_one", "_law_other", "_law_price", "_law_tied"] ["_law_web_here", "_law_weights_here"] (zb8 zp1):=zn8 rfl rfl rfl rfl (by decide +kernel)
noncomputable def bdR:DS:=(dSeq (dAsg 6 (d2 kIx (dVar 2) (dVar 4)))
  (dSeq (dIfS (dBo (d2 qL (d2 kIx (dVar 2) (dVar 5)) (dVar 6))) (dAsg 6 (d2 kIx (dVar 2) (dVar 5))) zk6)
  (dSeq (dApp 3 (dVar 6))
  (dSeq (zk0 2 (dVar 4) (d2 qS (d2 kIx (dVar 2) (dVar 4)) (dVar 6)))
  (zk0 2 (dVar 5) (d2 qS (d2 kIx (dVar 2) (dVar 5)) (dVar 6)))))))
noncomputable def ftR:DT:=(dAnd (dTr (d2 kIx (dVar 1) (dVar 0))) (dBo (d2 kEq (d2 kIx (dVar 2) (dVar 0)) (dC (.int 0)))))
noncomputable def bdS:DS:=(dSeq (zk0 7 (dVar 4) (dC (.bl true))) (zk0 7 (dVar 5) (dC (.bl true))))
noncomputable def zab9:DS :=
 (dSeq (dAsg 2 (dT1 zn4 (za2 (dVar 1) dNil))) (dSeq (dAsg 3 (dT1 kLst dNil)) (dSeq (dFor (zg1 2 (zb3 (za5 4) (zb3 (za5 5) zg5))) (d2 kIx (dVar 0) (dC (.int 1))) bdR) (dSeq (dAsg 7 (d2 qM (dT1 kLst (za2 (dC (.bl false)) dNil)) (d2 kIx (dVar 0) (dC (.int 0))))) (dSeq (dFor (zg1 2 (zb3 (za5 4) (zb3 (za5 5) zg5))) (d2 kIx (dVar 0) (dC (.int 1))) bdS) (dRet (dT1 kTup (za2 (ze6 1 [7,2] (fsR1 (d2 kIx (dVar 0) (dC (.int 0)))) (za5 0) ftR (dVar 0)) (za2 (dVar 3) dNil)))))))))
noncomputable def zm6:List D→Option Ev:=mkG 2 ["_law_web_here", "_law_weights_here", "_law_left", "_law_prices", "_law_one", "_law_other", "_law_price", "_law_tied"] zab9
theorem zam8 (Fn:L2.Fun K "_law_rule" "_law_rule" zp1 ad fd) (bu:Blt mg) :FnOk P w K mg base CX0 1 ad fd ["_law_web_here", "_law_weights_here"] (spD K zm6):=by
 have SC:=zal4
 refine zi8 (k:=0) Fn SC (fun _ _ e=>zf8 e) zab9 (fun _ _ e=>zi7 e) (fun cdv A outer s H E F hr=>?_)
 refine za6 ?_ ?_
 ·exact (zb9 (i:=2) SC.nd rfl (za9 rfl) (zh1 zr8 rfl bu.n_list zr9 (za1 (za0 1) za4)))
 refine za6 ?_ ?_
 ·exact (zb9 (i:=3) SC.nd rfl (za9 rfl) (zf1 za4))
 refine za6 ?_ ?_
 ·exact (zad6 PassesOwn.never rfl (zb1 (za0 0) za3) (zl9 rfl (zc6 (zb7 (i:=4) SC.nd rfl (za9 rfl)) (zc6 (zb7 (i:=5) SC.nd rfl (za9 rfl)) zh8))) (zl7 (zc5 (zb6 4) (zc5 (zb6 5) zh6))) (za6 (zb9 (i:=6) SC.nd rfl (za9 rfl) (zb1 (za0 2) (za0 4)))
  (za6 (zj7 (zc8 zx7 (zb1 (za0 2) (za0 5)) (za0 6)) (zb5 (zb9 (i:=6) SC.nd rfl (za9 rfl) (zb1 (za0 2) (za0 5)))) zh7)
  (za6 (zu9 3 (za0 6))
  (za6 (zn1 2 (za0 4) (za7 zx6 (zb1 (za0 2) (za0 4)) (za0 6)))
  (zb5 (zn1 2 (za0 5) (za7 zx6 (zb1 (za0 2) (za0 5)) (za0 6)))))))))
 refine za6 ?_ ?_
 ·exact (zb9 (i:=7) SC.nd rfl (za9 rfl) (za7 (od_mul.or zj8) (zf1 (za1 zi6 za4)) (zb1 (za0 0) za3)))
 refine za6 ?_ ?_
 ·exact (zad6 PassesOwn.never rfl (zb1 (za0 0) za3) (zl9 rfl (zc6 (zb7 (i:=4) SC.nd rfl (za9 rfl)) (zc6 (zb7 (i:=5) SC.nd rfl (za9 rfl)) zh8))) (zl7 (zc5 (zb6 4) (zc5 (zb6 5) zh6))) (za6 (zn1 7 (za0 4) zi6)
  (zb5 (zn1 7 (za0 5) zi6))))
 exact zb5 (zd5 (zf7 (za1 (ze3 1 [7,2] ["_law_point", "_law_tied", "_law_left"] rfl (zw5 rfl bu.n_range (zb1 (za0 0) za3)) (fun _ _ _ _ _=>(zb7 (i:=0) (show List.Nodup (["_law_point", "_law_tied", "_law_left"]:List Str) by decide +kernel) rfl (za9 rfl))) (fun _=>(zb6 0)) (fun _ _ _ _ _ _=>(zad3 (L2.PW.pt (zn9 (zo0 (zb1 (za0 1) (za0 0))) (zl0 (zc8 (zan3 hr.units) (zb1 (za0 2) (za0 0)) za3)))))) (fun _ _ _ _ _ _=>(za0 0))) (za1 (za0 3) za4))))
theorem zal5:FnScope ["_law_web_here", "_law_weights_here", "_law_chosen", "_law_prices", "_law_last", "_law_there", "_law_point", "_law_loads", "_law_k", "_law_one", "_law_other"] ["_law_web_here", "_law_weights_here", "_law_chosen", "_law_prices"] (zb8 zp2):=zn8 rfl rfl rfl rfl (by decide +kernel)
noncomputable def bd2:DS:=(dSeq (zaf0 (zg1 2 (zb3 (za5 9) (zb3 (za5 10) zg5))) (d2 kIx (d2 kIx (dVar 0) (dC (.int 1))) (dVar 8)))
  (dSeq (dIfS (dOr (dBo (d2 qL (d2 kIx (dVar 3) (dVar 8)) (dC (.int 0)))) (dAnd (dNot (dTr (d2 kIx (dVar 5) (dVar 9)))) (dNot (dTr (d2 kIx (dVar 5) (dVar 10)))))) (dRet (dC (.bl false))) zk6)
  (dSeq (zk0 7 (dVar 9) (d2 qA (d2 kIx (dVar 7) (dVar 9)) (d2 kIx (dVar 3) (dVar 8))))
  (zk0 7 (dVar 10) (d2 qA (d2 kIx (dVar 7) (dVar 10)) (d2 kIx (dVar 3) (dVar 8)))))))
noncomputable def bd1:DS:=(dSeq (dIfS (dOr (dBo (d2 qE (dVar 6) (dVar 4))) (dBo (d2 (kI tt2 fun i j=>.bl (decide (j≤i))) (dVar 6) (d2 kIx (dVar 0) (dC (.int 0)))))) (dRet (dC (.bl false))) zk6)
  (dSeq (dAsg 4 (dVar 6))
  (zk0 5 (dVar 6) (dC (.bl true)))))
noncomputable def bd3:DS:=(dIfS (dBo (d2 kNe (ze6 1 [7,1] (fsR1 (d2 kIx (dVar 0) (dC (.int 0)))) (za5 0) (dBo (d2 qG (d2 kIx (dVar 1) (dVar 0)) (d2 kIx (dVar 2) (dVar 0)))) (dVar 0)) (dT1 kLst dNil))) (dRet (dC (.bl false))) zk6)
noncomputable def zac0:DS :=
 (dSeq (dAsg 4 (d1 kNeg (dC (.int 1)))) (dSeq (dAsg 5 (d2 qM (dT1 kLst (za2 (dC (.bl false)) dNil)) (d2 kIx (dVar 0) (dC (.int 0))))) (dSeq (dFor (za5 6) (dVar 2) bd1) (dSeq (dIfS (dBo (d2 kNe (dT1 kLen (za2 (dVar 3) dNil)) (dT1 kLen (za2 (d2 kIx (dVar 0) (dC (.int 1))) dNil)))) (dRet (dC (.bl false))) zk6) (dSeq (dAsg 7 (d2 qM (dT1 kLst (za2 (dC (.int 0)) dNil)) (d2 kIx (dVar 0) (dC (.int 0))))) (dSeq (zz3 (za5 8) (dT1 kLen (za2 (dVar 3) dNil)) bd2) (dSeq bd3 (dRet (d2 qE (dT1 kSum (za2 (ze6 1 [1] (fsL (dVar 2)) (za5 0) ze5 (d2 kIx (dVar 1) (dVar 0))) dNil)) (d2 qM (dC (.int 2)) (dT1 kSum (za2 (dVar 3) dNil))))))))))))
noncomputable def zj6:List D→Option Ev:=mkG 4 ["_law_web_here", "_law_weights_here", "_law_chosen", "_law_prices", "_law_last", "_law_there", "_law_point", "_law_loads", "_law_k", "_law_one", "_law_other"] zac0
theorem zam9 (Fn:L2.Fun K "_law_lets" "_law_lets" zp2 ad fd) (bu:Blt mg) :FnOk P w K mg base CX0 1 ad fd ["_law_web_here", "_law_weights_here", "_law_chosen", "_law_prices"] (spD K zj6):=by
 have SC:=zal5
 refine zi8 (k:=0) Fn SC (fun _ _ e=>zf8 e) zac0 (fun _ _ e=>zi7 e) (fun cdv A outer s H E F hr=>?_)
 refine za6 ?_ ?_
 ·exact (zb9 (i:=4) SC.nd rfl (za9 rfl) (zv0 za3))
 refine za6 ?_ ?_
 ·exact (zb9 (i:=5) SC.nd rfl (za9 rfl) (za7 (od_mul.or zj8) (zf1 (za1 zi6 za4)) (zb1 (za0 0) za3)))
 refine za6 ?_ ?_
 ·exact (zad6 PassesOwn.never rfl (za0 2) (zb7 (i:=6) SC.nd rfl (za9 rfl)) (zb6 6) (za6 (zj7 (L2.PW.pt (zag9 (zc8 zbc4 (za0 6) (za0 4)) (zx2 (zc8 od_ge (za0 6) (zb1 (za0 0) za3))))) (zb5 (zd5 zi6)) zh7)
  (za6 (zb9 (i:=4) SC.nd rfl (za9 rfl) (za0 6))
  (zb5 (zn1 5 (za0 6) zi6)))))
 refine za6 ?_ ?_
 ·exact (zj7 (zc8 (zaw1 hr.units) (zb4 zk1 rfl bu.n_len PySem.boot_len (za1 (za0 3) za4)) (zb4 zk1 rfl bu.n_len PySem.boot_len (za1 (zb1 (za0 0) za3) za4))) (zb5 (zd5 zi6)) zh7)
 refine za6 ?_ ?_
 ·exact (zb9 (i:=7) SC.nd rfl (za9 rfl) (za7 (od_mul.or zj8) (zf1 (za1 za3 za4)) (zb1 (za0 0) za3)))
 refine za6 ?_ ?_
 ·exact (zp8 PassesOwn.never rfl rfl bu.n_range (zb4 zk1 rfl bu.n_len PySem.boot_len (za1 (za0 3) za4)) (zb7 (i:=8) SC.nd rfl (za9 rfl)) (zb6 8) (za6 (zam1 (zb1 (zb1 (za0 0) za3) (za0 8)) (zl9 rfl (zc6 (zb7 (i:=9) SC.nd rfl (za9 rfl)) (zc6 (zb7 (i:=10) SC.nd rfl (za9 rfl)) zh8))) (zl7 (zc5 (zb6 9) (zc5 (zb6 10) zh6))))
  (za6 (zj7 (L2.PW.pt (zag9 (zc8 zx7 (zb1 (za0 3) (za0 8)) za3) (zx2 (L2.PW.pt (zn9 (zu8 (zo0 (zb1 (za0 5) (za0 9)))) (zl0 (zu8 (zo0 (zb1 (za0 5) (za0 10)))))))))) (zb5 (zd5 zi6)) zh7)
  (za6 (zn1 7 (za0 9) (za7 (od_add.or zd9) (zb1 (za0 7) (za0 9)) (zb1 (za0 3) (za0 8))))
  (zb5 (zn1 7 (za0 10) (za7 (od_add.or zd9) (zb1 (za0 7) (za0 10)) (zb1 (za0 3) (za0 8)))))))))
 refine za6 ?_ ?_
 ·exact (zj7 (zc8 (zaw1 hr.units) (ze3 1 [7,1] ["_law_point", "_law_loads", "_law_weights_here"] rfl (zw5 rfl bu.n_range (zb1 (za0 0) za3)) (fun _ _ _ _ _=>(zb7 (i:=0) (show List.Nodup (["_law_point", "_law_loads", "_law_weights_here"]:List Str) by decide +kernel) rfl (za9 rfl))) (fun _=>(zb6 0)) (fun _ _ _ _ _ _=>(zad3 (zc8 od_gt (zb1 (za0 1) (za0 0)) (zb1 (za0 2) (za0 0))))) (fun _ _ _ _ _ _=>(za0 0))) (zf1 za4)) (zb5 (zd5 zi6)) zh7)
 exact zb5 (zd5 (zn2 zbc4 (zb4 (zak0 rfl) rfl bu.n_sum (by decide +kernel) (za1 (ze3 1 [1] ["_law_point", "_law_weights_here"] rfl (zl2 (za0 2)) (fun _ _ _ _ _=>(zb7 (i:=0) (show List.Nodup (["_law_point", "_law_weights_here"]:List Str) by decide +kernel) rfl (za9 rfl))) (fun _=>(zb6 0)) (fun _ _ _ _ _ _=>zh0) (fun _ _ _ _ _ _=>(zb1 (za0 1) (za0 0)))) za4)) (za7 (od_mul.or zj8) za3 (zb4 (zak0 rfl) rfl bu.n_sum (by decide +kernel) (za1 (za0 3) za4)))))
theorem zal7:FnScope ["_law_paper", "_law_most", "_law_cell", "_law_rows", "_law_what", "_law_which", "_law_row", "_law_at", "_law_number", "_law_kept"] ["_law_paper", "_law_most", "_law_cell"] (zb8 zp4):=zn8 rfl rfl rfl rfl (by decide +kernel)
noncomputable def b4:DS:=(dIfS (dBo (d2 kIn (dVar 4) (dT1 kTup (za2 (dC (.int 0)) (za2 (dC (.int 7)) dNil))))) (dIns 6 (za2 (dVar 7) (za2 (dVar 8) dNil))) (dIfS (dAnd (dBo (d2 kEq (dVar 4) (dC (.int 1)))) (dBo (d2 qL (dVar 7) (dT1 kLen (za2 (dVar 6) dNil))))) (dIns 6 (za2 (dVar 7) (za2 (d2 kIx (dVar 6) (dVar 7)) dNil))) (dIfS (dAnd (dBo (d2 kIn (dVar 4) (dT1 kTup (za2 (dC (.int 2)) (za2 (dC (.int 8)) dNil))))) (dBo (d2 qL (dVar 7) (dT1 kLen (za2 (dVar 6) dNil))))) (zbg3 6 (dVar 7)) (dIfS (dAnd (dBo (d2 kIn (dVar 4) (dT1 kTup (za2 (dC (.int 3)) (za2 (dC (.int 9)) dNil))))) (dBo (d2 qL (dVar 7) (dT1 kLen (za2 (dVar 6) dNil))))) (zk0 6 (dVar 7) (dVar 8)) (dIfS (dAnd (dBo (d2 kIn (dVar 4) (dT1 kTup (za2 (dC (.int 4)) (za2 (dC (.int 10)) dNil))))) (dBo (d2 qL (dVar 7) (dT1 kLen (za2 (dVar 6) dNil))))) (zk0 6 (dVar 7) (d2 qA (d2 kIx (dVar 6) (dVar 7)) (dC (.int 1)))) (dIfS (dAnd (dBo (d2 kIn (dVar 4) (dT1 kTup (za2 (dC (.int 5)) (za2 (dC (.int 11)) dNil))))) (dBo (d2 qL (dVar 7) (dT1 kLen (za2 (dVar 6) dNil))))) (zk0 6 (dVar 7) (d2 qS (d2 kIx (dVar 6) (dVar 7)) (dC (.int 1)))) (dIfS (dBo (d2 qL (dVar 7) (dT1 kLen (za2 (dVar 6) dNil)))) (dSeq (dAsg 9 (d2 kIx (dVar 6) (dVar 7))) (dSeq (zk0 6 (dVar 7) (d2 kIx (dVar 6) (d1 kNeg (dC (.int 1))))) (zk0 6 (d1 kNeg (dC (.int 1))) (dVar 9)))) zk6)))))))
noncomputable def b3:DS:=(dIfS (dBo (d2 kEq (d2 qR (d2 qV (dVar 2) (dC (.int 26))) (dC (.int 5))) (dC (.int 4)))) (dAsg 8 (d2 kIx (dT1 kLst (za2 (d1 kNeg (dC (.int 2))) (za2 (d2 qS (d2 qS (dC (.int 0)) (dVar 8)) (dC (.int 2))) (za2 (d2 qA (d2 qP (dC (.int 10)) (dC (.int 12))) (dVar 8)) (za2 (d2 qP (dC (.int 10)) (dC (.int 30))) dNil))))) (d2 qR (d2 qV (dVar 2) (dC (.int 130))) (dC (.int 4))))) zk6)
noncomputable def b8:DS:=(dAsg 8 (d2 qS (d2 qR (d2 qV (d2 qV (dVar 2) (dC (.int 13))) (d2 qA (dT1 kLen (za2 (dVar 6) dNil)) (dC (.int 1)))) (d2 qA (dVar 1) (dC (.int 3)))) (dC (.int 1))))
noncomputable def b7:DS:=(dAsg 7 (d2 qR (d2 qV (dVar 2) (dC (.int 13))) (d2 qA (dT1 kLen (za2 (dVar 6) dNil)) (dC (.int 1)))))
noncomputable def zm4:DS :=
 (dSeq (dAsg 3 (zax2 (zae1 (nOf (dT1 zn4 (za2 (d2 kIx (dVar 0) (dC (.int 0))) dNil))) (zae1 (nOf (dT1 zn4 (za2 (d2 kIx (dVar 0) (dC (.int 1))) dNil))) nNil)))) (dSeq (dAsg 4 (d2 qR (dVar 2) (dC (.int 13)))) (dSeq (dAsg 5 (dT1 zao0 (za2 (d2 qG (dVar 4) (dC (.int 6))) dNil))) (zao3 3 6 (dVar 5) fun ds k=>(zw3 b7 (zw3 b8 (zw3 b3 (zw3 b4 (zbg4 3 6 ds k (dRet (dT1 kTup (za2 (d2 kIx (dVar 3) (dC (.int 0))) (za2 (d2 kIx (dVar 3) (dC (.int 1))) dNil)))))))))))))
noncomputable def zg8:List D→Option Ev:=mkG 3 ["_law_paper", "_law_most", "_law_cell", "_law_rows", "_law_what", "_law_which", "_law_row", "_law_at", "_law_number", "_law_kept"] zm4
theorem zan1 (Fn:L2.Fun K "_law_bent" "_law_bent" zp4 ad fd) (bu:Blt mg) :FnOk P w K mg base CX0 1 ad fd ["_law_paper", "_law_most", "_law_cell"] (spD K zg8):=by
 have SC:=zal7
 refine zi8 (k:=0) Fn SC (fun _ _ e=>zf8 e) zm4 (fun _ _ e=>zi7 e) (fun cdv A outer s H E F hr=>?_)
 refine za6 ?_ ?_
 ·exact (zb9 (i:=3) SC.nd rfl (za9 rfl) (ped_newL (zar8 (pn_of (zh1 zr8 rfl bu.n_list zr9 (za1 (zb1 (za0 0) za3) za4))) (zar8 (pn_of (zh1 zr8 rfl bu.n_list zr9 (za1 (zb1 (za0 0) za3) za4))) pns_nil))))
 refine za6 ?_ ?_
 ·exact (zb9 (i:=4) SC.nd rfl (za9 rfl) (za7 ze8 (za0 2) za3))
 refine za6 ?_ ?_
 ·exact (zb9 (i:=5) SC.nd rfl (za9 rfl) (zh1 zbh5 rfl bu.n_int bt_int (za1 (zn2 od_gt (za0 4) za3) za4)))
 exact (psd_lend (ir:=3) (jx:=6) SC.nd rfl (za9 rfl) (za0 5)
  (zt3 (fun _=>(zar7 (i:=7) (by decide) SC.nd rfl (za9 rfl) (za7 ze8 (za7 zh5 (za0 2) za3) (za7 (od_add.or zd9) (zb4 zk1 rfl bu.n_len PySem.boot_len (za1 (za0 6) za4)) za3))))
  (zt3 (fun _=>(zar7 (i:=8) (by decide) SC.nd rfl (za9 rfl) (za7 zx6 (za7 ze8 (za7 zh5 (za7 zh5 (za0 2) za3) (za7 (od_add.or zd9) (zb4 zk1 rfl bu.n_len PySem.boot_len (za1 (za0 6) za4)) za3)) (za7 (od_add.or zd9) (za0 1) za3)) za3)))
  (zt3 (fun _=>(zah2 (zc8 (zan3 hr.units) (za7 ze8 (za7 zh5 (za0 2) za3) za3) za3) (zl1 (zar7 (i:=8) (by decide) SC.nd rfl (za9 rfl) (zb1 (by refine zf1 ?_;exact (by refine za1 ?_ ?_ ?_;exact (zv0 za3);exact (by refine za1 ?_ ?_ ?_;exact (za7 zx6 (za7 zx6 za3 (za0 8)) za3);exact (by refine za1 ?_ ?_ ?_;exact (za7 (od_add.or zd9) (za7 zai0 za3 za3) (za0 8));exact (by refine za1 ?_ ?_ ?_;exact (za7 zai0 za3 za3);exact za4;exact (zc2 rfl));exact (zc2 rfl));exact (zc2 rfl));exact (zc2 rfl))) (za7 ze8 (za7 zh5 (za0 2) za3) za3)))) pp_nil))
  (zt3 (fun _=>(zah2 (zc8 zai1 (za0 4) (zf7 (za1 za3 (za1 za3 za4)))) (zl1 (pp_ins 6 (za1 (za0 7) (za1 (za0 8) za4)))) (zl1 (zah2 (L2.PW.pt (zn9 (zc8 (zan3 hr.units) (za0 4) za3) (zl0 (zc8 zx7 (za0 7) (zb4 zk1 rfl bu.n_len PySem.boot_len (za1 (za0 6) za4)))))) (zl1 (pp_ins 6 (za1 (za0 7) (za1 (zb1 (za0 6) (za0 7)) za4)))) (zl1 (zah2 (L2.PW.pt (zn9 (zc8 zai1 (za0 4) (zf7 (za1 za3 (za1 za3 za4)))) (zl0 (zc8 zx7 (za0 7) (zb4 zk1 rfl bu.n_len PySem.boot_len (za1 (za0 6) za4)))))) (zl1 (pp_popE 6 (za0 7))) (zl1 (zah2 (L2.PW.pt (zn9 (zc8 zai1 (za0 4) (zf7 (za1 za3 (za1 za3 za4)))) (zl0 (zc8 zx7 (za0 7) (zb4 zk1 rfl bu.n_len PySem.boot_len (za1 (za0 6) za4)))))) (zl1 (zx3 6 (za0 7) (za0 8))) (zl1 (zah2 (L2.PW.pt (zn9 (zc8 zai1 (za0 4) (zf7 (za1 za3 (za1 za3 za4)))) (zl0 (zc8 zx7 (za0 7) (zb4 zk1 rfl bu.n_len PySem.boot_len (za1 (za0 6) za4)))))) (zl1 (zx3 6 (za0 7) (za7 (od_add.or zd9) (zb1 (za0 6) (za0 7)) za3))) (zl1 (zah2 (L2.PW.pt (zn9 (zc8 zai1 (za0 4) (zf7 (za1 za3 (za1 za3 za4)))) (zl0 (zc8 zx7 (za0 7) (zb4 zk1 rfl bu.n_len PySem.boot_len (za1 (za0 6) za4)))))) (zl1 (zx3 6 (za0 7) (za7 zx6 (zb1 (za0 6) (za0 7)) za3))) (zl1 (zah2 (zc8 zx7 (za0 7) (zb4 zk1 rfl bu.n_len PySem.boot_len (za1 (za0 6) za4))) (zbb0 (zar7 (i:=9) (by decide) SC.nd rfl (za9 rfl) (zb1 (za0 6) (za0 7))) (zbb0 (zx3 6 (za0 7) (zb1 (za0 6) (zv0 za3))) (zl1 (zx3 6 (zv0 za3) (za0 9))))) pp_nil))))))))))))))
  (lent_end (zb5 (zd5 (zf7 (za1 (zb1 (za0 3) za3) (za1 (zb1 (za0 3) za3) za4)))))))))))
theorem zal6:FnScope ["_law_cell", "_law_many", "_law_ties_here", "_law_most", "_law_chosen", "_law_point", "_law_prices", "_law_k"] ["_law_cell", "_law_many", "_law_ties_here", "_law_most"] (zb8 zp3):=zn8 rfl rfl rfl rfl (by decide +kernel)
noncomputable def f2:DS:=(dSeq (dApp 6 (d2 qS (d2 qR (d2 qV (dVar 0) (dC (.int 244))) (d2 qA (dVar 3) (dC (.int 3)))) (dC (.int 1))))
  (dAsg 0 (d2 qV (dVar 0) (d2 qA (dVar 3) (dC (.int 3))))))
noncomputable def f1:DS:=(dSeq (dIfS (dBo (d2 kEq (d2 qR (dVar 0) (dC (.int 2))) (dC (.int 1)))) (dApp 4 (dVar 5)) zk6)
  (dAsg 0 (d2 qV (dVar 0) (dC (.int 2)))))
noncomputable def zq4:DS :=
 (dSeq (dAsg 4 (dT1 kLst dNil)) (dSeq (zbg2 (za5 5) (d1 kNeg (dC (.int 1))) (d2 qA (dVar 1) (dC (.int 1))) f1) (dSeq (dAsg 6 (dT1 kLst dNil)) (dSeq (zz3 (za5 7) (d2 kIx (dT1 kLst (za2 (dVar 2) (za2 (d2 qR (d2 qV (dVar 0) (dC (.int 4))) (dC (.int 61))) dNil))) (dT1 zao0 (za2 (d2 kEq (d2 qR (dVar 0) (dC (.int 4))) (dC (.int 3))) dNil))) f2) (dRet (dT1 kTup (za2 (dVar 4) (za2 (dVar 6) dNil))))))))
noncomputable def zm7:List D→Option Ev:=mkG 4 ["_law_cell", "_law_many", "_law_ties_here", "_law_most", "_law_chosen", "_law_point", "_law_prices", "_law_k"] zq4
theorem zan0 (Fn:L2.Fun K "_law_free" "_law_free" zp3 ad fd) (bu:Blt mg) :FnOk P w K mg base CX0 1 ad fd ["_law_cell", "_law_many", "_law_ties_here", "_law_most"] (spD K zm7):=by
 have SC:=zal6
 refine zi8 (k:=0) Fn SC (fun _ _ e=>zf8 e) zq4 (fun _ _ e=>zi7 e) (fun cdv A outer s H E F hr=>?_)
 refine za6 ?_ ?_
 ·exact (zb9 (i:=4) SC.nd rfl (za9 rfl) (zf1 za4))
 refine za6 ?_ ?_
 ·exact (psd_rng2 PassesOwn.never rfl rfl bu.n_range (zv0 za3) (za7 (od_add.or zd9) (za0 1) za3) (zb7 (i:=5) SC.nd rfl (za9 rfl)) (zb6 5) (za6 (zj7 (zc8 (zan3 hr.units) (za7 ze8 (za0 0) za3) za3) (zb5 (zu9 4 (za0 5))) zh7)
  (zb5 (zb9 (i:=0) SC.nd rfl (za9 rfl) (za7 zh5 (za0 0) za3)))))
 refine za6 ?_ ?_
 ·exact (zb9 (i:=6) SC.nd rfl (za9 rfl) (zf1 za4))
 refine za6 ?_ ?_
 ·exact (zp8 PassesOwn.never rfl rfl bu.n_range (zb1 (zf1 (za1 (za0 2) (za1 (za7 ze8 (za7 zh5 (za0 0) za3) za3) za4))) (zh1 zbh5 rfl bu.n_int bt_int (za1 (zn2 (zan3 hr.units) (za7 ze8 (za0 0) za3) za3) za4))) (zb7 (i:=7) SC.nd rfl (za9 rfl)) (zb6 7) (za6 (zu9 6 (za7 zx6 (za7 ze8 (za7 zh5 (za0 0) za3) (za7 (od_add.or zd9) (za0 3) za3)) za3))
  (zb5 (zb9 (i:=0) SC.nd rfl (za9 rfl) (za7 zh5 (za0 0) (za7 (od_add.or zd9) (za0 3) za3))))))
 exact zb5 (zd5 (zf7 (za1 (za0 4) (za1 (za0 6) za4))))
theorem zad2:FnScope ["_law_script", "_law_web_here", "_law_weights_here", "_law_cell", "_law_most", "_law_paper", "_law_ends", "_law_halves", "_law_free_here", "_law_bent_here", "_law_k"] ["_law_script", "_law_web_here", "_law_weights_here"] (zb8 zk9):=zn8 rfl rfl rfl rfl (by decide +kernel)
noncomputable def reJ:DE:=(d2 qA (dT1 kLst (za2 (dVar 5) (za2 (dVar 8) (za2 (dT1 kTup (za2 (dVar 6) (za2 (dVar 7) dNil))) (za2 (dT1 kTup (za2 (zv8 (za2 (d2 kIx (dVar 1) (dC (.int 0))) dNil)) (za2 (d2 kIx (dVar 5) (dC (.int 1))) dNil))) (za2 (dT1 kTup (za2 (d2 kIx (dVar 5) (dC (.int 0))) (za2 (dVar 7) dNil))) (za2 (dT1 kTup (za2 (dT1 kLst dNil) (za2 (dT1 kLst dNil) dNil))) dNil))))))) (dVar 9))
noncomputable def bdJ:DS:=(dApp 9 (dT1 (zd3 zg8) (za2 (dVar 5) (za2 (dVar 4) (za2 (dT1 (zd3 zd7) (za2 (dVar 3) (za2 (d2 qA (dC (.int 900)) (dVar 10)) dNil))) dNil)))))
noncomputable def zl4:DS :=
 (dSeq (dAsg 3 (dT1 (zd3 zc1) (za2 (dVar 0) (za2 (dC (.int 62)) dNil)))) (dSeq (dAsg 4 (dT1 (zaw6 zo1) (za2 (dVar 2) dNil))) (dSeq (dAsg 5 (dT1 (zd3 zm6) (za2 (dVar 1) (za2 (dVar 2) dNil)))) (dSeq (dAsg 6 (dT1 zt4 (za2 (d2 qA (ze6 2 [] (fsL (d2 kIx (dVar 1) (dC (.int 1)))) ktT ze5 (dVar 0)) (ze6 2 [] (fsL (d2 kIx (dVar 1) (dC (.int 1)))) ktT ze5 (dVar 1))) dNil))) (dSeq (dAsg 7 (ze6 2 [2] (fsL (d2 kIx (dVar 1) (dC (.int 1)))) ktT ze5 (d2 qV (dT1 qN (za2 (d2 kIx (dVar 2) (dVar 0)) (za2 (d2 kIx (dVar 2) (dVar 1)) dNil))) (dC (.int 2))))) (dSeq (dAsg 8 (dT1 (zd3 zm7) (za2 (dVar 3) (za2 (d2 kIx (dVar 1) (dC (.int 0))) (za2 (dT1 qN (za2 (dC (.int 60)) (za2 (dT1 kLen (za2 (d2 kIx (dVar 1) (dC (.int 1))) dNil)) dNil))) (za2 (dVar 4) dNil)))))) (dSeq (dAsg 9 (dT1 kLst (za2 (dT1 (zd3 zg8) (za2 (dVar 5) (za2 (dVar 4) (za2 (dVar 3) dNil)))) dNil))) (dSeq (zz3 (za5 10) (dC (.int 3)) bdJ) (dFrz 9 (dFrz 7 (dFrz 6 (dRet reJ))))))))))))
noncomputable def zf3:List D→Option Ev:=mkG 3 ["_law_script", "_law_web_here", "_law_weights_here", "_law_cell", "_law_most", "_law_paper", "_law_ends", "_law_halves", "_law_free_here", "_law_bent_here", "_law_k"] zl4
theorem zae0 (Fn:L2.Fun K "_law_papers" "_law_papers" zk9 ad fd) (bu:Blt mg) (c_law_cell_at:Cal P w K mg base "_law_cell_at" 1 zc1) (c_law_rule:Cal P w K mg base "_law_rule" 1 zm6) (c_law_free:Cal P w K mg base "_law_free" 1 zm7) (c_law_bent:Cal P w K mg base "_law_bent" 1 zg8) (c_law_mixed:Cal P w K mg base "_law_mixed" 1 zd7):FnOk P w K mg base CX0 2 ad fd ["_law_script", "_law_web_here", "_law_weights_here"] (spD K zf3):=by
 have SC:=zad2
 refine zi8 (k:=1) Fn SC (fun _ _ e=>zf8 e) zl4 (fun _ _ e=>zi7 e) (fun cdv A outer s H E F hr=>?_)
 refine za6 ?_ ?_
 ·exact (zb9 (i:=3) SC.nd rfl (za9 rfl) (zc0 c_law_cell_at (hr.mono (by decide)) (za1 (za0 0) (za1 za3 za4))))
 refine za6 ?_ ?_
 ·exact (zb9 (i:=4) SC.nd rfl (za9 rfl) (zb4 (cd_maxL rfl) rfl bu.n_max (by decide +kernel) (za1 (za0 2) za4)))
 refine za6 ?_ ?_
 ·exact (zb9 (i:=5) SC.nd rfl (za9 rfl) (zc0 c_law_rule (hr.mono (by decide)) (za1 (za0 1) (za1 (za0 2) za4))))
 refine za6 ?_ ?_
 ·exact (zb9 (i:=6) SC.nd rfl (za9 rfl) (zam5 rfl rfl bu.n_sorted rfl bu.n_set (za7 (od_add.or zd9) (ze3 2 [] ["_law_one", "_law_other"] rfl (zl2 (zb1 (za0 1) za3)) (fun _ _ _ _ _=>(zl9 rfl (zc6 (zb7 (i:=0) (show List.Nodup (["_law_one", "_law_other"]:List Str) by decide +kernel) rfl (za9 rfl)) (zc6 (zb7 (i:=1) (show List.Nodup (["_law_one", "_law_other"]:List Str) by decide +kernel) rfl (za9 rfl)) zh8)))) (fun _=>(zl7 (zc5 (zb6 0) (zc5 (zb6 1) zh6)))) (fun _ _ _ _ _ _=>zh0) (fun _ _ _ _ _ _=>(za0 0))) (ze3 2 [] ["_law_one", "_law_other"] rfl (zl2 (zb1 (za0 1) za3)) (fun _ _ _ _ _=>(zl9 rfl (zc6 (zb7 (i:=0) (show List.Nodup (["_law_one", "_law_other"]:List Str) by decide +kernel) rfl (za9 rfl)) (zc6 (zb7 (i:=1) (show List.Nodup (["_law_one", "_law_other"]:List Str) by decide +kernel) rfl (za9 rfl)) zh8)))) (fun _=>(zl7 (zc5 (zb6 0) (zc5 (zb6 1) zh6)))) (fun _ _ _ _ _ _=>zh0) (fun _ _ _ _ _ _=>(za0 1))))))
 refine za6 ?_ ?_
 ·exact (psd_setC (i:=7) 2 [2] ["_law_one", "_law_other", "_law_weights_here"] SC.nd rfl (Or.inl rfl) rfl (zl2 (zb1 (za0 1) za3)) (fun _ _ _ _ _=>(zl9 rfl (zc6 (zb7 (i:=0) (show List.Nodup (["_law_one", "_law_other", "_law_weights_here"]:List Str) by decide +kernel) rfl (za9 rfl)) (zc6 (zb7 (i:=1) (show List.Nodup (["_law_one", "_law_other", "_law_weights_here"]:List Str) by decide +kernel) rfl (za9 rfl)) zh8)))) (fun _=>(zl7 (zc5 (zb6 0) (zc5 (zb6 1) zh6)))) (fun _ _ _ _ _ _=>zh0) (fun _ _ _ _ _ _=>(za7 zh5 (zb4 (zbh4 rfl) rfl bu.n_min (by decide +kernel) (za1 (zb1 (za0 2) (za0 0)) (za1 (zb1 (za0 2) (za0 1)) za4))) za3)))
 refine za6 ?_ ?_
 ·exact (zb9 (i:=8) SC.nd rfl (za9 rfl) (zc0 c_law_free (hr.mono (by decide)) (by refine za1 ?_ ?_ ?_;exact (za0 3);exact (by refine za1 ?_ ?_ ?_;exact (zb1 (za0 1) za3);exact (by refine za1 ?_ ?_ ?_;exact (zb4 (zbh4 rfl) rfl bu.n_min (by decide +kernel) (za1 za3 (za1 (zb4 zk1 rfl bu.n_len PySem.boot_len (za1 (zb1 (za0 1) za3) za4)) za4)));exact (by refine za1 ?_ ?_ ?_;exact (za0 4);exact za4;exact (zc2 rfl));exact (zc2 rfl));exact (zc2 rfl));exact (zc2 rfl))))
 refine za6 ?_ ?_
 ·exact (zb9 (i:=9) SC.nd rfl (za9 rfl) (zf1 (za1 (zc0 c_law_bent (hr.mono (by decide)) (za1 (za0 5) (za1 (za0 4) (za1 (za0 3) za4)))) za4)))
 refine za6 ?_ ?_
 ·exact (zp8 PassesOwn.never rfl rfl bu.n_range za3 (zb7 (i:=10) SC.nd rfl (za9 rfl)) (zb6 10) (zb5 (zu9 9 (zc0 c_law_bent (hr.mono (by decide)) (za1 (za0 5) (za1 (za0 4) (za1 (zc0 c_law_mixed (hr.mono (by decide)) (za1 (za0 3) (za1 (za7 (od_add.or zd9) za3 (za0 10)) za4))) za4)))))))
 exact zb5 (zad5 9 (zad5 7 (zad5 6 (zd5 (za7 (od_add.or zd9) (by refine zf1 ?_;exact (by refine za1 ?_ ?_ ?_;exact (za0 5);exact (by refine za1 ?_ ?_ ?_;exact (za0 8);exact (by refine za1 ?_ ?_ ?_;exact (zf7 (za1 (za0 6) (za1 (za0 7) za4)));exact (by refine za1 ?_ ?_ ?_;exact (zf7 (za1 (zbb9 rfl rfl bu.n_list rfl bu.n_range (za1 (zb1 (za0 1) za3) za4)) (za1 (zb1 (za0 5) za3) za4)));exact (by refine za1 ?_ ?_ ?_;exact (zf7 (za1 (zb1 (za0 5) za3) (za1 (za0 7) za4)));exact (by refine za1 ?_ ?_ ?_;exact (zf7 (za1 (zf1 za4) (za1 (zf1 za4) za4)));exact za4;exact (zc2 rfl));exact (zc2 rfl));exact (zc2 rfl));exact (zc2 rfl));exact (zc2 rfl));exact (zc2 rfl))) (za0 9))))))
theorem sc_law:FnScope ["_law_script", "_law_web_here", "_law_weights_here", "_law_chosen", "_law_prices", "_law_handed", "_law_found"] ["_law_script"] (zb8 s_law):=zn8 rfl rfl rfl rfl (by decide +kernel)
noncomputable def bdL:DS:=(dSeq (dAsg 5 (dT1 kTup (za2 (dT1 kTup (za2 (d2 kIx (dVar 1) (dC (.int 0))) (za2 (dT1 zn4 (za2 (d2 kIx (dVar 1) (dC (.int 1))) dNil)) dNil))) (za2 (dT1 zn4 (za2 (dVar 2) dNil)) (za2 (dT1 zn4 (za2 (dVar 3) dNil)) (za2 (dT1 zn4 (za2 (dVar 4) dNil)) dNil))))))
  (dSeq (dAsg 6 (dT1 (zd3 zi4) (za2 (d2 kIx (dVar 5) (dC (.int 0))) (za2 (d2 kIx (dVar 5) (dC (.int 1))) (za2 (d2 kIx (dVar 5) (dC (.int 2))) (za2 (d2 kIx (dVar 5) (dC (.int 3))) dNil))))))
  (dSeq (dIfS (dOr (dNot (dTr (dIsi "bool" (dVar 6)))) (dBo (d2 kNe (dVar 6) (dT1 (zd3 zj6) (za2 (dVar 1) (za2 (dVar 2) (za2 (dVar 3) (za2 (dVar 4) dNil)))))))) (dRet (dC (.bl false))) zk6)
  (dIfS (dBo (d2 kNe (dVar 5) (dT1 kTup (za2 (dVar 1) (za2 (dVar 2) (za2 (dVar 3) (za2 (dVar 4) dNil))))))) (dRet (dC (.bl false))) zk6))))
noncomputable def g_law:DS :=
 (dSeq (dAsg 1 (dT1 (zd3 zm5) (za2 (dVar 0) (za2 (dC (.int 60)) dNil)))) (dSeq (dAsg 2 (dT1 (zd3 zh3) (za2 (dVar 0) (za2 (d2 kIx (dVar 1) (dC (.int 0))) dNil)))) (dSeq (dFrz 2 (dFor (zg1 2 (zb3 (za5 3) (zb3 (za5 4) zg5))) (dT1 (zd3 zf3) (za2 (dVar 0) (za2 (dVar 1) (za2 (dVar 2) dNil)))) bdL)) (dRet (dC (.bl true))))))
noncomputable def G_law:List D→Option Ev:=mkG 1 ["_law_script", "_law_web_here", "_law_weights_here", "_law_chosen", "_law_prices", "_law_handed", "_law_found"] g_law
theorem ok_law (Fn:L2.Fun K "law" "law" s_law ad fd) (bu:Blt mg) (c_law_web:Cal P w K mg base "_law_web" 3 zm5) (c_law_weights:Cal P w K mg base "_law_weights" 2 zh3) (c_law_papers:Cal P w K mg base "_law_papers" 2 zf3) (c_lets_cover:Cal P w K mg base "lets_cover" 3 zi4) (c_law_lets:Cal P w K mg base "_law_lets" 1 zj6):FnOk P w K mg base CX0 4 ad fd ["_law_script"] (spD K G_law):=by
 have SC:=sc_law
 refine zi8 (k:=3) Fn SC (fun _ _ e=>zf8 e) g_law (fun _ _ e=>zi7 e) (fun cdv A outer s H E F hr=>?_)
 refine za6 ?_ ?_
 ·exact (zb9 (i:=1) SC.nd rfl (za9 rfl) (zc0 c_law_web (hr.mono (by decide)) (za1 (za0 0) (za1 za3 za4))))
 refine za6 ?_ ?_
 ·exact (zb9 (i:=2) SC.nd rfl (za9 rfl) (zc0 c_law_weights (hr.mono (by decide)) (za1 (za0 0) (za1 (zb1 (za0 1) za3) za4))))
 refine za6 ?_ ?_
 ·exact (zad5 2 (zad6 PassesOwn.never rfl (zc0 c_law_papers (hr.mono (by decide)) (za1 (za0 0) (za1 (za0 1) (za1 (za0 2) za4)))) (zl9 rfl (zc6 (zb7 (i:=3) SC.nd rfl (za9 rfl)) (zc6 (zb7 (i:=4) SC.nd rfl (za9 rfl)) zh8))) (zl7 (zc5 (zb6 3) (zc5 (zb6 4) zh6))) (za6 (zb9 (i:=5) SC.nd rfl (za9 rfl) (zf7 (by refine za1 ?_ ?_ ?_;exact (zf7 (za1 (zb1 (za0 1) za3) (za1 (zh1 zr8 rfl bu.n_list zr9 (za1 (zb1 (za0 1) za3) za4)) za4)));exact (by refine za1 ?_ ?_ ?_;exact (zh1 zr8 rfl bu.n_list zr9 (za1 (za0 2) za4));exact (by refine za1 ?_ ?_ ?_;exact (zh1 zr8 rfl bu.n_list zr9 (za1 (za0 3) za4));exact (by refine za1 ?_ ?_ ?_;exact (zh1 zr8 rfl bu.n_list zr9 (za1 (za0 4) za4));exact za4;exact (zc2 rfl));exact (zc2 rfl));exact (zc2 rfl));exact (zc2 rfl))))
  (za6 (zb9 (i:=6) SC.nd rfl (za9 rfl) (zc0 c_lets_cover (hr.mono (by decide)) (by refine za1 ?_ ?_ ?_;exact (zb1 (za0 5) za3);exact (by refine za1 ?_ ?_ ?_;exact (zb1 (za0 5) za3);exact (by refine za1 ?_ ?_ ?_;exact (zb1 (za0 5) za3);exact (by refine za1 ?_ ?_ ?_;exact (zb1 (za0 5) za3);exact za4;exact (zc2 rfl));exact (zc2 rfl));exact (zc2 rfl));exact (zc2 rfl))))
  (za6 (zj7 (L2.PW.pt (zag9 (zu8 (zo0 (ped_isi isi_bool (za0 6) rfl bu.n_isinstance rfl bu.n_bool bt_bool))) (zx2 (zc8 (zaw1 hr.units) (za0 6) (zc0 c_law_lets (hr.mono (by decide)) (by refine za1 ?_ ?_ ?_;exact (za0 1);exact (by refine za1 ?_ ?_ ?_;exact (za0 2);exact (by refine za1 ?_ ?_ ?_;exact (za0 3);exact (by refine za1 ?_ ?_ ?_;exact (za0 4);exact za4;exact (zc2 rfl));exact (zc2 rfl));exact (zc2 rfl));exact (zc2 rfl))))))) (zb5 (zd5 zi6)) zh7)
  (zb5 (zj7 (zc8 (zaw1 hr.units) (za0 5) (zf7 (by refine za1 ?_ ?_ ?_;exact (za0 1);exact (by refine za1 ?_ ?_ ?_;exact (za0 2);exact (by refine za1 ?_ ?_ ?_;exact (za0 3);exact (by refine za1 ?_ ?_ ?_;exact (za0 4);exact za4;exact (zc2 rfl));exact (zc2 rfl));exact (zc2 rfl));exact (zc2 rfl)))) (zb5 (zd5 zi6)) zh7)))))))
 exact zb5 (zd5 zi6)
end KX
namespace KX
open PySem.Spec L2 DL
theorem cell_of (ns:List Int) (hb:∀n∈ns,n.natAbs<bndS) (k:Nat):∃v:Int,v.natAbs<bndS∧zc1 [.lst (ns.map D.int),.int (k:Int)]=some (.cl (.int v)):=by
 have hbig:=bnd_big
 by_cases h:k<ns.length
 ·refine⟨ns[k],hb _ (zbn8 h),?_⟩
  have h1:((k:Int)<((ns.map D.int).length:Int)):=by simp;lia
  have h2:atI (ns.map D.int) (k:Int)=some (.int ns[k]):=by
   unfold atI ixN
   rw [if_pos (by lia),if_pos h1]
   simp [h]
  show (zf5 [.val (.lst (ns.map D.int)),.val (.int (k:Int))]).bind zj2=_
  simp only [zf5,dSeq,dIfS,dBo,d2,dVar,dT1,za2,dNil,kLen,Ev.d,kI,tt2,zbk3,zbz7,zbs8,if_true]
  rw [decide_eq_true h1]
  simp [dRet,d2,dVar,kIx,Ev.d,h2,zj2,Ev.ok]
 ·refine⟨0,by simp;lia,?_⟩
  have h1 : ¬ ((k:Int)<((ns.map D.int).length:Int)):=by simp;lia
  show (zf5 [.val (.lst (ns.map D.int)),.val (.int (k:Int))]).bind zj2=_
  simp only [zf5,dSeq,dIfS,dBo,d2,dVar,dT1,za2,dNil,kLen,Ev.d,kI,tt2,zbk3,zbz7,zbs8,if_true]
  rw [decide_eq_false h1]
  simp [dRet,zk6,dC,zj2]
theorem zbi2 (ns:List Int) (hb:∀n∈ns,n.natAbs<bndS) (k:Nat):∃v:Int,v.natAbs<bndS∧zd3 zc1 [.cl (.lst (ns.map D.int)),.cl (.int (k:Int))]=some (.cl (.int v)):=by
 obtain⟨v,h,e⟩:=cell_of ns hb k
 exact⟨v,h,by simp [zd3,Ev.d,e,upEv,Ev.ok]⟩
theorem zq5 (ns:List Int) (hb:∀n∈ns,n.natAbs<bndS) (k:Nat) (r:Th):∃v:Int,v.natAbs<bndS∧(dT1 (zd3 zc1) (za2 (dVar 0) (za2 (dC (.int (k:Int))) dNil))) (.val (.lst (ns.map D.int))::r)=some (.cl (.int v)):=by
 obtain⟨v,h,e⟩:=zbi2 ns hb k
 exact⟨v,h,(zl8 (ra:=.cl (.lst (ns.map D.int))) (rb:=.cl (.int (k:Int))) rfl rfl).trans e⟩
theorem fm {a b:Int} (h:0<b):0≤a.fmod b∧a.fmod b<b:=fmod_pos h
theorem mixed_is (c:Int) {k:Int} (k0:0≤k) (k1:k<100000):∃m:Int,0≤m∧m<2147483648∧zd7 [.int c,.int k]=some (.cl (.int m)):=by
 show ∃m:Int,0≤m∧m<2147483648∧(zr6 [.val (.int c),.val (.int k),.no]).bind zj2=some (.cl (.int m))
 have q1:=fm (a:=c) (b:=2147483647) (by decide)
 have kk:0≤69621*k*k∧69621*k*k≤69621*100000*100000:=by
  have h1:0≤69621*k:=by lia
  have h2:69621*k*k≤69621*100000*k:=zbs7 (by lia) k0
  exact⟨Int.mul_nonneg h1 k0,by lia⟩
 have e1:=zf2 (zg7 (zg7 (zf2 (fa:=dVar 0) (fb:=dC (.int 2147483647)) (t:=[.val (.int c),.val (.int k),.no]) (a:=c) (b:=2147483647) rfl rfl (by decide)) (zr2 (zr2 (fa:=dC (.int 69621)) (fb:=dVar 1) (t:=[.val (.int c),.val (.int k),.no]) (a:=69621) (b:=k) rfl rfl (zf0 (by decide) (by decide)) (zf0 (by lia) (by lia))) (rfl:dVar 1 _=some (.cl (.int k))) (zf0 (by lia) (by lia)) (zf0 (by lia) (by lia)))) (rfl:dC (.int 40014) _=some (.cl (.int 40014)))) (rfl:dC (.int 2147483647) _=some (.cl (.int 2147483647))) (by decide)
 have E1:=ze1 (i:=2) e1 (by simp)
 generalize hn:(Int.fmod (c.fmod 2147483647+69621*k*k+40014) 2147483647)=n at E1
 have q2:0≤n∧n<2147483647:=by rw [← hn];exact fm (by decide)
 let t:Th:=[.val (.int c),.val (.int k),.val (.int n)]
 have e2:=zf2 (zg7 (zg7 (zr2 (fa:=dVar 2) (fb:=dVar 2) (t:=t) (a:=n) (b:=n) rfl rfl (zf0 (by lia) (by lia)) (zf0 (by lia) (by lia))) (zr2 (fa:=dC (.int 7919)) (fb:=dVar 1) (t:=t) (a:=7919) (b:=k) rfl rfl (zf0 (by decide) (by decide)) (zf0 (by lia) (by lia)))) (rfl:dC (.int 1) t=some (.cl (.int 1)))) (rfl:dC (.int 2147483629) t=some (.cl (.int 2147483629))) (by decide)
 have E2:=ze1 (i:=2) e2 (by simp [t])
 generalize hn2:(Int.fmod (n*n+7919*k+1) 2147483629)=n2 at E2
 have q3:0≤n2∧n2<2147483629:=by rw [← hn2];exact fm (by decide)
 let t2:Th:=[.val (.int c),.val (.int k),.val (.int n2)]
 have e3:=zf2 (zg7 (zr2 (fa:=dVar 2) (fb:=dVar 2) (t:=t2) (a:=n2) (b:=n2) rfl rfl (zf0 (by lia) (by lia)) (zf0 (by lia) (by lia))) (zr2 (fa:=dC (.int 104729)) (fb:=dVar 1) (t:=t2) (a:=104729) (b:=k) rfl rfl (zf0 (by decide) (by decide)) (zf0 (by lia) (by lia)))) (rfl:dC (.int 2147483587) t2=some (.cl (.int 2147483587))) (by decide)
 have q4:=fm (a:=n2*n2+104729*k) (b:=2147483587) (by decide)
 have e4:=zj9 e3 (rfl:dC (.int 64) t2=some (.cl (.int 64))) (by decide) (zf0 (by decide) (by decide))
 have dd:∀x:Int,0≤x→x<2147483587→0≤x.fdiv 64∧x.fdiv 64<2147483648:=fun x h0 h1=>by
  rw [zbx8 x (by decide)]
  lia
 exact⟨_,(dd _ q4.1 q4.2).1,(dd _ q4.1 q4.2).2,bnd ((za8 E1).trans ((za8 E2).trans (zn6 e4)))⟩
theorem zq6 {r1 r2:Ev} (c:Int) {k:Int} (k0:0≤k) (k1:k<100000) (h1:r1.d=.int c) (h2:r2.d=.int k):∃m:Int,0≤m∧m<2147483648∧zd3 zd7 [r1,r2]=some (.cl (.int m)):=by
 obtain⟨m,a,b,e⟩:=mixed_is c k0 k1
 refine⟨m,a,b,callc ?_ rfl⟩
 simp only [zbl8,zcb3,h1,h2]
 exact e
theorem zbf0 {k:D→Th→Option Th}{b:DS}{P:Nat→Th→Prop}{C:Nat}:∀(ds:List D) (c:Nat),(∀d∈ds,∀c t,c<C→P c t→∃t1 t2,k d t=some t1∧b t1=some (.nx t2)∧P (c+1) t2)→c+ds.length≤C→∀t,P c t→∃t',forD k b ds t=some (.nx t')∧P (c+ds.length) t'
 |[],c,_,_,t,h=>⟨t,rfl,h⟩
 |d::ds,c,hd,hc,t,h=>by
  simp only [zbo6]at hc
  obtain⟨t1,t2,e1,e2,h2⟩:=hd d (zbk2 ..) c t (by lia) h
  obtain⟨t',e,h'⟩:=zbf0 ds (c+1) (fun d' hd'=>hd d' (zbj9 _ hd')) (by lia) t2 h2
  refine⟨t',by simp only [forD,e1,e2,zbk3];exact e,?_⟩
  rw [show c+(d::ds).length=c+1+ds.length by simp only [zbo6];lia]
  exact h'
theorem zas7:∀(cs:List Int) (i:Nat),∀d∈zo6 i (cs.map D.int),∃(j:Nat) (c:Int),d=.tup [.int (j:Int),.int c]∧j<i+cs.length
 |[],i,d,h=>by cases h
 |c::cs,i,d,h=>by
  rcases zbk5.mp h with z | z
  ·exact⟨i,c,z,by simp only [zbo6];lia⟩
  ·obtain⟨j,c',e,l⟩:=zas7 cs (i+1) d z
   exact⟨j,c',e,by simp only [zbo6];lia⟩
noncomputable def OkP (M:Int) (ps:List (Int×Int)):Prop := ∀q∈ps,0≤q.1∧q.1<q.2∧q.2<M
theorem put_of {M:Int} (h0:0<M) (h1:M≤1000) {ps:List (Int×Int)} (hl:ps.length<100000) (hp:OkP M ps) (n:Int):∃ps',putG ps [M,n]=some ps'∧ps'.length≤ps.length+1∧OkP M ps':=by
 have a:=fm (a:=n) h0
 have b:=fm (a:=n.fdiv M) h0
 unfold putG
 simp only
 rw [if_pos ⟨h0,zf0 (by lia) (by lia),hl⟩]
 by_cases z:n.fmod M=(n.fdiv M).fmod M
 ·rw [if_pos z]
  exact⟨ps,rfl,by lia,hp⟩
 ·rw [if_neg z]
  refine⟨_,rfl,?_,?_⟩
  ·unfold zba5;split
   ·lia
   ·simp
  ·intro q hq
   have m:q∈ps∨q=zam6 M n:=by
    unfold zba5 at hq
    split at hq
    ·exact .inl hq
    ·exact (zbk1.mp hq).imp_right fun w=>by simpa using w
   rcases m with m | m
   ·exact hp q m
   ·subst m
    unfold zam6
    simp only
    split<;>split<;>lia
theorem zat5 {t:Th}{ga:DA}{i:Nat}{ps ps':List (Int×Int)}{M n:Int} (hi:t[i]?=some (.dp (.pdc ps))) (hg:ga t=some [.cl (.int M),.cl (.int n)]) (hp:putG ps [M,n]=some ps'):zac3 i putG ga t=some (.nx (t.set i (.dp (.pdc ps')))):=by
 unfold zac3
 rw [hi]
 show (ga t).bind _=_
 rw [hg]
 show (putG ps [M,n]).map _=_
 rw [hp]
 rfl
theorem zay7 {s0 s1 s2 s5:Sl}{k x:Nat}{cell:Int} (hk:k<1000) (hx:x<1000):∃m:Int,tieN [s0,s1,s2,.val (.int (k:Int)),.val (.int cell),s5,.val (.int (x:Int))]=some (.cl (.int m)):=by
 let t:Th:=[s0,s1,s2,.val (.int (k:Int)),.val (.int cell),s5,.val (.int (x:Int))]
 have e:=zg7 (zg7 (fa:=dC (.int 64)) (t:=t) (a:=64) rfl (zr2 (fa:=dC (.int 6)) (fb:=dVar 3) (t:=t) (a:=6) (b:=(k:Int)) rfl rfl (zf0 (by decide) (by decide)) (zf0 (by lia) (by lia)))) (rfl:dVar 6 t=some (.cl (.int (x:Int))))
 obtain⟨m,_,_,em⟩:=zq6 (r1:=.cl (.int cell)) (r2:=.cl (.int (64+6*(k:Int)+(x:Int)))) cell (k:=64+6*(k:Int)+(x:Int)) (by lia) (by lia) rfl rfl
 exact⟨m,(zl8 (rfl:dVar 4 t=some (.cl (.int cell))) e).trans em⟩
noncomputable def PA (N:Sl) (M:Int) (s3 s4:Sl) (c0:Nat) (c:Nat) (t:Th):Prop := ∃(ps:List (Int×Int)) (n:Int) (s6:Sl),t=[N,.val (.int M),.dp (.pdc ps),s3,s4,.val (.int n),s6]∧ps.length≤c0+c∧OkP M ps
noncomputable def PB (N:Sl) (M:Int) (s3 s4 s5:Sl) (c0:Nat) (c:Nat) (t:Th):Prop := ∃ps s6,t=[N,.val (.int M),.dp (.pdc ps),s3,s4,s5,s6]∧ps.length≤c0+c∧OkP M ps
theorem zan4 {n:Nat}{d:D} (h:d∈(zd1 n).map D.int):∃x:Nat,d=.int (x:Int)∧x<n:=by
 obtain⟨y,hy,rfl⟩:=zbq1.mp h
 unfold zd1 at hy
 obtain⟨x,hx,rfl⟩:=zbq1.mp hy
 exact⟨x,rfl,zbq9.mp hx⟩
theorem zh9 (n:Nat):((zd1 n).map D.int).length=n:=by simp [zd1]
theorem turn_A {N:Sl}{M:Int} (m0:0<M) (m1:M≤1000) {k x:Nat}{cell:Int} (hk:k<1000) (hx:x<1000) {c0 c:Nat} (hc:c0+c<90000) {t:Th} (h:PA N M (.val (.int (k:Int))) (.val (.int cell)) c0 c t):∃t1 t2,za5 6 (.int (x:Int)) t=some t1∧bdT1 t1=some (.nx t2)∧PA N M (.val (.int (k:Int))) (.val (.int cell)) c0 (c+1) t2:=by
 obtain⟨ps,n,s6,rfl,hl,hp⟩:=h
 refine⟨[N,.val (.int M),.dp (.pdc ps),.val (.int (k:Int)),.val (.int cell),.val (.int n),.val (.int (x:Int))],?_⟩
 have E1:∃n':Int,(dIfS (dBo (d2 qE (dVar 5) (dC (.int 0)))) (dAsg 5 tieN) zk6) [N,.val (.int M),.dp (.pdc ps),.val (.int (k:Int)),.val (.int cell),.val (.int n),.val (.int (x:Int))]=some (.nx [N,.val (.int M),.dp (.pdc ps),.val (.int (k:Int)),.val (.int cell),.val (.int n'),.val (.int (x:Int))]):=by
  have cnd:(dBo (d2 qE (dVar 5) (dC (.int 0)))) [N,.val (.int M),.dp (.pdc ps),.val (.int (k:Int)),.val (.int cell),.val (.int n),.val (.int (x:Int))]=some (decide (n≤0)):=rfl
  by_cases z:n≤0
  ·obtain⟨m,em⟩:=zay7 (s0:=N) (s1:=.val (.int M)) (s2:=.dp (.pdc ps)) (s5:=.val (.int n)) (cell:=cell) hk hx
   exact⟨m,(zaj4 cnd (decide_eq_true z)).trans (ze1 (i:=5) em (by simp))⟩
  ·exact⟨n,grd cnd (decide_eq_false z)⟩
 obtain⟨n',E1⟩:=E1
 obtain⟨ps',eg,l',ok'⟩:=put_of m0 m1 (ps:=ps) (by lia) hp n'
 have E2:=zat5 (i:=2) (ga:=(za2 (dVar 1) (za2 (dVar 5) dNil))) (t:=[N,.val (.int M),.dp (.pdc ps),.val (.int (k:Int)),.val (.int cell),.val (.int n'),.val (.int (x:Int))]) (M:=M) (n:=n') rfl rfl eg
 have mm:0<M*M∧M*M≤1000000:=by
  have h1:M*M≤1000*M:=zbs7 m1 (by lia)
  exact⟨Int.mul_pos m0 m0,by lia⟩
 have E3:=ze1 (i:=5) (zj9 (fa:=dVar 5) (t:=[N,.val (.int M),.dp (.pdc ps'),.val (.int (k:Int)),.val (.int cell),.val (.int n'),.val (.int (x:Int))]) (a:=n') rfl (zr2 (fa:=dVar 1) (fb:=dVar 1) (a:=M) (b:=M) rfl rfl (zf0 (by lia) (by lia)) (zf0 (by lia) (by lia))) (by lia) (zf0 (by lia) (by lia))) (by simp)
 exact⟨_,rfl,(za8 E1).trans ((za8 E2).trans E3),ps',_,_,rfl,by lia,ok'⟩
theorem turn_B {N:Sl}{M:Int} (m0:0<M) (m1:M≤1000) {k x:Nat}{cell:Int}{s5:Sl} (hk:k<1000) (hx:x<1000) {c0 c:Nat} (hc:c0+c<90000) {t:Th} (h:PB N M (.val (.int (k:Int))) (.val (.int cell)) s5 c0 c t):∃t1 t2,za5 6 (.int (x:Int)) t=some t1∧bdT2 t1=some (.nx t2)∧PB N M (.val (.int (k:Int))) (.val (.int cell)) s5 c0 (c+1) t2:=by
 obtain⟨ps,s6,rfl,hl,hp⟩:=h
 obtain⟨m,em⟩:=zay7 (s0:=N) (s1:=.val (.int M)) (s2:=.dp (.pdc ps)) (s5:=s5) (cell:=cell) hk hx
 obtain⟨ps',eg,l',ok'⟩:=put_of m0 m1 (ps:=ps) (by lia) hp m
 have E2:=zat5 (i:=2) (ga:=(za2 (dVar 1) (za2 tieN dNil))) (t:=[N,.val (.int M),.dp (.pdc ps),.val (.int (k:Int)),.val (.int cell),s5,.val (.int (x:Int))]) (M:=M) (n:=m) rfl (cns rfl (cns em rfl)) eg
 exact⟨_,_,rfl,E2,ps',_,rfl,by lia,ok'⟩
noncomputable def PT (N:Sl) (M:Int) (c:Nat) (t:Th):Prop := ∃ps s3 s4 s5 s6,t=[N,.val (.int M),.dp (.pdc ps),s3,s4,s5,s6]∧ps.length≤61*c∧OkP M ps
theorem turn_T (ns:List Int) (hb:∀n∈ns,n.natAbs<bndS) {M:Int} (m0:0<M) (m1:M≤1000) {k:Nat}{cell:Int} (hk:k<1000) {c:Nat} (hc:c<100) {t:Th} (h:PT (.val (.lst (ns.map D.int))) M c t):∃t1 t2,(zg1 2 (zb3 (za5 3) (zb3 (za5 4) zg5))) (.tup [.int (k:Int),.int cell]) t=some t1∧bdT t1=some (.nx t2)∧PT (.val (.lst (ns.map D.int))) M (c+1) t2:=by
 obtain⟨ps,s3,s4,s5,s6,rfl,hl,hp⟩:=h
 let N:Sl:=.val (.lst (ns.map D.int))
 let t:Th:=[N,.val (.int M),.dp (.pdc ps),.val (.int (k:Int)),.val (.int cell),s5,s6]
 refine⟨t,?_⟩
 obtain⟨v0,_,e0⟩:=zq5 ns hb 0 [.val (.int M),.dp (.pdc ps),.val (.int (k:Int)),.val (.int cell),s5,s6]
 have cnd:=zaj7 (zf2 e0 (fb:=dC (.int 2)) rfl (by decide)) (fb:=dC (.int 0)) rfl
 unfold bdT
 by_cases z:v0.fmod 2=0
 ·have E1:=ze1 (i:=5) (t:=t) (zj9 (fa:=dVar 4) (fb:=dC (.int 61)) (t:=t) (a:=cell) (b:=61) rfl rfl (by decide) (zf0 (by decide) (by decide))) (by simp [t])
  have q:=fm (a:=cell) (b:=61) (by decide)
  obtain⟨n,hn⟩:∃n:Nat,cell.fmod 61=(n:Int):=⟨(cell.fmod 61).toNat,by lia⟩
  let t1:Th:=[N,.val (.int M),.dp (.pdc ps),.val (.int (k:Int)),.val (.int cell),.val (.int (cell.fdiv 61)),s6]
  have em:=zf2 (fa:=dVar 4) (fb:=dC (.int 61)) (t:=t1) (a:=cell) (b:=61) rfl rfl (by decide)
  rw [hn]at em
  have E2:=zu7 (k0:=za5 6) (b:=bdT1) em rfl (by lia)
  obtain⟨t2,E3,ps2,n2,u6,rfl,l2,o2⟩:=zbf0 (k:=za5 6) (b:=bdT1) (P:=PA N M (.val (.int (k:Int))) (.val (.int cell)) (61*c)) (C:=61) ((zd1 n).map D.int) 0 (fun d hd c' t' hc' h'=>by
   obtain⟨x,rfl,hx⟩:=zan4 hd
   exact turn_A m0 m1 hk (by lia) (by lia) h') (by rw [zh9];lia) t1 ⟨ps,_,_,rfl,by lia,hp⟩
  rw [zh9]at l2
  exact⟨_,rfl,(zaj4 cnd (decide_eq_true z)).trans ((za8 E1).trans (E2.trans E3)),ps2,_,_,_,_,rfl,by lia,o2⟩
 ·obtain⟨m,_,_,em⟩:=zq6 (r1:=.cl (.int cell)) (r2:=.cl (.int (k:Int))) cell (k:=(k:Int)) (by lia) (by lia) rfl rfl
  have e1:(dT1 (zd3 zd7) (za2 (dVar 4) (za2 (dVar 3) dNil))) t=some (.cl (.int m)):=(zl8 (rfl:dVar 4 t=some (.cl (.int cell))) (rfl:dVar 3 t=some (.cl (.int (k:Int))))).trans em
  have q:=fm (a:=m) (b:=6) (by decide)
  obtain⟨n,hn⟩:∃n:Nat,1+m.fmod 6=(n:Int):=⟨(1+m.fmod 6).toNat,by lia⟩
  have e2:=zg7 (fa:=dC (.int 1)) (t:=t) (a:=1) rfl (zf2 e1 (rfl:dC (.int 6) t=some (.cl (.int 6))) (by decide))
  rw [hn]at e2
  have E2:=zu7 (k0:=za5 6) (b:=bdT2) e2 rfl (by lia)
  obtain⟨t2,E3,ps2,u6,rfl,l2,o2⟩:=zbf0 (k:=za5 6) (b:=bdT2) (P:=PB N M (.val (.int (k:Int))) (.val (.int cell)) s5 (61*c)) (C:=61) ((zd1 n).map D.int) 0 (fun d hd c' t' hc' h'=>by
   obtain⟨x,rfl,hx⟩:=zan4 hd
   exact turn_B m0 m1 hk (by lia) (by lia) h') (by rw [zh9];lia) t ⟨ps,_,rfl,by lia,hp⟩
  rw [zh9]at l2
  exact⟨_,rfl,(ifs_f cnd (decide_eq_false z)).trans (E2.trans E3),ps2,_,_,_,_,rfl,by lia,o2⟩
noncomputable def tD (u:Nat×Nat):D:=pD ((u.1:Int),(u.2:Int))
theorem tD_pD (us:List (Nat×Nat)):us.map tD=(us.map fun u=>(((u.1:Int),(u.2:Int)):Int×Int)).map pD:=by rw [zbs5];rfl
theorem to_tD {M:Nat}:∀ps:List (Int×Int),OkP (M:Int) ps→∃us:List (Nat×Nat),us.length=ps.length∧(∀u∈us,u.1<u.2∧u.2<M)∧ps.map pD=us.map tD
 |[],_=>⟨[],rfl,(fun u hu=>nomatch hu),rfl⟩
 |p::ps,h=>by
  obtain⟨us,l,o,e⟩:=to_tD ps fun q hq=>h q (zbj9 _ hq)
  obtain⟨h0,h1,h2⟩:=h p (zbk2 ..)
  obtain⟨a,b⟩:=p
  simp only at h0 h1 h2
  obtain⟨x,rfl⟩:=zbz8 h0
  obtain⟨y,rfl⟩:=zbz8 (show 0≤b by lia)
  refine⟨(x,y)::us,by simp [l],fun u hu=>?_,by rw [zbl8,zbl8,e];rfl⟩
  rcases zbk5.mp hu with rfl | z
  ·exact⟨by simpa using h1,by simpa using h2⟩
  ·exact o u z
theorem ties_is (ns:List Int) (hl:ns.length≤63) (hb:∀n∈ns,n.natAbs<bndS) {M:Nat} (m0:0<M) (m1:M≤1000):∃us:List (Nat×Nat),us.length≤400∧(∀u∈us,u.1<u.2∧u.2<M)∧zi0 [.lst (ns.map D.int),.int (M:Int)]=some (.nw (us.map tD)):=by
 let N:Sl:=.val (.lst (ns.map D.int))
 have m0':(0:Int)<(M:Int):=by lia
 have m1':(M:Int)≤1000:=by lia
 obtain⟨cs,lc,ec⟩:∃cs:List Int,cs.length≤63∧(dSl (dC (.int 3)) (dC (.int 62)) (dVar 0)) [N,.val (.int (M:Int)),.dp (.pdc []),.no,.no,.no,.no]=some (.nw (cs.map D.int)):=by
  refine⟨(ns.drop (HT.sIx ns.length 0 (some 3))).take (HT.sIx ns.length ns.length (some 62) - HT.sIx ns.length 0 (some 3)),by rw [zbr9,zca0];lia,?_⟩
  simp [N,dSl,dC,dVar,Ev.d,Ev.ok,zcc6,List.map_drop]
 obtain⟨t2,E3,ps,s3,s4,s5,s6,rfl,l2,o2⟩:=zbf0 (k:=(zg1 2 (zb3 (za5 3) (zb3 (za5 4) zg5)))) (b:=bdT) (P:=PT N (M:Int)) (C:=100) (zo6 0 (cs.map D.int)) 0 (fun d hd c' t' hc' h'=>by
   obtain⟨j,c,rfl,hj⟩:=zas7 cs 0 d hd
   exact turn_T ns hb m0' m1' (by lia) hc' h') (by rw [zi2,zbm6];lia) [N,.val (.int (M:Int)),.dp (.pdc []),.no,.no,.no,.no] ⟨[],_,_,_,_,rfl,by simp,(fun q hq=>nomatch hq)⟩
 rw [zi2,zbm6]at l2
 have E2:(zbg5 (zg1 2 (zb3 (za5 3) (zb3 (za5 4) zg5))) (dSl (dC (.int 3)) (dC (.int 62)) (dVar 0)) bdT) [N,.val (.int (M:Int)),.dp (.pdc []),.no,.no,.no,.no]=some (.nx [N,.val (.int (M:Int)),.dp (.pdc ps),s3,s4,s5,s6]):=by
  unfold zbg5
  rw [ec]
  exact E3
 have es:(dT1 zaj0 (za2 (dVar 2) dNil)) [N,.val (.int (M:Int)),.dp (.pdc ps),s3,s4,s5,s6]=some (.nw ((TS.sortP ps).map pD)):=by
  rw [zw2 (ra:=.tm (.pdc ps)) rfl]
  unfold zaj0
  simp only [Ev.d]
  rw [if_pos ⟨by lia,zbq0.mpr fun q hq=>by have:=o2 q hq;exact decide_eq_true (by lia)⟩]
  rfl
 have E4:=slu_pD (fb:=dC (.int 400)) (n:=400) es rfl rfl
 obtain⟨us,ul,uo,ue⟩:=to_tD (M:=M) ((TS.sortP ps).take 400) fun q hq=>o2 q ((TS.sortP_perm ps).mem_iff.mp (zbo9 hq))
 refine⟨us,by rw [ul,zbr9];lia,uo,?_⟩
 rw [← ue]
 show (zq3 [N,.val (.int (M:Int)),.no,.no,.no,.no,.no]).bind zj2=_
 unfold zq3
 exact bnd ((za8 (t':=[N,.val (.int (M:Int)),.dp (.pdc []),.no,.no,.no,.no]) rfl).trans ((za8 E2).trans (zn6 E4)))
theorem web_is (ns:List Int) (hl:ns.length≤63) (hb:∀n∈ns,n.natAbs<bndS) {most:Nat} (m0:0<most) (m1:most≤1000):∃(M:Nat) (us:List (Nat×Nat)),0<M∧M≤most∧us.length≤400∧(∀u∈us,u.1<u.2∧u.2<M)∧zm5 [.lst (ns.map D.int),.int (most:Int)]=some (.cl (.tup [.int (M:Int),.lst (us.map tD)])):=by
 let N:Sl:=.val (.lst (ns.map D.int))
 obtain⟨v0,_,e0⟩:=zq5 ns hb 0 [.val (.int (most:Int)),.no]
 have e1:=zg7 (fa:=dC (.int 1)) (t:=[N,.val (.int (most:Int)),.no]) (a:=1) rfl (zf2 (zj9 e0 (fb:=dC (.int 2)) rfl (by decide) (zf0 (by decide) (by decide))) (fb:=dVar 1) (b:=(most:Int)) rfl (by lia))
 have q:=fm (a:=v0.fdiv 2) (b:=(most:Int)) (by lia)
 obtain⟨M,hM⟩:∃M:Nat,1+(v0.fdiv 2).fmod (most:Int)=(M:Int):=⟨(1+(v0.fdiv 2).fmod (most:Int)).toNat,by lia⟩
 rw [hM]at e1
 obtain⟨us,ul,uo,ue⟩:=ties_is ns hl hb (M:=M) (by lia) (by lia)
 refine⟨M,us,by lia,by lia,ul,uo,?_⟩
 have E1:=ze1 (i:=2) e1 (by simp)
 let t:Th:=[N,.val (.int (most:Int)),.val (.int (M:Int))]
 have et:(dT1 (zd3 zi0) (za2 (dVar 0) (za2 (dVar 2) dNil))) t=some (.nw (us.map tD)):=by
  rw [zl8 (ra:=.cl (.lst (ns.map D.int))) (rb:=.cl (.int (M:Int))) rfl rfl]
  unfold zd3
  rw [show zi0 ([Ev.cl (.lst (ns.map D.int)),.cl (.int (M:Int))].map Ev.d)=_ from ue]
  rfl
 have E2:(dT1 kTup (za2 (dVar 2) (za2 (dT1 (zd3 zi0) (za2 (dVar 0) (za2 (dVar 2) dNil))) dNil))) t=some (.cl (.tup [.int (M:Int),.lst (us.map tD)])):=(zl8 (rfl:dVar 2 t=some (.cl (.int (M:Int)))) et).trans rfl
 show (zy9 [N,.val (.int (most:Int)),.no]).bind zj2=_
 exact bnd ((za8 E1).trans (zn6 E2))
noncomputable def PW (N:Sl) (M:Int) (c:Nat) (t:Th):Prop := ∃(xs:List Int) (n:Int) (s4 s5:Sl),t=[N,.val (.int M),.own (xs.map D.int),.val (.int n),s4,s5]∧xs.length=c∧∀x∈xs,0≤x∧x≤1000000000000
theorem getM {L:List Int}{k:Nat} (h:k<L.length):L.getD k 0∈L:=by
 rw [zbl1,zbk4 h]
 exact zbn8 h
theorem zaz3 {xs:List Int}{x:Int} (h:∀x∈xs,0≤x∧x≤1000000000000) (hx:0≤x∧x≤1000000000000):∀y∈xs++[x],0≤y∧y≤1000000000000:=fun y hy=>by
 rcases zbk1.mp hy with w | w
 ·exact h y w
 ·rw [zbm2]at w;subst w;exact hx
theorem turn_W (ns:List Int) (hb:∀n∈ns,n.natAbs<bndS) {M:Int}{k:Nat} (hk:k<1000) {c:Nat} (hc:c<1000) {t:Th} (h:PW (.val (.lst (ns.map D.int))) M c t):∃t1 t2,za5 4 (.int (k:Int)) t=some t1∧bdW t1=some (.nx t2)∧PW (.val (.lst (ns.map D.int))) M (c+1) t2:=by
 obtain⟨xs,n,s4,s5,rfl,hl,hx⟩:=h
 let N:Sl:=.val (.lst (ns.map D.int))
 let t:Th:=[N,.val (.int M),.own (xs.map D.int),.val (.int n),.val (.int (k:Int)),s5]
 refine⟨t,?_⟩
 obtain⟨v0,_,e0⟩:=zq5 ns hb 0 [.val (.int M),.own (xs.map D.int),.val (.int n),.val (.int (k:Int)),s5]
 have cnd:=zo8 (zaj7 (zf2 e0 (fb:=dC (.int 2)) rfl (by decide)) (fb:=dC (.int 0)) rfl) (gt_of (fa:=dVar 3) (fb:=dC (.int 0)) (t:=t) (a:=n) (b:=0) rfl rfl)
 have ep:∀t:Th,(d2 qA (d2 qP (dC (.int 10)) (dC (.int 12))) (dC (.int 1))) t=some (.cl (.int 1000000000001)):=fun t=>zg7 (pow12 t) (rfl:dC (.int 1) t=some (.cl (.int 1)))
 unfold bdW
 by_cases z:(decide (v0.fmod 2=0)&&decide (0<n))=true
 ·have q:=fm (a:=n) (b:=1000000000001) (by decide)
  have E1:=zz8 (i:=2) t (xs:=xs) (zf2 (fa:=dVar 3) (t:=t) (a:=n) rfl (ep t) (by decide)) rfl (by lia)
  have E2:=ze1 (i:=3) (t:=[N,.val (.int M),.own ((xs++[n.fmod 1000000000001]).map D.int),.val (.int n),.val (.int (k:Int)),s5]) (zj9 (fa:=dVar 3) (a:=n) rfl (ep _) (by decide) (zf0 (by decide) (by decide))) (by simp)
  exact⟨_,rfl,(zaj4 cnd z).trans ((za8 E1).trans E2),_,_,_,_,rfl,by simp [hl],zaz3 hx ⟨q.1,by lia⟩⟩
 ·obtain⟨v1,_,e1⟩:=zq5 ns hb 1 [.val (.int M),.own (xs.map D.int),.val (.int n),.val (.int (k:Int)),s5]
  obtain⟨m,g0,g1,em⟩:=zq6 (r1:=.cl (.int v1)) (r2:=.cl (.int (500+(k:Int)))) v1 (k:=500+(k:Int)) (by lia) (by lia) rfl rfl
  have e2:=(zl8 e1 (zg7 (fa:=dC (.int 500)) (fb:=dVar 4) (t:=t) (a:=500) (b:=(k:Int)) rfl rfl)).trans em
  have E1:=ze1 (i:=5) e2 (by simp)
  let t1:Th:=[N,.val (.int M),.own (xs.map D.int),.val (.int n),.val (.int (k:Int)),.val (.int m)]
  have d4:=zj9 (fa:=dVar 5) (fb:=dC (.int 4)) (t:=t1) (a:=m) (b:=4) rfl rfl (by decide) (zf0 (by decide) (by decide))
  have a1:=zf2 d4 (fb:=dC (.int 10)) (b:=10) rfl (by decide)
  have a2:=zf2 d4 (fb:=dC (.int 100)) (b:=100) rfl (by decide)
  have a3:=zf2 (zr2 (fa:=dVar 5) (fb:=dC (.int 29803)) (t:=t1) (a:=m) (b:=29803) rfl rfl (zf0 (by lia) (by lia)) (zf0 (by decide) (by decide))) (ep t1) (by decide)
  have el:=(tk1 (k:=kLst) (cns (rfl:dC (.int 0) t1=some (.cl (.int 0))) (cns (rfl:dC (.int 1) t1=some (.cl (.int 1))) (cns (rfl:dC (.int 2) t1=some (.cl (.int 2))) (cns a1 (cns a2 (cns a3 (rfl:dNil t1=some []))))))))
  have q:=fm (a:=m) (b:=6) (by decide)
  obtain⟨r,hr⟩:∃r:Nat,m.fmod 6=(r:Int):=⟨(m.fmod 6).toNat,by lia⟩
  have ei:=zf2 (fa:=dVar 5) (fb:=dC (.int 6)) (t:=t1) (a:=m) (b:=6) rfl rfl (by decide)
  rw [hr]at ei
  have ex:=zm1 [0,1,2,(m.fdiv 4).fmod 10,(m.fdiv 4).fmod 100,(m*29803).fmod 1000000000001] r (r1:=.nw ([0,1,2,(m.fdiv 4).fmod 10,(m.fdiv 4).fmod 100,(m*29803).fmod 1000000000001].map D.int)) el ei (by simp;lia) rfl rfl
  have E2:=zz8 (i:=2) t1 (xs:=xs) ex rfl (by lia)
  have w1:=fm (a:=m.fdiv 4) (b:=10) (by decide)
  have w2:=fm (a:=m.fdiv 4) (b:=100) (by decide)
  have w3:=fm (a:=m*29803) (b:=1000000000001) (by decide)
  have wm:∀y∈[0,1,2,(m.fdiv 4).fmod 10,(m.fdiv 4).fmod 100,(m*29803).fmod 1000000000001],0≤y∧y≤1000000000000:=by
   intro y hy
   simp only [zbk5,zbp0,or_false]at hy
   lia
  have wg:=wm _ (getM (L:=[0,1,2,(m.fdiv 4).fmod 10,(m.fdiv 4).fmod 100,(m*29803).fmod 1000000000001]) (k:=r) (by simp;lia))
  exact⟨_,rfl,(ifs_f cnd (by simpa using z)).trans ((za8 E1).trans E2),_,_,_,_,rfl,by simp [hl],zaz3 hx wg⟩
theorem zau1 (ns:List Int) (hb:∀n∈ns,n.natAbs<bndS) {M:Nat} (m1:M≤1000):∃ws:List Int,ws.length=M∧(∀x∈ws,0≤x∧x≤1000000000000)∧zh3 [.lst (ns.map D.int),.int (M:Int)]=some (.nw (ws.map D.int)):=by
 let N:Sl:=.val (.lst (ns.map D.int))
 obtain⟨v1,_,e1⟩:=zq5 ns hb 1 [.val (.int (M:Int)),.own (([]:List Int).map D.int),.no,.no,.no]
 have E1:=ze1 (i:=3) e1 (by simp)
 obtain⟨t2,E3,xs,n,s4,s5,rfl,hl,hx⟩:=zbf0 (k:=za5 4) (b:=bdW) (P:=PW N (M:Int)) (C:=1000) ((zd1 M).map D.int) 0 (fun d hd c' t' hc' h'=>by
   obtain⟨x,rfl,hx⟩:=zan4 hd
   exact turn_W ns hb (by lia) hc' h') (by rw [zh9];lia) [N,.val (.int (M:Int)),.own (([]:List Int).map D.int),.val (.int v1),.no,.no] ⟨[],_,_,_,rfl,rfl,(fun q hq=>nomatch hq)⟩
 rw [zh9]at hl
 have E2:=zu7 (k0:=za5 4) (b:=bdW) (t:=[N,.val (.int (M:Int)),.own (([]:List Int).map D.int),.val (.int v1),.no,.no]) (f:=dVar 1) (r:=.cl (.int (M:Int))) (n:=M) rfl rfl (by lia)
 refine⟨xs,by lia,hx,?_⟩
 show (zj3 [N,.val (.int (M:Int)),.no,.no,.no,.no]).bind zj2=_
 unfold zj3
 exact bnd ((za8 (t':=[N,.val (.int (M:Int)),.own (([]:List Int).map D.int),.no,.no,.no]) rfl).trans ((za8 E1).trans ((za8 (E2.trans E3)).trans rfl)))
end KX
set_option maxHeartbeats 1000000
namespace KX
open PySem.Spec L2 DL
noncomputable def tcU (u:Nat×Nat) (p:Nat):Bool:=decide (u.1=p)||decide (u.2=p)
noncomputable def tO (p:Nat):List (Nat×Nat)→Nat→List Int
 |[],_=>[]
 |u::l,i=>if tcU u p then (i:Int)::tO p l (i+1) else tO p l (i+1)
theorem tO_len (p:Nat):∀(l:List (Nat×Nat)) (i:Nat),(tO p l i).length≤l.length
 |[],_=>zbl3 _
 |u::l,i=>by
  have:=tO_len p l (i+1)
  unfold tO
  split<;>simp<;>lia
noncomputable def ftT:DT:=(dBo (d2 kIn (dVar 2) (dVar 1)))
theorem zaj8 {p:Nat}:∀(l:List (Nat×Nat)) (i:Nat) (s0 s1:Sl),zd8 ktT ftT (dVar 0) (zo6 i (l.map tD)) [s0,s1,.val (.int (p:Int))]=some ((tO p l i).map D.int)
 |[],i,s0,s1=>rfl
 |u::l,i,s0,s1=>by
  have e0:ktT (.tup [.int (i:Int),tD u]) [s0,s1,.val (.int (p:Int))]=some [.val (.int (i:Int)),.val (tD u),.val (.int (p:Int))]:=rfl
  have e1:ftT [.val (.int (i:Int)),.val (tD u),.val (.int (p:Int))]=some (tcU u p):=by
   have et:tcU u p=(decide ((u.1:Int)=(p:Int))||decide ((u.2:Int)=(p:Int))):=by
    unfold tcU
    rw [decide_eq_decide.mpr (by lia:u.1=p↔(u.1:Int)=(p:Int)),decide_eq_decide.mpr (by lia:u.2=p↔(u.2:Int)=(p:Int))]
   rw [et]
   unfold ftT dBo
   rw [zg2 (rfl:dVar 2 _=some (.cl (.int (p:Int)))) (rfl:dVar 1 _=some (.cl (tD u)))]
   simp only [kIn,Ev.d,tD,pD]
   generalize (p:Int)=q
   generalize (u.1:Int)=a
   generalize (u.2:Int)=b
   simp [scD,eqOk,eqD]
  have ih:=zaj8 (p:=p) l (i+1) (.val (.int (i:Int))) (.val (tD u))
  simp only [zbl8,zo6,zd8,e0,zbk3,e1]
  show _=some ((if tcU u p then (i:Int)::tO p l (i+1) else tO p l (i+1)).map D.int)
  cases c:tcU u p with
  |true=>rw [if_pos rfl,ih];rfl
  |false=>rw [if_neg (by decide),ih];rfl
theorem zau4 {M:Int}{us:List (Nat×Nat)} (hl:us.length≤50000) (p:Nat):zk5 [.tup [.int M,.lst (us.map tD)],.int (p:Int)]=some (.nw ((tO p us 0).map D.int)):=by
 have e2:=zaj8 (p:=p) us 0 .no .no
 show (zy8 [.val (.tup [.int M,.lst (us.map tD)]),.val (.int (p:Int))]).bind zj2=_
 refine bnd (zn6 ?_)
 unfold ze6
 have e1:fsE (d2 kIx (dVar 0) (dC (.int 1))) [.val (.tup [.int M,.lst (us.map tD)]),.val (.int (p:Int))]=some (true,zo6 0 (us.map tD)):=rfl
 have ec:capD [.val (.tup [.int M,.lst (us.map tD)]),.val (.int (p:Int))] [1]=some (true,[.int (p:Int)]):=rfl
 rw [e1,ec]
 simp only [zbk3]
 rw [if_pos (by rw [zi2,zbm6];exact hl)]
 show (zd8 ktT ftT (dVar 0) (zo6 0 (us.map tD)) [.no,.no,.val (.int (p:Int))]).bind _=_
 rw [e2]
 rfl
theorem dn_asg {t:Th}{f:DE}{i:Nat}{d:D} (h:f t=some (.dn d)) (hi:i<t.length):dAsg i f t=some (.nx (t.set i (.dp d))):=by
 unfold dAsg
 rw [h]
 show (zs3 t i (.dn d)).map Out.nx=_
 unfold zs3
 rw [if_pos hi]
 rfl
theorem zr3 {fa fb:DE}{t:Th}{r1 r2:Ev} (L:List Int) (b:Int) (ha:fa t=some r1) (hb:fb t=some r2) (h0:0≤b) (h:b<(L.length:Int)) (h1:r1.d=.lst (L.map D.int)) (h2:r2.d=.int b):(d2 kIx fa fb) t=some (.cl (.int (L.getD b.toNat 0))) :=
 zm1 L b.toNat ha hb (by lia) h1 (by rw [h2,zbt3 h0])
theorem zao9:∀bs:List Bool,blsD (bs.map D.bl)=some bs
 |[]=>rfl
 |b::bs=>by
  show (blsD (bs.map D.bl)).map (b::·)=_
  rw [zao9 bs]
  rfl
theorem zo5:∀bs:List Bool,zg9 (bs.map D.bl)=true
 |[]=>rfl
 |b::bs=>by
  show (flat (D.bl b)&&zg9 (bs.map D.bl))=true
  rw [zo5 bs]
  rfl
theorem zap1 {f:DE}{t:Th}{bs:List Bool} (h:f t=some (.nw (bs.map D.bl))):(dT1 qU (za2 f dNil)) t=some (.cl (.bl (bs.all id))):=by
 rw [zw2 h]
 (try unfold qU);unfold kBls
 simp only [Ev.d,zao9,zbp8]
theorem anyB_of {f:DE}{t:Th}{bs:List Bool} (h:f t=some (.nw (bs.map D.bl))):(dT1 (kBls fun bs=>bs.any id) (za2 f dNil)) t=some (.cl (.bl (bs.any id))):=by
 rw [zw2 h]
 (try unfold qU);unfold kBls
 simp only [Ev.d,zao9,zbp8]
theorem zz4 {fe:DE}{p:Int→Bool}{ext:Th}:∀(xs:List Int) (s:Sl),(∀x∈xs,fe (.val (.int x)::ext)=some (.cl (.bl (p x))))→zd8 (za5 0) ze5 fe (xs.map D.int) (s::ext)=some ((xs.map p).map D.bl)
 |[],s,_=>rfl
 |x::xs,s,h=>by
  have ih:=zz4 xs (.val (.int x)) fun y hy=>h y (zbj9 _ hy)
  show (fe (.val (.int x)::ext)).bind (fun r=>(zd8 (za5 0) ze5 fe (xs.map D.int) (.val (.int x)::ext)).map fun xs=>r.d::xs)=_
  rw [h x (zbk2 ..),ih]
  rfl
theorem comp_T {fe:DE}{p:Nat×Nat→Bool}{ext:Th}:∀(us:List (Nat×Nat)) (s s':Sl),(∀u∈us,fe (.val (.int (u.1:Int))::.val (.int (u.2:Int))::ext)=some (.cl (.bl (p u))))→zd8 (zg1 2 (zb3 (za5 0) (zb3 (za5 1) zg5))) ze5 fe (us.map tD) (s::s'::ext)=some ((us.map p).map D.bl)
 |[],s,s',_=>rfl
 |u::us,s,s',h=>by
  have ih:=comp_T us (.val (.int (u.1:Int))) (.val (.int (u.2:Int))) fun y hy=>h y (zbj9 _ hy)
  show (fe (.val (.int (u.1:Int))::.val (.int (u.2:Int))::ext)).bind (fun r=>(zd8 (zg1 2 (zb3 (za5 0) (zb3 (za5 1) zg5))) ze5 fe (us.map tD) (.val (.int (u.1:Int))::.val (.int (u.2:Int))::ext)).map fun xs=>r.d::xs)=_
  rw [h u (zbk2 ..),ih]
  rfl
theorem zbg9 {cap:List Nat}{f:DE}{fe:DE}{t:Th}{r:Ev}{xs:List Int}{p:Int→Bool}{b:Bool}{c:List D} (hf:f t=some r) (hr:r.d=.lst (xs.map D.int)) (hn:xs.length≤50000) (hc:capD t cap=some (b,c)) (he:∀x∈xs,fe (.val (.int x)::c.map Sl.val)=some (.cl (.bl (p x)))) :
  (ze6 1 cap (fsL f) (za5 0) ze5 fe) t=some (.nw ((xs.map p).map D.bl)):=by
 unfold ze6
 have e1:fsL f t=some (r.ok,xs.map D.int):=by
  unfold fsL
  rw [hf]
  simp only [zbk3,hr]
 rw [e1,hc]
 simp only [zbk3]
 rw [if_pos (by simpa using hn)]
 show (zd8 (za5 0) ze5 fe (xs.map D.int) (Sl.no::c.map Sl.val)).bind _=_
 rw [zz4 _ _ he]
 simp only [zbk3,zo5,zbp3,if_true]
theorem zbg8 {cap:List Nat}{f:DE}{fe:DE}{t:Th}{n:Nat}{p:Int→Bool}{b:Bool}{c:List D} (hf:f t=some (.cl (.int (n:Int)))) (hn:n≤50000) (hc:capD t cap=some (b,c)) (he:∀x∈zd1 n,fe (.val (.int x)::c.map Sl.val)=some (.cl (.bl (p x)))) :
  (ze6 1 cap (fsR1 f) (za5 0) ze5 fe) t=some (.nw (((zd1 n).map p).map D.bl)):=by
 unfold ze6
 rw [zaz8 hf hn,hc]
 simp only [zbk3]
 rw [if_pos (by rw [zh9];exact hn)]
 show (zd8 (za5 0) ze5 fe ((zd1 n).map D.int) (Sl.no::c.map Sl.val)).bind _=_
 rw [zz4 _ _ he]
 simp only [zbk3,zo5,zbp3,if_true]
noncomputable def rsB (M:Int):Int→List Int→Bool
 |a,[]=>decide (a<M)
 |a,c::cs=>decide (a<c)&&rsB M c cs
theorem comp_Z {M:Int}:∀(cs:List Int) (a:Int) (s s':Sl),∃bs:List Bool,zd8 (zg1 2 (zb3 (za5 0) (zb3 (za5 1) zg5))) ze5 (d2 qL (dVar 0) (dVar 1)) (zipD ((a::cs).map D.int) ((cs++[M]).map D.int)) [s,s']=some (bs.map D.bl)∧bs.all id=rsB M a cs
 |[],a,s,s'=>⟨[decide (a<M)],rfl,by simp [rsB]⟩
 |c::cs,a,s,s'=>by
  obtain⟨bs,e,h⟩:=comp_Z (M:=M) cs c (.val (.int a)) (.val (.int c))
  refine⟨decide (a<c)::bs,?_,by rw [zbo7,h];rfl⟩
  show (zd8 _ ze5 _ (zipD ((c::cs).map D.int) ((cs++[M]).map D.int)) [.val (.int a),.val (.int c)]).map _=_
  rw [e]
  rfl
theorem zax5 (a:Int) (cs:List Int) (M:Int):(zipD ((a::cs).map D.int) ((cs++[M]).map D.int)).length≤cs.length+1:=by
 rw [zw4]
 simp
theorem rise_is {M:Int}{cs:List Int} (hl:cs.length≤1000):zi3 [.lst (cs.map D.int),.int M]=some (.cl (.bl (rsB M (-1) cs))):=by
 let t:Th:=[.val (.lst (cs.map D.int)),.val (.int M)]
 have c1:(d2 qA (dT1 kLst (za2 (d1 kNeg (dC (.int 1))) dNil)) (dVar 0)) t=some (.nw (((-1)::cs).map D.int)):=by
  rw [zg2 (rfl:(dT1 kLst (za2 (d1 kNeg (dC (.int 1))) dNil)) t=some (.nw [.int (-1)])) (rfl:dVar 0 t=some (.cl (.lst (cs.map D.int))))]
  show kCat (.nw [.int (-1)]) (.cl (.lst (cs.map D.int)))=_
  unfold kCat
  simp only [Ev.d,Ev.ok,zby5,zbu4]
  rw [if_pos (decide_eq_true (by simp;lia))]
  rfl
 have c2:(d2 qA (dVar 0) (dT1 kLst (za2 (dVar 1) dNil))) t=some (.nw ((cs++[M]).map D.int)):=by
  rw [zg2 (rfl:dVar 0 t=some (.cl (.lst (cs.map D.int)))) (rfl:(dT1 kLst (za2 (dVar 1) dNil)) t=some (.nw [.int M]))]
  show kCat (.cl (.lst (cs.map D.int))) (.nw [.int M])=_
  unfold kCat
  simp only [Ev.d,Ev.ok,zby5,zbu4]
  rw [if_pos (decide_eq_true (by simp;lia)),zbx6]
  rfl
 obtain⟨bs,e,h⟩:=comp_Z (M:=M) cs (-1) .no .no
 have c3:(ze6 2 [] (fsZ (d2 qA (dT1 kLst (za2 (d1 kNeg (dC (.int 1))) dNil)) (dVar 0)) (d2 qA (dVar 0) (dT1 kLst (za2 (dVar 1) dNil)))) (zg1 2 (zb3 (za5 0) (zb3 (za5 1) zg5))) ze5 (d2 qL (dVar 0) (dVar 1))) t=some (.nw (bs.map D.bl)):=by
  unfold ze6 fsZ
  rw [c1,c2]
  simp only [zbk3,Ev.d]
  show (if (zipD (((-1)::cs).map D.int) ((cs++[M]).map D.int)).length≤50000 then (zd8 _ ze5 _ (zipD (((-1)::cs).map D.int) ((cs++[M]).map D.int)) [.no,.no]).bind _ else none)=_
  rw [if_pos (by have:=zax5 (-1) cs M;lia),e]
  simp only [zbk3,zo5,zbp3,if_true]
 show (zo4 t).bind zj2=_
 rw [← h]
 exact bnd (zn6 (zap1 c3))
noncomputable def cvB (us:List (Nat×Nat)) (cs:List Int):Bool:=us.all fun u=>decide ((u.1:Int)∈cs)||decide ((u.2:Int)∈cs)
theorem zbh6 {G:List D→Option Ev}{rs:List Ev}{b:Bool} (h:G (rs.map Ev.d)=some (.cl (.bl b))):zd3 G rs=some (.cl (.bl b)):=callc h rfl
theorem cover_is {M:Nat}{us:List (Nat×Nat)}{cs:List Int} (hl:cs.length≤1000) (ul:us.length≤400):zm8 [.tup [.int (M:Int),.lst (us.map tD)],.lst (cs.map D.int)]=some (.cl (.bl (rsB (M:Int) (-1) cs&&cvB us cs))):=by
 let WD:D:=.tup [.int (M:Int),.lst (us.map tD)]
 let C:Sl:=.val (.lst (cs.map D.int))
 let t1:Th:=[.val WD,C,.val (.int (M:Int)),.val (.lst (us.map tD))]
 have E1:zaf0 (zg1 2 (zb3 (za5 2) (zb3 (za5 3) zg5))) (dVar 0) [.val WD,C,.no,.no]=some (.nx t1):=rfl
 have c:=(zl8 (rfl:dVar 1 t1=some (.cl (.lst (cs.map D.int)))) (rfl:dVar 2 t1=some (.cl (.int (M:Int))))).trans (zbh6 (G:=zi3) (rs:=[.cl (.lst (cs.map D.int)),.cl (.int (M:Int))]) (rise_is hl))
 show (dSeq _ (dSeq _ _) [.val WD,C,.no,.no]).bind zj2=_
 cases z:rsB (M:Int) (-1) cs with
 |false =>
  rw [z]at c
  exact bnd ((za8 E1).trans (seq_rt (zae5 (zab4 (zag0 c)) rfl)))
 |true =>
  rw [z]at c
  have c3:(ze6 2 [1] (fsL (dVar 3)) (zg1 2 (zb3 (za5 0) (zb3 (za5 1) zg5))) ze5 (dOrV (d2 kIn (dVar 0) (dVar 2)) (d2 kIn (dVar 1) (dVar 2)))) t1=some (.nw ((us.map fun u=>decide ((u.1:Int)∈cs)||decide ((u.2:Int)∈cs)).map D.bl)):=by
   unfold ze6
   have e1:fsL (dVar 3) t1=some (true,us.map tD):=rfl
   have ec:capD t1 [1]=some (true,[.lst (cs.map D.int)]):=rfl
   rw [e1,ec]
   simp only [zbk3]
   rw [if_pos (by rw [zbm6];lia)]
   show (zd8 _ ze5 _ (us.map tD) [Sl.no,Sl.no,.val (.lst (cs.map D.int))]).bind _=_
   rw [comp_T (p:=fun u=>decide ((u.1:Int)∈cs)||decide ((u.2:Int)∈cs)) us _ _ fun u _=>?_]
   ·simp only [zbk3,zo5,zbp3,if_true]
   ·let t:Th:=[.val (.int (u.1:Int)),.val (.int (u.2:Int)),.val (.lst (cs.map D.int))]
    have i1:(d2 kIn (dVar 0) (dVar 2)) t=some (.cl (.bl (decide ((u.1:Int)∈cs)))):=(zg2 (rfl:dVar 0 t=some (.cl (.int (u.1:Int)))) (rfl:dVar 2 t=some (.cl (.lst (cs.map D.int))))).trans (zbe3 _ cs rfl rfl)
    have i2:(d2 kIn (dVar 1) (dVar 2)) t=some (.cl (.bl (decide ((u.2:Int)∈cs)))):=(zg2 (rfl:dVar 1 t=some (.cl (.int (u.2:Int)))) (rfl:dVar 2 t=some (.cl (.lst (cs.map D.int))))).trans (zbe3 _ cs rfl rfl)
    show dOrV _ _ t=_
    unfold dOrV
    rw [i1]
    simp only [zbk3,Ev.d]
    cases decide ((u.1:Int)∈cs)
    ·rw [if_neg (by decide),i2];rfl
    ·rfl
  have e:=bnd ((za8 E1).trans ((za8 (grd (g:=dRet (dC (.bl false))) (zab4 (zag0 c)) rfl)).trans (zn6 (zap1 c3))))
  refine e.trans ?_
  rw [List.all_map]
  rfl
noncomputable def ld (p:Nat):List (Nat×Nat)→List Int→Int
 |[],_=>0
 |_::_,[]=>0
 |u::us,x::xs=>(if tcU u p then x else 0)+ld p us xs
theorem zbc2 (p:Nat):∀(us:List (Nat×Nat)) (pre ps:List Int),ps.length=us.length→((tO p us pre.length).map fun a=>(pre++ps).getD a.toNat 0).sum=ld p us ps
 |[],_,_,_=>rfl
 |u::us,pre,[],h=>by simp at h
 |u::us,pre,x::ps,h=>by
  have ih:=zbc2 p us (pre++[x]) ps (by simpa using h)
  rw [zbo5,zbw0,zbk9]at ih
  have e:(pre++x::ps).getD pre.length 0=x:=by simp [zbl1]
  show ((if tcU u p then (pre.length:Int)::tO p us (pre.length+1) else tO p us (pre.length+1)).map _).sum=(if tcU u p then x else 0)+ld p us ps
  cases tcU u p
  ·rw [if_neg (by decide),if_neg (by decide)]
   have ih:((tO p us (pre.length+1)).map fun a=>(pre++x::ps).getD a.toNat 0).sum=ld p us ps:=ih
   lia
  ·rw [if_pos rfl,if_pos rfl,zbl8,List.sum_cons,zbn9,e]
   have ih:((tO p us (pre.length+1)).map fun a=>(pre++x::ps).getD a.toNat 0).sum=ld p us ps:=ih
   lia
theorem tO_lt (p:Nat):∀(us:List (Nat×Nat)) (i:Nat),∀a∈tO p us i,(i:Int)≤a∧a<(i:Int)+us.length
 |[],i,a,h=>by cases h
 |u::us,i,a,h=>by
  have ih:=tO_lt p us (i+1) a
  rw [zbo6]
  have h:a∈(if tcU u p then (i:Int)::tO p us (i+1) else tO p us (i+1)):=h
  split at h
  ·rcases zbk5.mp h with z | z
   ·lia
   ·have:=ih z;lia
  ·have:=ih h;lia
noncomputable def pyB (M:Nat) (us:List (Nat×Nat)) (ws ps:List Int):Bool:=decide (ps.length=us.length)&&(!(ps.any fun x=>decide (x<0))&&(zd1 M).all fun x=>decide (ld x.toNat us ps≤ws.getD x.toNat 0))
theorem zan8 {t:Th}{f:DE}{r:Ev}{us:List (Nat×Nat)} (h:f t=some r) (hr:r.d=.lst (us.map tD)):(dT1 kLen (za2 f dNil)) t=some (.cl (.int (us.length:Int))):=by
 rw [zw2 h]
 unfold kLen
 simp only [hr,zbm6]
theorem pay_is {M:Nat}{us:List (Nat×Nat)}{ws ps:List Int} (hM:M≤1000) (hw:ws.length=M) (hl:ps.length≤1000) (ul:us.length≤400):zh4 [.tup [.int (M:Int),.lst (us.map tD)],.lst (ws.map D.int),.lst (ps.map D.int)]=some (.cl (.bl (pyB M us ws ps))):=by
 let WD:D:=.tup [.int (M:Int),.lst (us.map tD)]
 let W:Sl:=.val (.lst (ws.map D.int))
 let P:Sl:=.val (.lst (ps.map D.int))
 let t1:Th:=[.val WD,W,P,.val (.int (M:Int)),.val (.lst (us.map tD)),.no]
 have E1:zaf0 (zg1 2 (zb3 (za5 3) (zb3 (za5 4) zg5))) (dVar 0) [.val WD,W,P,.no,.no,.no]=some (.nx t1):=rfl
 have c1:=neI_of (zai8 (f:=dVar 2) (t:=t1) (r:=.cl (.lst (ps.map D.int))) (xs:=ps) rfl rfl) (zan8 (f:=dVar 4) (t:=t1) (r:=.cl (.lst (us.map tD))) (us:=us) rfl rfl)
 have c2:=zag0 (anyB_of (zbg9 (cap:=[]) (f:=dVar 2) (t:=t1) (fe:=d2 qL (dVar 0) (dC (.int 0))) (r:=.cl (.lst (ps.map D.int))) (xs:=ps) (p:=fun x=>decide (x<0)) (b:=true) (c:=[]) rfl rfl (by lia) rfl fun x _=>rfl))
 have c3:=zah6 c1 c2
 rw [List.any_map]at c3
 show (dSeq _ (dSeq _ _) [.val WD,W,P,.no,.no,.no]).bind zj2=_
 unfold pyB
 by_cases z1:ps.length=us.length
 ·by_cases z2:(ps.any fun x=>decide (x<0))=true
  ·rw [decide_eq_true z1,z2]
   have c3:_=some (_||(ps.any fun x=>decide (x<0))):=c3
   rw [z2,zbp3]at c3
   exact bnd ((za8 E1).trans (seq_rt (zae5 c3 rfl)))
  ·have z2:(ps.any fun x=>decide (x<0))=false:=by simpa using z2
   have c3:_=some (_||(ps.any fun x=>decide (x<0))):=c3
   rw [z2,decide_eq_true (by lia:(ps.length:Int)=(us.length:Int))]at c3
   have E2:=grd (g:=dRet (dC (.bl false))) c3 rfl
   rw [decide_eq_true z1,z2]
   have c4:(ze6 1 [2,0] (fsR1 (dVar 3)) (za5 0) ze5 (dT1 kSum (za2 (ze6 1 [1] (fsL (dT1 (zd3 zk5) (za2 (dVar 2) (za2 (dVar 0) dNil)))) (za5 0) ze5 (d2 kIx (dVar 1) (dVar 0))) dNil))) t1=some (.nw (((zd1 M).map fun x=>ld x.toNat us ps).map D.int)) :=
    zbg7 (cap:=[2,0]) (n:=M) (b:=true) (c:=[.lst (ps.map D.int),WD]) rfl (by lia) rfl (fun x hx=>by
     have hx:=zt1 hx
     let t:Th:=[.val (.int x),P,.val WD]
     have k1:(dT1 (zd3 zk5) (za2 (dVar 2) (za2 (dVar 0) dNil))) t=some (.nw ((tO x.toNat us 0).map D.int)):=by
      rw [zl8 (rfl:dVar 2 t=some (.cl WD)) (rfl:dVar 0 t=some (.cl (.int x)))]
      refine calln (G:=zk5) (rs:=[.cl WD,.cl (.int x)]) ?_
      have:=zau4 (M:=(M:Int)) (us:=us) (by lia) x.toNat
      rw [zbt3 hx.1]at this
      exact this
     have k2:=zaq1 (zaf2 (cap:=[1]) (t:=t) (fe:=d2 kIx (dVar 1) (dVar 0)) (xs:=tO x.toNat us 0) (g:=fun a=>ps.getD a.toNat 0) (b:=true) (c:=[.lst (ps.map D.int)]) k1 rfl (by have:=tO_len x.toNat us 0;lia) rfl (fun a ha=>by
      have:=tO_lt x.toNat us 0 a ha
      exact zr3 (r1:=.cl (.lst (ps.map D.int))) (r2:=.cl (.int a)) ps a rfl rfl (by lia) (by lia) rfl rfl)) rfl
     have pi:=zbc2 x.toNat us [] ps z1
     have pi:((tO x.toNat us 0).map fun a=>ps.getD a.toNat 0).sum=ld x.toNat us ps:=pi
     rw [pi]at k2
     exact k2)
   have E3:=zu3 (i:=5) c4 (by simp [t1])
   let pd:=(zd1 M).map fun x=>ld x.toNat us ps
   let t2:Th:=[.val WD,W,P,.val (.int (M:Int)),.val (.lst (us.map tD)),.own (pd.map D.int)]
   have pl:pd.length=M:=by simp [pd,zm0]
   have c5:=zbg8 (cap:=[5,1]) (f:=dVar 3) (t:=t2) (n:=M) (fe:=d2 qE (d2 kIx (dVar 1) (dVar 0)) (d2 kIx (dVar 2) (dVar 0))) (p:=fun x=>decide (ld x.toNat us ps≤ws.getD x.toNat 0)) (b:=false) (c:=[.lst (pd.map D.int),.lst (ws.map D.int)]) rfl (by lia) rfl (fun x hx=>by
    have hx:=zt1 hx
    let t:Th:=[.val (.int x),.val (.lst (pd.map D.int)),.val (.lst (ws.map D.int))]
    have k1:=zr3 (fa:=dVar 1) (fb:=dVar 0) (t:=t) (r1:=.cl (.lst (pd.map D.int))) (r2:=.cl (.int x)) pd x rfl rfl (by lia) (by lia) rfl rfl
    have k2:=zr3 (fa:=dVar 2) (fb:=dVar 0) (t:=t) (r1:=.cl (.lst (ws.map D.int))) (r2:=.cl (.int x)) ws x rfl rfl (by lia) (by lia) rfl rfl
    have e:pd.getD x.toNat 0=ld x.toNat us ps:=by
     show ((zd1 M).map fun x=>ld x.toNat us ps).getD x.toNat 0=_
     rw [zbl1,zbp6]
     have:(zd1 M)[x.toNat]?=some x:=by
      unfold zd1
      rw [zbp6,zcb7 (by lia)]
      show some ((x.toNat:Int))=_
      rw [zbt3 hx.1]
     rw [this]
     rfl
    rw [e]at k1
    exact (zg2 k1 k2).trans rfl)
   have fin:=bnd ((za8 E1).trans ((za8 E2).trans ((za8 E3).trans (zn6 (zap1 c5)))))
   refine fin.trans ?_
   rw [List.all_map]
   rfl
 ·rw [decide_eq_false z1]
  rw [decide_eq_false (by lia : ¬ (ps.length:Int)=(us.length:Int))]at c3
  exact bnd ((za8 E1).trans (seq_rt (zae5 c3 rfl)))
noncomputable def lcB (M:Nat) (us:List (Nat×Nat)) (ws cs ps:List Int):Bool:=(rsB (M:Int) (-1) cs&&cvB us cs)&&(pyB M us ws ps&&decide ((cs.map fun p=>ws.getD p.toNat 0).sum≤2*ps.sum))
theorem rs_lt {M:Int}:∀(cs:List Int) (a:Int),rsB M a cs=true→a<M∧∀c∈cs,a<c∧c<M
 |[],a,h=>⟨by simpa [rsB] using h,fun c hc=>nomatch hc⟩
 |c::cs,a,h=>by
  simp only [rsB,zbk7,decide_eq_true_eq]at h
  obtain⟨h1,h2⟩:=rs_lt cs c h.2
  refine⟨by lia,fun d hd=>?_⟩
  rcases zbk5.mp hd with z | z
  ·lia
  ·have:=h2 d z;lia
theorem sum_bd {B:Int} (hB:0≤B):∀ {ps:List Int},(∀x∈ps, -B≤x∧x≤B) → -(ps.length*B)≤ps.sum∧ps.sum≤ps.length*B
 |[],_=>by simp
 |x::ps,h=>by
  have ih:=sum_bd hB (ps:=ps) fun y hy=>h y (zbj9 _ hy)
  have hx:=h x (zbk2 ..)
  rw [List.sum_cons,zbo6]
  have:((ps.length+1:Nat):Int)*B=ps.length*B+B:=by rw [Int.natCast_add,Int.add_mul];simp
  lia
noncomputable def bdP (ps:List Int):Prop := ∀x∈ps, -100000000000000000000000000000000≤x∧x≤100000000000000000000000000000000
theorem zay2 {f:DE}{t:Th}{r:Ev}{ps:List Int} (hl:ps.length≤1000) (hb:bdP ps) (h:f t=some r) (hr:r.d=.lst (ps.map D.int)):(d2 qM (dC (.int 2)) (dT1 kSum (za2 f dNil))) t=some (.cl (.int (2*ps.sum))):=by
 have b:=sum_bd (by decide) hb
 have:(ps.length:Int)*100000000000000000000000000000000≤1000*100000000000000000000000000000000:=zbs7 (by lia) (by decide)
 exact zr2 (fa:=dC (.int 2)) (a:=2) rfl (zaq1 h hr) (zf0 (by decide) (by decide)) (zf0 (by lia) (by lia))
theorem lets_is {M:Nat}{us:List (Nat×Nat)}{ws cs ps:List Int} (hM:M≤900) (hw:ws.length=M) (cl:cs.length≤1000) (hl:ps.length≤1000) (ul:us.length≤400) (hb:bdP ps):zi4 [.tup [.int (M:Int),.lst (us.map tD)],.lst (ws.map D.int),.lst (cs.map D.int),.lst (ps.map D.int)]=some (.cl (.bl (lcB M us ws cs ps))):=by
 let WD:D:=.tup [.int (M:Int),.lst (us.map tD)]
 let t:Th:=[.val WD,.val (.lst (ws.map D.int)),.val (.lst (cs.map D.int)),.val (.lst (ps.map D.int))]
 have c1:=(zl8 (rfl:dVar 0 t=some (.cl WD)) (rfl:dVar 2 t=some (.cl (.lst (cs.map D.int))))).trans (zbh6 (G:=zm8) (rs:=[.cl WD,.cl (.lst (cs.map D.int))]) (cover_is (M:=M) cl ul))
 have c2:=(t3_of (rfl:dVar 0 t=some (.cl WD)) (rfl:dVar 1 t=some (.cl (.lst (ws.map D.int)))) (rfl:dVar 3 t=some (.cl (.lst (ps.map D.int))))).trans (zbh6 (G:=zh4) (rs:=[.cl WD,.cl (.lst (ws.map D.int)),.cl (.lst (ps.map D.int))]) (pay_is (M:=M) (by lia) hw hl ul))
 have c3:=zah6 (zab4 (zag0 c1)) (zab4 (zag0 c2))
 show (dSeq _ _ t).bind zj2=_
 unfold lcB
 cases z1:(rsB (M:Int) (-1) cs&&cvB us cs) with
 |false =>
  rw [z1]at c3
  exact bnd (seq_rt (zae5 c3 rfl))
 |true =>
  rw [z1]at c3
  cases z2:pyB M us ws ps with
  |false =>
   rw [z2]at c3
   exact bnd (seq_rt (zae5 c3 rfl))
  |true =>
   rw [z2]at c3
   have rs:rsB (M:Int) (-1) cs=true:=by rw [zbk7]at z1;exact z1.1
   obtain⟨_,lt⟩:=rs_lt cs (-1) rs
   have c4:=zaq1 (zaf2 (cap:=[1]) (f:=dVar 2) (t:=t) (fe:=d2 kIx (dVar 1) (dVar 0)) (r:=.cl (.lst (cs.map D.int))) (xs:=cs) (g:=fun p=>ws.getD p.toNat 0) (b:=true) (c:=[.lst (ws.map D.int)]) rfl rfl (by lia) rfl (fun x hx=>by
    have:=lt x hx
    exact zr3 (r1:=.cl (.lst (ws.map D.int))) (r2:=.cl (.int x)) ws x rfl rfl (by lia) (by lia) rfl rfl)) rfl
   have c5:=zay2 hl hb (f:=dVar 3) (t:=t) (r:=.cl (.lst (ps.map D.int))) rfl rfl
   exact bnd ((za8 (grd (g:=dRet (dC (.bl false))) c3 rfl)).trans (zn6 ((zg2 c4 c5).trans rfl)))
theorem zal2 {t:Th}{fk:DE}{i:Nat}{B:List Bool}{b:Nat}{v:Bool} (hk:fk t=some (.cl (.int (b:Int)))) (hi:t[i]?=some (.own (B.map D.bl))) (hb:b<B.length):zk0 i fk (dC (.bl v)) t=some (.nx (t.set i (.own ((B.set b v).map D.bl)))):=by
 unfold zk0
 rw [hk]
 show zy0 t i (.cl (.bl v)) (.cl (.int (b:Int)))=_
 unfold zy0
 rw [hi]
 show (ixN (B.map D.bl).length (b:Int)).map _=_
 rw [zy1 _ b (by simpa using hb),zce5]
 rfl
theorem zbd8 {fa fb:DE}{t:Th}{r1 r2:Ev} (B:List Bool) (b:Nat) (ha:fa t=some r1) (hb:fb t=some r2) (h:b<B.length) (h1:r1.d=.lst (B.map D.bl)) (h2:r2.d=.int (b:Int)):(d2 kIx fa fb) t=some (.cl (.bl (B.getD b false))):=by
 rw [zg2 ha hb]
 unfold kIx
 rw [h1,h2]
 have e:atI (B.map D.bl) (b:Int)=some (.bl (B.getD b false)):=by
  unfold atI
  rw [zy1 _ b (by simpa using h)]
  simp [zbl1,h]
 simp only [e,zbp8,flat,zbp3,if_true]
theorem zba3 (x:Bool):∀m:Nat,(zbl4 m [D.bl x]).flatten=(zbl4 m x).map D.bl
 |0=>rfl
 |m+1=>by rw [zbp4,zbq2,zba3 x m,zbp4];rfl
theorem zba2 {fa fb:DE}{t:Th}{x:Bool}{m:Nat} (h1:fa t=some (.nw [.bl x])) (h2:fb t=some (.cl (.int (m:Int)))) (hm:m≤900):(d2 qM fa fb) t=some (.nw ((zbl4 m x).map D.bl)):=by
 rw [zg2 h1 h2]
 show (if ([D.bl x].length≤100&&decide (-1000000≤(m:Int)∧(m:Int)≤1000))=true then some (Ev.nw (zbl4 (m:Int).toNat [D.bl x]).flatten) else none)=_
 rw [if_pos (by simp;lia),zbn9,zba3]
theorem le_of' {fa fb:DE}{t:Th}{a b:Int} (h1:fa t=some (.cl (.int a))) (h2:fb t=some (.cl (.int b))):dBo (d2 qE fa fb) t=some (decide (a≤b)):=by
 unfold dBo;rw [zg2 h1 h2];rfl
theorem ge_of' {fa fb:DE}{t:Th}{a b:Int} (h1:fa t=some (.cl (.int a))) (h2:fb t=some (.cl (.int b))):dBo (d2 (kI tt2 fun i j=>.bl (decide (j≤i))) fa fb) t=some (decide (b≤a)):=by
 unfold dBo;rw [zg2 h1 h2];rfl
theorem ne_nilI {t:Th}{f:DE}{r:Ev}{ts:List Int} (h:f t=some r) (hr:r.d=.lst (ts.map D.int)):dBo (d2 kNe f (dT1 kLst dNil)) t=some (!ts.isEmpty):=by
 unfold dBo
 rw [zg2 (rb:=.nw []) h rfl]
 unfold kNe
 rw [hr]
 cases ts with
 |nil=>rfl
 |cons x r=>simp [eqOk,Ev.d,eqD,eqDs]
theorem ixT_of {fa fb:DE}{t:Th}{r1 r2:Ev}{us:List (Nat×Nat)}{k:Nat}{u:Nat×Nat} (ha:fa t=some r1) (hb:fb t=some r2) (h1:r1.d=.lst (us.map tD)) (h2:r2.d=.int (k:Int)) (hu:us[k]?=some u):(d2 kIx fa fb) t=some (.cl (tD u)):=by
 rw [zg2 ha hb]
 unfold kIx
 rw [h1,h2]
 have hk:k<us.length:=(zbn0.mp hu).1
 have at':atI (us.map tD) (k:Int)=some (tD u):=by
  unfold atI
  rw [zy1 _ k (by rw [zbm6];exact hk),zbk3,zbp6,hu]
  rfl
 show Option.map (fun d=>if (r1.ok||flat d)=true then Ev.cl d else Ev.tm d) (atI (us.map tD) (k:Int))=_
 rw [at',zbp8,if_pos (by have q:flat (tD u)=true:=rfl;rw [q,zbp3])]
theorem zbe7 (B:List Bool) (b k:Nat) (h:b<B.length):(B.set b true).getD k false=(B.getD k false||decide (b=k)):=by
 rw [zbl1,zcd5,zbl1]
 by_cases e:b=k
 ·subst e;simp [h]
 ·rw [if_neg e,decide_eq_false e,zca6]
theorem loop_1 {M:Nat}{UD:D} (s1 s2 s3 s7 s8 s9 s10:Sl):∀(cs:List Int) (a:Int) (B:List Bool) (s6:Sl),B.length=M → -1≤a→a<(M:Int) →
  (rsB (M:Int) a cs=true∧∃(B':List Bool) (u4 u6:Sl),forD (za5 6) bd1 (cs.map D.int) [.val (.tup [.int (M:Int),UD]),s1,s2,s3,.val (.int a),.own (B.map D.bl),s6,s7,s8,s9,s10]=some (.nx [.val (.tup [.int (M:Int),UD]),s1,s2,s3,u4,.own (B'.map D.bl),u6,s7,s8,s9,s10])∧B'.length=M∧∀p:Nat,p<M→B'.getD p false=(B.getD p false||decide ((p:Int)∈cs))) ∨
  (rsB (M:Int) a cs=false∧forD (za5 6) bd1 (cs.map D.int) [.val (.tup [.int (M:Int),UD]),s1,s2,s3,.val (.int a),.own (B.map D.bl),s6,s7,s8,s9,s10]=some (.rt (.cl (.bl false))))
 |[],a,B,s6,hB,h1,h2=>.inl ⟨by simp [rsB,h2],B,_,_,rfl,hB,fun p _=>by simp⟩
 |c::cs,a,B,s6,hB,h1,h2=>by
  let W:Sl:=.val (.tup [.int (M:Int),UD])
  let t1:Th:=[W,s1,s2,s3,.val (.int a),.own (B.map D.bl),.val (.int c),s7,s8,s9,s10]
  have k0:za5 6 (.int c) [W,s1,s2,s3,.val (.int a),.own (B.map D.bl),s6,s7,s8,s9,s10]=some t1:=rfl
  have c1:=zah6 (le_of' (fa:=dVar 6) (fb:=dVar 4) (t:=t1) (a:=c) (b:=a) rfl rfl) (ge_of' (fa:=dVar 6) (fb:=d2 kIx (dVar 0) (dC (.int 0))) (t:=t1) (a:=c) (b:=(M:Int)) rfl rfl)
  by_cases z:c≤a∨(M:Int)≤c
  ·right
   have zb:(decide (c≤a)||decide ((M:Int)≤c))=true:=by
    rcases z with z | z
    ·rw [decide_eq_true z];rfl
    ·rw [decide_eq_true z,zbp3]
   refine⟨?_,?_⟩
   ·cases q:rsB (M:Int) a (c::cs) with
    |false=>rfl
    |true =>
     obtain⟨_,w⟩:=rs_lt _ _ q
     have:=w c (zbk2 ..)
     lia
   ·have e:bd1 t1=some (.rt (.cl (.bl false))):=seq_rt (zae5 c1 zb)
    simp only [zbl8,forD]
    rw [k0]
    simp only [zbk3,e]
  ·have z1:a<c∧c<(M:Int):=by lia
   obtain⟨m,rfl⟩:∃m:Nat,c=(m:Int):=⟨c.toNat,by lia⟩
   have E1:=grd (g:=dRet (dC (.bl false))) c1 (by rw [decide_eq_false (by lia),decide_eq_false (by lia)];rfl)
   have E2:=ze1 (i:=4) (t:=t1) (rfl:dVar 6 t1=some (.cl (.int (m:Int)))) (by simp [t1])
   have E3:=zal2 (t:=[W,s1,s2,s3,.val (.int (m:Int)),.own (B.map D.bl),.val (.int (m:Int)),s7,s8,s9,s10]) (fk:=dVar 6) (i:=5) (B:=B) (b:=m) (v:=true) rfl rfl (by lia)
   have e:bd1 t1=some (.nx [W,s1,s2,s3,.val (.int (m:Int)),.own ((B.set m true).map D.bl),.val (.int (m:Int)),s7,s8,s9,s10]):=(za8 E1).trans ((za8 E2).trans E3)
   have rs:rsB (M:Int) a ((m:Int)::cs)=rsB (M:Int) (m:Int) cs:=by
    show (decide (a<(m:Int))&&rsB (M:Int) (m:Int) cs)=_
    rw [decide_eq_true z1.1,zbu4]
   rw [rs]
   rcases loop_1 s1 s2 s3 s7 s8 s9 s10 (UD:=UD) cs (m:Int) (B.set m true) (.val (.int (m:Int))) (by rw [zbv5];exact hB) (by lia) z1.2 with ⟨i1,B',u4,u6,i2,i3,i4⟩ | ⟨i1,i2⟩
   ·refine .inl ⟨i1,B',u4,u6,?_,i3,fun p hp=>?_⟩
    ·simp only [zbl8,forD]
     rw [k0]
     simp only [zbk3,e]
     exact i2
    ·rw [i4 p hp,zbe7 B m p (by lia),Bool.or_assoc]
     congr 1
     rw [← Bool.decide_or,decide_eq_decide]
     rw [zbk5]
     constructor
     ·rintro (h | h)
      ·exact .inl (by lia)
      ·exact .inr h
     ·rintro (h | h)
      ·exact .inl (by lia)
      ·exact .inr h
   ·refine .inr ⟨i1,?_⟩
    simp only [zbl8,forD]
    rw [k0]
    simp only [zbk3,e]
    exact i2
theorem for_BI {k:D→Th→Option Th}{b:DS}{f:Nat→D}{P:Nat→Th→Prop}{p:Nat→Bool}{n:Nat} (hb:∀x,x<n→∀t,P x t→∃t1,k (f x) t=some t1∧((p x=true∧∃t2,b t1=some (.nx t2)∧P (x+1) t2)∨(p x=false∧b t1=some (.rt (.cl (.bl false)))))):∀(m i:Nat) (t:Th),i+m=n→P i t→((zby1 i m).all p=true∧∃t',forD k b ((zby1 i m).map f) t=some (.nx t')∧P n t')∨((zby1 i m).all p=false∧forD k b ((zby1 i m).map f) t=some (.rt (.cl (.bl false))))
 |0,i,t,e,h=>.inl ⟨rfl,t,rfl,by rw [← e];exact h⟩
 |m+1,i,t,e,h=>by
  obtain⟨t1,e1,r⟩:=hb i (by lia) t h
  rw [zce6]
  rcases r with ⟨z,t2,e2,h2⟩ | ⟨z,e2⟩
  ·rcases for_BI hb m (i+1) t2 (by lia) h2 with ⟨a,t',e,h'⟩ | ⟨a,e⟩
   ·exact .inl ⟨by rw [zbo7,z,a];rfl,t',by simp only [zbl8,forD,e1,zbk3,e2];exact e,h'⟩
   ·exact .inr ⟨by rw [zbo7,z,a];rfl,by simp only [zbl8,forD,e1,zbk3,e2];exact e⟩
  ·exact .inr ⟨by rw [zbo7,z];rfl,by simp only [zbl8,forD,e1,zbk3,e2]⟩
theorem zbd3 (p:Nat) (u:Nat×Nat) (x:Int):∀(us:List (Nat×Nat)) (ps:List Int),ps.length=us.length→ld p (us++[u]) (ps++[x])=ld p us ps+if tcU u p then x else 0
 |[],[],_=>by simp [ld]
 |[],_::_,h=>by simp at h
 |_::_,[],h=>by simp at h
 |v::us,y::ps,h=>by
  have ih:=zbd3 p u x us ps (by simpa using h)
  show (if tcU v p then y else 0)+ld p (us++[u]) (ps++[x])=(if tcU v p then y else 0)+ld p us ps+_
  rw [ih]
  lia
noncomputable def okK (us:List (Nat×Nat)) (cs ps:List Int) (k:Nat):Bool:=!(decide (ps.getD k 0<0)||(!decide (((us.getD k (0,0)).1:Int)∈cs)&&!decide (((us.getD k (0,0)).2:Int)∈cs)))
theorem turn_2 {M:Nat}{us:List (Nat×Nat)}{ps cs:List Int}{B:List Bool}{L:List Int}{k:Nat} (hu:∀u∈us,u.1<u.2∧u.2<M) (hB:B.length=M) (hBc:∀p:Nat,p<M→B.getD p false=decide ((p:Int)∈cs)) (hL:L.length=M) (hp:ps.length=us.length) (hk:k<us.length) (s1 s2 s4 s6 s9 s10:Sl) :
  let t:Th:=[.val (.tup [.int (M:Int),.lst (us.map tD)]),s1,s2,.val (.lst (ps.map D.int)),s4,.own (B.map D.bl),s6,.own (L.map D.int),.val (.int (k:Int)),s9,s10]
  (okK us cs ps k=true∧∃(L':List Int) (u9 u10:Sl),bd2 t=some (.nx [.val (.tup [.int (M:Int),.lst (us.map tD)]),s1,s2,.val (.lst (ps.map D.int)),s4,.own (B.map D.bl),s6,.own (L'.map D.int),.val (.int (k:Int)),u9,u10])∧L'.length=M∧∀p,p<M→L'.getD p 0=L.getD p 0+if tcU (us.getD k (0,0)) p then ps.getD k 0 else 0) ∨
  (okK us cs ps k=false∧bd2 t=some (.rt (.cl (.bl false)))):=by
 intro t
 let u:=us.getD k (0,0)
 have eu:us[k]?=some u:=by
  show _=some (us.getD k (0,0))
  rw [zbl1,zbk4 hk]
  rfl
 obtain⟨h1,h2⟩:=hu u (zbn6 eu)
 let W:Sl:=.val (.tup [.int (M:Int),.lst (us.map tD)])
 let P:Sl:=.val (.lst (ps.map D.int))
 let Bs:Sl:=.own (B.map D.bl)
 let K8:Sl:=.val (.int (k:Int))
 let x1:Sl:=.val (.int (u.1:Int))
 let x2:Sl:=.val (.int (u.2:Int))
 let t1:Th:=[W,s1,s2,P,s4,Bs,s6,.own (L.map D.int),K8,x1,x2]
 have E1:zaf0 (zg1 2 (zb3 (za5 9) (zb3 (za5 10) zg5))) (d2 kIx (d2 kIx (dVar 0) (dC (.int 1))) (dVar 8)) t=some (.nx t1):=by
  unfold zaf0
  rw [ixT_of (fa:=d2 kIx (dVar 0) (dC (.int 1))) (fb:=dVar 8) (t:=t) (r1:=.cl (.lst (us.map tD))) (r2:=.cl (.int (k:Int))) (us:=us) (k:=k) (u:=u) rfl rfl rfl rfl eu]
  rfl
 have pk:∀s7,(d2 kIx (dVar 3) (dVar 8)) [W,s1,s2,P,s4,Bs,s6,s7,K8,x1,x2]=some (.cl (.int (ps.getD k 0))):=fun s7=>zm1 (r1:=.cl (.lst (ps.map D.int))) (r2:=.cl (.int (k:Int))) ps k rfl rfl (by lia) rfl rfl
 have b1:=zbd8 (fa:=dVar 5) (fb:=dVar 9) (t:=t1) (r1:=.tm (.lst (B.map D.bl))) (r2:=.cl (.int (u.1:Int))) B u.1 rfl rfl (by lia) rfl rfl
 have b2:=zbd8 (fa:=dVar 5) (fb:=dVar 10) (t:=t1) (r1:=.tm (.lst (B.map D.bl))) (r2:=.cl (.int (u.2:Int))) B u.2 rfl rfl (by lia) rfl rfl
 rw [hBc u.1 (by lia)]at b1
 rw [hBc u.2 h2]at b2
 have c:=zah6 (lt_of (pk (.own (L.map D.int))) (fb:=dC (.int 0)) (b:=0) rfl) (zo8 (zab4 (zag0 b1)) (zab4 (zag0 b2)))
 cases z:okK us cs ps k with
 |false =>
  have zb:(decide (ps.getD k 0<0)||(!decide ((u.1:Int)∈cs)&&!decide ((u.2:Int)∈cs)))=true:=by
   have z:(!(decide (ps.getD k 0<0)||(!decide ((u.1:Int)∈cs)&&!decide ((u.2:Int)∈cs))))=false:=z
   cases q:(decide (ps.getD k 0<0)||(!decide ((u.1:Int)∈cs)&&!decide ((u.2:Int)∈cs))) with
   |true=>rfl
   |false=>rw [q]at z;cases z
  exact .inr ⟨rfl,(za8 E1).trans (seq_rt (zae5 c zb))⟩
 |true =>
  have zb:(decide (ps.getD k 0<0)||(!decide ((u.1:Int)∈cs)&&!decide ((u.2:Int)∈cs)))=false:=by
   have z:(!(decide (ps.getD k 0<0)||(!decide ((u.1:Int)∈cs)&&!decide ((u.2:Int)∈cs))))=true:=z
   cases q:(decide (ps.getD k 0<0)||(!decide ((u.1:Int)∈cs)&&!decide ((u.2:Int)∈cs))) with
   |false=>rfl
   |true=>rw [q]at z;cases z
  have E2:=grd (g:=dRet (dC (.bl false))) c zb
  let x:=ps.getD k 0
  have E3:=zu5 (t:=t1) (fk:=dVar 9) (i:=7) (L:=L) (b:=u.1) (zg7 (zm1 (fa:=dVar 7) (fb:=dVar 9) (t:=t1) (r1:=.tm (.lst (L.map D.int))) (r2:=.cl (.int (u.1:Int))) L u.1 rfl rfl (by lia) rfl rfl) (pk (.own (L.map D.int)))) rfl rfl (by lia)
  let L1:=L.set u.1 (L.getD u.1 0+x)
  let t2:Th:=[W,s1,s2,P,s4,Bs,s6,.own (L1.map D.int),K8,x1,x2]
  have l1:L1.length=M:=by simp [L1,hL]
  have E4:=zu5 (t:=t2) (fk:=dVar 10) (i:=7) (L:=L1) (b:=u.2) (zg7 (zm1 (fa:=dVar 7) (fb:=dVar 10) (t:=t2) (r1:=.tm (.lst (L1.map D.int))) (r2:=.cl (.int (u.2:Int))) L1 u.2 rfl rfl (by lia) rfl rfl) (pk (.own (L1.map D.int)))) rfl rfl (by lia)
  refine .inl ⟨rfl,L1.set u.2 (L1.getD u.2 0+x),x1,x2,(za8 E1).trans ((za8 E2).trans ((za8 E3).trans E4)),by simp [l1],fun p hp=>?_⟩
  rw [zq2 L1 u.2 p _ (by lia)]
  show (if p=u.2 then (L.set u.1 (L.getD u.1 0+x)).getD u.2 0+x else (L.set u.1 (L.getD u.1 0+x)).getD p 0)=_
  rw [zq2 L u.1 u.2 _ (by lia),zq2 L u.1 p _ (by lia),if_neg (by lia : ¬ u.2=u.1)]
  show _=L.getD p 0+if (decide (u.1=p)||decide (u.2=p)) then x else 0
  by_cases q2:u.2=p
  ·subst q2
   rw [if_pos rfl,decide_eq_true rfl,zbp3,if_pos rfl]
  ·rw [if_neg (fun h=>q2 h.symm),decide_eq_false q2,zca6]
   by_cases q1:u.1=p
   ·subst q1
    rw [if_pos rfl,decide_eq_true rfl,if_pos rfl]
   ·rw [if_neg (fun h=>q1 h.symm),decide_eq_false q1]
    simp
theorem all_ok {us:List (Nat×Nat)}{cs ps:List Int} (hp:ps.length=us.length):(zbo3 us.length).all (okK us cs ps)=(!(ps.any fun x=>decide (x<0))&&cvB us cs):=by
 rw [zbq6,zbq0,zbk7]
 unfold cvB
 rw [zbq0,zbv8,zcc8]
 constructor
 ·intro h
  refine⟨fun x hx=>?_,fun u hu=>?_⟩
  ·obtain⟨k,hk,rfl⟩:=zcc2 hx
   have:=h k (zbq9.mpr (by lia))
   unfold okK at this
   rw [show ps.getD k 0=ps[k] by rw [zbl1,zbk4 hk];rfl]at this
   intro q
   rw [q]at this
   simp at this
  ·obtain⟨k,hk,rfl⟩:=zcc2 hu
   have:=h k (zbq9.mpr hk)
   unfold okK at this
   rw [show us.getD k (0,0)=us[k] by rw [zbl1,zbk4 hk];rfl]at this
   cases q1:decide ((us[k].1:Int)∈cs)
   ·cases q2:decide ((us[k].2:Int)∈cs)
    ·rw [q1,q2]at this;simp at this
    ·rfl
   ·rfl
 ·rintro ⟨h1,h2⟩ k hk
  have hk:=zbq9.mp hk
  have a1:=h1 (ps[k]'(by lia)) (zbn8 _)
  have a2:=h2 us[k] (zbn8 hk)
  unfold okK
  rw [show ps.getD k 0=ps[k]'(by lia) by rw [zbl1,zbk4 (by lia)];rfl,show us.getD k (0,0)=us[k] by rw [zbl1,zbk4 hk];rfl]
  have a1:decide (ps[k]'(by lia)<0)=false:=by simpa using a1
  rw [a1]
  cases q1:decide ((us[k].1:Int)∈cs)
  ·rw [q1]at a2
   cases q2:decide ((us[k].2:Int)∈cs)
   ·rw [q2]at a2;cases a2
   ·rfl
  ·rfl
theorem rep_getB (M p:Nat):(zbl4 M false).getD p false=false:=by
 rw [zbl1]
 by_cases h:p<M<;>simp [h]
theorem rep_getI (M p:Nat):(zbl4 M (0:Int)).getD p 0=0:=by
 rw [zbl1]
 by_cases h:p<M<;>simp [h]
theorem llets_is {M:Nat}{us:List (Nat×Nat)}{ws cs ps:List Int} (hM:M≤900) (hw:ws.length=M) (cl:cs.length≤1000) (hl:ps.length≤1000) (ul:us.length≤400) (hb:bdP ps) (hu:∀u∈us,u.1<u.2∧u.2<M):zj6 [.tup [.int (M:Int),.lst (us.map tD)],.lst (ws.map D.int),.lst (cs.map D.int),.lst (ps.map D.int)]=some (.cl (.bl (lcB M us ws cs ps))):=by
 let WD:D:=.tup [.int (M:Int),.lst (us.map tD)]
 let W:Sl:=.val WD
 let S1:Sl:=.val (.lst (ws.map D.int))
 let S2:Sl:=.val (.lst (cs.map D.int))
 let S3:Sl:=.val (.lst (ps.map D.int))
 let t0:Th:=[W,S1,S2,S3,.no,.no,.no,.no,.no,.no,.no]
 have E1:=ze1 (i:=4) (t:=t0) (neg_of (f:=dC (.int 1)) (a:=1) rfl) (by simp [t0])
 let t1:Th:=[W,S1,S2,S3,.val (.int (-1)),.no,.no,.no,.no,.no,.no]
 have E2:=zu3 (i:=5) (t:=t1) (zba2 (fa:=dT1 kLst (za2 (dC (.bl false)) dNil)) (fb:=d2 kIx (dVar 0) (dC (.int 0))) (x:=false) (m:=M) rfl rfl hM) (by simp [t1])
 let t2:Th:=[W,S1,S2,S3,.val (.int (-1)),.own ((zbl4 M false).map D.bl),.no,.no,.no,.no,.no]
 have F3:dFor (za5 6) (dVar 2) bd1 t2=forD (za5 6) bd1 (cs.map D.int) t2:=zas5 (r:=.cl (.lst (cs.map D.int))) rfl rfl rfl
 show (dSeq _ (dSeq _ (dSeq (dFor _ _ bd1) (dSeq _ (dSeq _ (dSeq (zz3 _ _ bd2) (dSeq bd3 _)))))) t0).bind zj2=_
 unfold lcB
 rcases loop_1 (M:=M) (UD:=.lst (us.map tD)) S1 S2 S3 .no .no .no .no cs (-1) (zbl4 M false) .no (by simp) (by decide) (by lia) with ⟨i1,B,u4,u6,i2,i3,i4⟩ | ⟨i1,i2⟩
 case inr =>
  rw [i1]
  exact bnd ((za8 E1).trans ((za8 E2).trans (seq_rt (F3.trans i2))))
 have hBc:∀p:Nat,p<M→B.getD p false=decide ((p:Int)∈cs):=fun p hp=>by rw [i4 p hp,rep_getB,zca1]
 have E3:=F3.trans i2
 let Bs:Sl:=.own (B.map D.bl)
 let t3:Th:=[W,S1,S2,S3,u4,Bs,u6,.no,.no,.no,.no]
 have c4:=neI_of (zai8 (f:=dVar 3) (t:=t3) (r:=.cl (.lst (ps.map D.int))) (xs:=ps) rfl rfl) (zan8 (f:=d2 kIx (dVar 0) (dC (.int 1))) (t:=t3) (r:=.cl (.lst (us.map tD))) (us:=us) rfl rfl)
 rw [i1,zbu4]
 unfold pyB
 by_cases z1:ps.length=us.length
 case neg =>
  rw [decide_eq_false z1,zby2,zby2,Bool.and_false]
  rw [decide_eq_false (by lia : ¬ (ps.length:Int)=(us.length:Int))]at c4
  exact bnd ((za8 E1).trans ((za8 E2).trans ((za8 E3).trans (seq_rt (zae5 c4 rfl)))))
 rw [decide_eq_true z1,zbu4]
 rw [decide_eq_true (by lia:(ps.length:Int)=(us.length:Int))]at c4
 have E4:=grd (g:=dRet (dC (.bl false))) c4 rfl
 have E5:=zu3 (i:=7) (t:=t3) (repn_of (fa:=dT1 kLst (za2 (dC (.int 0)) dNil)) (fb:=d2 kIx (dVar 0) (dC (.int 0))) (x:=0) (m:=M) rfl rfl hM) (by simp [t3])
 let t4:Th:=[W,S1,S2,S3,u4,Bs,u6,.own ((zbl4 M (0:Int)).map D.int),.no,.no,.no]
 have F6:=zu7 (k0:=za5 8) (b:=bd2) (n:=us.length) (t:=t4) (f:=dT1 kLen (za2 (dVar 3) dNil)) (r:=.cl (.int (us.length:Int))) (by rw [← z1];exact zai8 (f:=dVar 3) (t:=t4) (r:=.cl (.lst (ps.map D.int))) (xs:=ps) rfl rfl) rfl (by lia)
 rw [show (zd1 us.length).map D.int=(zby1 0 us.length).map fun (j:Nat)=>D.int (j:Int) by rw [← zbw9];unfold zd1;simp]at F6
 have fb:=for_BI (k:=za5 8) (b:=bd2) (f:=fun j=>D.int (j:Int)) (n:=us.length) (p:=okK us cs ps) (P:=fun k t => ∃(L:List Int) (u8 u9 u10:Sl),L.length=M∧(∀p,p<M→L.getD p 0=ld p (us.take k) (ps.take k))∧t=[W,S1,S2,S3,u4,Bs,u6,.own (L.map D.int),u8,u9,u10]) (fun k hk t ⟨L,u8,u9,u10,l1,l2,et⟩=>by
  subst et
  refine⟨_,rfl,?_⟩
  rcases turn_2 (M:=M) (us:=us) (ps:=ps) (cs:=cs) (B:=B) (L:=L) (k:=k) hu i3 hBc l1 z1 hk S1 S2 u4 u6 u9 u10 with ⟨a1,L',v9,v10,a2,a3,a4⟩ | ⟨a1,a2⟩
  ·refine .inl ⟨a1,_,a2,L',_,v9,v10,a3,fun p hp=>?_,rfl⟩
   rw [a4 p hp,l2 p hp]
   have k2:k<ps.length:=by lia
   rw [zbv4 hk,zbv4 k2,zbd3 p _ _ _ _ (by rw [zbr9,zbr9];lia)]
   rw [show us.getD k (0,0)=us[k] by rw [zbl1,zbk4 hk];rfl,show ps.getD k 0=ps[k] by rw [zbl1,zbk4 k2];rfl]
  ·exact .inr ⟨a1,a2⟩) us.length 0 t4 (zby7 _) ⟨_,_,_,_,by simp,fun p _=>by rw [rep_getI];rfl,rfl⟩
 rw [← zbw9]at fb F6
 rw [all_ok z1]at fb
 have comm:∀a b c d:Bool,(a&&(b&&c&&d))=((b&&a)&&(c&&d)):=by decide
 rw [comm]
 rcases fb with ⟨j1,t5,j2,L,u8,u9,u10,l1,l2,rfl⟩ | ⟨j1,j2⟩
 case inr =>
  rw [j1,zby2]
  exact bnd ((za8 E1).trans ((za8 E2).trans ((za8 E3).trans ((za8 E4).trans ((za8 E5).trans (seq_rt (F6.trans j2)))))))
 rw [j1,zbu4]
 rw [zce7, ← z1,zce7]at l2
 have E6:=F6.trans j2
 let t5:Th:=[W,S1,S2,S3,u4,Bs,u6,.own (L.map D.int),u8,u9,u10]
 let F:=(zd1 M).filter fun x=>decide (ws.getD x.toNat 0<ld x.toNat us ps)
 have c7:=zaj9 (cap:=[7,1]) (f:=d2 kIx (dVar 0) (dC (.int 0))) (t:=t5) (n:=M) (ft:=(dBo (d2 qG (d2 kIx (dVar 1) (dVar 0)) (d2 kIx (dVar 2) (dVar 0))))) (p:=fun x=>decide (ws.getD x.toNat 0<ld x.toNat us ps)) (b:=false) (c:=[.lst (L.map D.int),.lst (ws.map D.int)]) rfl (by lia) rfl (fun x hx=>by
  have hx:=zt1 hx
  have k1:=zr3 (fa:=dVar 1) (fb:=dVar 0) (t:=[.val (.int x),.val (.lst (L.map D.int)),.val (.lst (ws.map D.int))]) (r1:=.cl (.lst (L.map D.int))) (r2:=.cl (.int x)) L x rfl rfl (by lia) (by lia) rfl rfl
  have k2:=zr3 (fa:=dVar 2) (fb:=dVar 0) (t:=[.val (.int x),.val (.lst (L.map D.int)),.val (.lst (ws.map D.int))]) (r1:=.cl (.lst (ws.map D.int))) (r2:=.cl (.int x)) ws x rfl rfl (by lia) (by lia) rfl rfl
  rw [l2 x.toNat (by lia)]at k1
  exact gt_of k1 k2)
 have c8:=ne_nilI c7 rfl
 have fa:((zd1 M).all fun x=>decide (ld x.toNat us ps≤ws.getD x.toNat 0))=F.isEmpty:=by
  rw [zbq6,zbq0,zce4,List.filter_eq_nil_iff]
  constructor
  ·intro h x hx
   have:=h x hx
   simp only [decide_eq_true_eq]at this ⊢
   lia
  ·intro h x hx
   have:=h x hx
   simp only [decide_eq_true_eq]at this ⊢
   lia
 rw [fa]
 have c8:_=some (!F.isEmpty):=c8
 cases zF:F.isEmpty with
 |false =>
  rw [zF]at c8
  have E7:bd3 t5=some (.rt (.cl (.bl false))):=zae5 c8 rfl
  exact bnd ((za8 E1).trans ((za8 E2).trans ((za8 E3).trans ((za8 E4).trans ((za8 E5).trans ((za8 E6).trans (seq_rt E7)))))))
 |true =>
  rw [zF]at c8
  have E7:bd3 t5=some (.nx t5):=grd c8 rfl
  obtain⟨_,lt⟩:=rs_lt cs (-1) i1
  have c9:=zaq1 (zaf2 (cap:=[1]) (f:=dVar 2) (t:=t5) (fe:=d2 kIx (dVar 1) (dVar 0)) (r:=.cl (.lst (cs.map D.int))) (xs:=cs) (g:=fun p=>ws.getD p.toNat 0) (b:=true) (c:=[.lst (ws.map D.int)]) rfl rfl (by lia) rfl (fun x hx=>by
    have:=lt x hx
    exact zr3 (r1:=.cl (.lst (ws.map D.int))) (r2:=.cl (.int x)) ws x rfl rfl (by lia) (by lia) rfl rfl)) rfl
  have c10:=zay2 hl hb (f:=dVar 3) (t:=t5) (r:=.cl (.lst (ps.map D.int))) rfl rfl
  exact bnd ((za8 E1).trans ((za8 E2).trans ((za8 E3).trans ((za8 E4).trans ((za8 E5).trans ((za8 E6).trans ((za8 E7).trans (zn6 ((zg2 c9 c10).trans rfl)))))))))
theorem turn_R {s0 s1 s6 s7:Sl}{L P:List Int}{u:Nat×Nat} (h1:u.1<L.length) (h2:u.2<L.length) (hP:P.length<100000):∃v6,bdR [s0,s1,.own (L.map D.int),.own (P.map D.int),.val (.int (u.1:Int)),.val (.int (u.2:Int)),s6,s7]=some (.nx [s0,s1,.own ((lfC L u).map D.int),.own ((P++[prC L u]).map D.int),.val (.int (u.1:Int)),.val (.int (u.2:Int)),v6,s7]):=by
 let p:=prC L u
 let a:Sl:=.val (.int (u.1:Int))
 let b:Sl:=.val (.int (u.2:Int))
 let t:Th:=[s0,s1,.own (L.map D.int),.own (P.map D.int),a,b,s6,s7]
 have i1:=zm1 (fa:=dVar 2) (fb:=dVar 4) (t:=t) (r1:=.tm (.lst (L.map D.int))) (r2:=.cl (.int (u.1:Int))) L u.1 rfl rfl h1 rfl rfl
 have E1:=ze1 (i:=6) i1 (by simp [t])
 let t1:Th:=[s0,s1,.own (L.map D.int),.own (P.map D.int),a,b,.val (.int (L.getD u.1 0)),s7]
 have i2:=zm1 (fa:=dVar 2) (fb:=dVar 5) (t:=t1) (r1:=.tm (.lst (L.map D.int))) (r2:=.cl (.int (u.2:Int))) L u.2 rfl rfl h2 rfl rfl
 have cnd:=lt_of i2 (rfl:dVar 6 t1=some (.cl (.int (L.getD u.1 0))))
 let t2:Th:=[s0,s1,.own (L.map D.int),.own (P.map D.int),a,b,.val (.int p),s7]
 have E2:(dIfS (dBo (d2 qL (d2 kIx (dVar 2) (dVar 5)) (dVar 6))) (dAsg 6 (d2 kIx (dVar 2) (dVar 5))) zk6) t1=some (.nx t2):=by
  by_cases z:L.getD u.2 0<L.getD u.1 0
  ·have ep:p=L.getD u.2 0:=if_pos z
   have:=(zaj4 (g1:=(dAsg 6 (d2 kIx (dVar 2) (dVar 5)))) (g2:=zk6) cnd (decide_eq_true z)).trans (ze1 (i:=6) i2 (by simp [t1]))
   rw [this]
   simp only [t2,ep]
   rfl
  ·have ep:p=L.getD u.1 0:=if_neg z
   have:=grd (g:=(dAsg 6 (d2 kIx (dVar 2) (dVar 5)))) cnd (decide_eq_false z)
   rw [this]
   simp only [t2,ep]
   rfl
 have E3:=zz8 (i:=3) t2 (f:=dVar 6) (xs:=P) (p:=p) rfl rfl hP
 let t3:Th:=[s0,s1,.own (L.map D.int),.own ((P++[p]).map D.int),a,b,.val (.int p),s7]
 have j1:=zm1 (fa:=dVar 2) (fb:=dVar 4) (t:=t3) (r1:=.tm (.lst (L.map D.int))) (r2:=.cl (.int (u.1:Int))) L u.1 rfl rfl h1 rfl rfl
 have E4:=zu5 (i:=2) (fk:=dVar 4) (t:=t3) (L:=L) (b:=u.1) (zag3 j1 (rfl:dVar 6 t3=some (.cl (.int p)))) rfl rfl h1
 let L1:=L.set u.1 (L.getD u.1 0 - p)
 let t4:Th:=[s0,s1,.own (L1.map D.int),.own ((P++[p]).map D.int),a,b,.val (.int p),s7]
 have h3:u.2<L1.length:=by simpa [L1] using h2
 have j2:=zm1 (fa:=dVar 2) (fb:=dVar 5) (t:=t4) (r1:=.tm (.lst (L1.map D.int))) (r2:=.cl (.int (u.2:Int))) L1 u.2 rfl rfl h3 rfl rfl
 have E5:=zu5 (i:=2) (fk:=dVar 5) (t:=t4) (L:=L1) (b:=u.2) (zag3 j2 (rfl:dVar 6 t4=some (.cl (.int p)))) rfl rfl h3
 exact⟨.val (.int p),(za8 E1).trans ((za8 E2).trans ((za8 E3).trans ((za8 E4).trans E5)))⟩
theorem loop_R {s0 s1 s7:Sl}{M:Nat}:∀(us:List (Nat×Nat)) (s:List Int×List Int) (s4 s5 s6:Sl),s.1.length=M→(∀u∈us,u.1<u.2∧u.2<M)→s.2.length+us.length<100000 →
  ∃v4 v5 v6,forD (zg1 2 (zb3 (za5 4) (zb3 (za5 5) zg5))) bdR (us.map tD) [s0,s1,.own (s.1.map D.int),.own (s.2.map D.int),s4,s5,s6,s7]=some (.nx [s0,s1,.own ((us.foldl stC s).1.map D.int),.own ((us.foldl stC s).2.map D.int),v4,v5,v6,s7])
 |[],s,s4,s5,s6,_,_,_=>⟨s4,s5,s6,rfl⟩
 |u::us,s,s4,s5,s6,hL,hu,hP=>by
  simp only [zbo6]at hP
  have hu0:=hu u (zbk2 ..)
  obtain⟨v6,e⟩:=turn_R (s0:=s0) (s1:=s1) (s6:=s6) (s7:=s7) (L:=s.1) (P:=s.2) (u:=u) (by lia) (by lia) (by lia)
  obtain⟨w4,w5,w6,ih⟩:=loop_R (s0:=s0) (s1:=s1) (s7:=s7) us (stC s u) (.val (.int (u.1:Int))) (.val (.int (u.2:Int))) v6 ((zan7 _ _).trans hL) (fun v hv=>hu v (zbj9 _ hv)) (by unfold stC;simp only [zbo5,zbw0];lia)
  refine⟨w4,w5,w6,?_⟩
  have e0:(zg1 2 (zb3 (za5 4) (zb3 (za5 5) zg5))) (tD u) [s0,s1,.own (s.1.map D.int),.own (s.2.map D.int),s4,s5,s6,s7]=some [s0,s1,.own (s.1.map D.int),.own (s.2.map D.int),.val (.int (u.1:Int)),.val (.int (u.2:Int)),s6,s7]:=rfl
  simp only [zbl8,forD,e0,zbk3,e]
  exact ih
noncomputable def stB (B:List Bool) (u:Nat×Nat):List Bool:=(B.set u.1 true).set u.2 true
theorem zaz1 (B:List Bool) (u:Nat×Nat):(stB B u).length=B.length:=by unfold stB;simp
theorem zaj6:∀(us:List (Nat×Nat)) (B:List Bool),(us.foldl stB B).length=B.length
 |[],B=>rfl
 |u::us,B=>(zaj6 us (stB B u)).trans (zaz1 B u)
theorem loop_S {s0 s1 s2 s3 s6:Sl}{M:Nat}:∀(us:List (Nat×Nat)) (B:List Bool) (s4 s5:Sl),B.length=M→(∀u∈us,u.1<u.2∧u.2<M) →
  ∃v4 v5,forD (zg1 2 (zb3 (za5 4) (zb3 (za5 5) zg5))) bdS (us.map tD) [s0,s1,s2,s3,s4,s5,s6,.own (B.map D.bl)]=some (.nx [s0,s1,s2,s3,v4,v5,s6,.own ((us.foldl stB B).map D.bl)])
 |[],B,s4,s5,_,_=>⟨s4,s5,rfl⟩
 |u::us,B,s4,s5,hB,hu=>by
  have hu0:=hu u (zbk2 ..)
  let a:Sl:=.val (.int (u.1:Int))
  let b:Sl:=.val (.int (u.2:Int))
  have E1:=zal2 (i:=7) (fk:=dVar 4) (t:=[s0,s1,s2,s3,a,b,s6,.own (B.map D.bl)]) (B:=B) (b:=u.1) (v:=true) rfl rfl (by lia)
  have E2:=zal2 (i:=7) (fk:=dVar 5) (t:=[s0,s1,s2,s3,a,b,s6,.own ((B.set u.1 true).map D.bl)]) (B:=B.set u.1 true) (b:=u.2) (v:=true) rfl rfl (by rw [zbv5];lia)
  obtain⟨w4,w5,ih⟩:=loop_S (s0:=s0) (s1:=s1) (s2:=s2) (s3:=s3) (s6:=s6) us (stB B u) a b ((zaz1 _ _).trans hB) (fun v hv=>hu v (zbj9 _ hv))
  refine⟨w4,w5,?_⟩
  have e0:(zg1 2 (zb3 (za5 4) (zb3 (za5 5) zg5))) (tD u) [s0,s1,s2,s3,s4,s5,s6,.own (B.map D.bl)]=some [s0,s1,s2,s3,a,b,s6,.own (B.map D.bl)]:=rfl
  have e:bdS [s0,s1,s2,s3,a,b,s6,.own (B.map D.bl)]=some (.nx [s0,s1,s2,s3,a,b,s6,.own ((stB B u).map D.bl)]):=(za8 E1).trans E2
  simp only [zbl8,forD,e0,zbk3,e]
  exact ih
theorem zas6 {M:Nat}:∀(us:List (Nat×Nat)) (s:List Int×List Int),s.1.length=M→(us.foldl stC s).1.length=M
 |[],s,h=>h
 |u::us,s,h=>zas6 us (stC s u) ((zan7 _ _).trans h)
theorem zbf1:∀(us:List (Nat×Nat)) (s:List Int×List Int),(us.foldl stC s).2.length=s.2.length+us.length
 |[],s=>rfl
 |u::us,s=>by rw [zbt7,zbf1 us,zbo6];unfold stC;simp;lia
noncomputable def wB (L:List Int):Prop := ∀j,0≤L.getD j 0∧L.getD j 0≤1000000000000
theorem stC_bd {M:Nat}:∀(us:List (Nat×Nat)) (s:List Int×List Int),s.1.length=M→(∀u∈us,u.1<u.2∧u.2<M)→wB s.1→(∀x∈s.2,0≤x∧x≤1000000000000)→∀x∈(us.foldl stC s).2,0≤x∧x≤1000000000000
 |[],s,_,_,_,h=>h
 |u::us,s,hl,hu,hw,h=>by
  obtain⟨u1,u2⟩:=hu u (zbk2 ..)
  have pc:=prC_le s.1 u
  have p0:=prC_nn (L:=s.1) (fun j=>(hw j).1) u
  refine stC_bd us (stC s u) ((zan7 _ _).trans hl) (fun v hv=>hu v (zbj9 _ hv)) (fun j=>?_) (fun x hx=>?_)
  ·show 0≤(lfC s.1 u).getD j 0∧(lfC s.1 u).getD j 0≤1000000000000
   have:=lfC_nn (L:=s.1) (u:=u) (fun j=>(hw j).1) u1 (by lia) j
   rw [zbd2 u1 (by lia)]at this ⊢
   have:=hw j
   split<;>simp_all<;>lia
  ·have hx:x∈s.2++[prC s.1 u]:=hx
   rcases zbk1.mp hx with z | z
   ·exact h x z
   ·rw [zbm2.mp z]
    have:=hw u.1
    lia
theorem rule_is {M:Nat}{us:List (Nat×Nat)}{ws:List Int} (hM:M≤900) (hw:ws.length=M) (hw2:∀x∈ws,0≤x∧x≤1000000000000) (hl:us.length≤400) (hu:∀u∈us,u.1<u.2∧u.2<M):∃c p:List Int,c.length≤M∧p.length=us.length∧(∀x∈c,0≤x∧x<(M:Int))∧(∀x∈p,0≤x∧x≤1000000000000)∧zm6 [.tup [.int (M:Int),.lst (us.map tD)],.lst (ws.map D.int)]=some (.tm (.tup [.lst (c.map D.int),.lst (p.map D.int)])):=by
 let W:Sl:=.val (.tup [.int (M:Int),.lst (us.map tD)])
 let S1:Sl:=.val (.lst (ws.map D.int))
 have E1:=zu3 (i:=2) (t:=[W,S1,.no,.no,.no,.no,.no,.no]) (zv1 (f:=dVar 1) (r:=.cl (.lst (ws.map D.int))) (xs:=ws) rfl rfl) (by simp)
 have E3:=zas5 (k:=(zg1 2 (zb3 (za5 4) (zb3 (za5 5) zg5)))) (b:=bdR) (f:=d2 kIx (dVar 0) (dC (.int 1))) (t:=[W,S1,.own (ws.map D.int),.own (([]:List Int).map D.int),.no,.no,.no,.no]) (r:=.cl (.lst (us.map tD))) (ds:=us.map tD) rfl rfl rfl
 obtain⟨v4,v5,v6,E4⟩:=loop_R (s0:=W) (s1:=S1) (s7:=.no) (M:=M) us (ws,[]) .no .no .no hw hu (by simp;lia)
 have fl:=zas6 us (ws,[]) hw
 let L:=(us.foldl stC (ws,[])).1
 let P:=(us.foldl stC (ws,[])).2
 have E5:=zu3 (i:=7) (t:=[W,S1,.own (L.map D.int),.own (P.map D.int),v4,v5,v6,.no]) (zba2 (fa:=dT1 kLst (za2 (dC (.bl false)) dNil)) (fb:=d2 kIx (dVar 0) (dC (.int 0))) (x:=false) (m:=M) rfl rfl hM) (by simp)
 have E6:=zas5 (k:=(zg1 2 (zb3 (za5 4) (zb3 (za5 5) zg5)))) (b:=bdS) (f:=d2 kIx (dVar 0) (dC (.int 1))) (t:=[W,S1,.own (L.map D.int),.own (P.map D.int),v4,v5,v6,.own ((zbl4 M false).map D.bl)]) (r:=.cl (.lst (us.map tD))) (ds:=us.map tD) rfl rfl rfl
 obtain⟨w4,w5,E7⟩:=loop_S (s0:=W) (s1:=S1) (s2:=.own (L.map D.int)) (s3:=.own (P.map D.int)) (s6:=v6) (M:=M) us (zbl4 M false) v4 v5 (by simp) hu
 let B:=us.foldl stB (zbl4 M false)
 have lB:B.length=M:=(zaj6 _ _).trans (by simp)
 let t7:Th:=[W,S1,.own (L.map D.int),.own (P.map D.int),w4,w5,v6,.own (B.map D.bl)]
 have ec:=zaj9 (cap:=[7,2]) (f:=d2 kIx (dVar 0) (dC (.int 0))) (ft:=ftR) (t:=t7) (n:=M) (p:=fun x=>B.getD x.toNat false&&decide (L.getD x.toNat 0=0)) (b:=false) (c:=[.lst (B.map D.bl),.lst (L.map D.int)]) rfl (by lia) rfl (fun x hx=>by
  obtain⟨k,rfl,hk⟩:∃k:Nat,x=(k:Int)∧k<M:=by
   unfold zd1 at hx
   obtain⟨k,hk,rfl⟩:=zbq1.mp hx
   exact⟨k,rfl,zbq9.mp hk⟩
  let tt:Th:=[.val (.int (k:Int)),.val (.lst (B.map D.bl)),.val (.lst (L.map D.int))]
  have i1:=zm1 (fa:=dVar 2) (fb:=dVar 0) (t:=tt) (r1:=.cl (.lst (L.map D.int))) (r2:=.cl (.int (k:Int))) L k rfl rfl (by have q:L.length=M:=fl;lia) rfl rfl
  have i2:=zbd8 (fa:=dVar 1) (fb:=dVar 0) (t:=tt) (r1:=.cl (.lst (B.map D.bl))) (r2:=.cl (.int (k:Int))) B k rfl rfl (by lia) rfl rfl
  show ftR tt=_
  rw [zbn9]
  exact zo8 (zag0 i2) (zaj7 i1 (rfl:dC (.int 0) tt=some (.cl (.int 0)))))
 let c:=(zd1 M).filter fun x=>B.getD x.toNat false&&decide (L.getD x.toNat 0=0)
 refine⟨c,P,?_,(zbf1 us (ws,[])).trans (by simp),fun x hx=>zt1 (zcb1.mp hx).1,stC_bd us (ws,[]) hw hu (fun j=>?_) (fun x hx=>nomatch hx),?_⟩
 ·have:=List.length_filter_le (fun x=>B.getD x.toNat false&&decide (L.getD x.toNat 0=0)) (zd1 M)
  rw [zm0]at this
  exact this
 ·show 0≤ws.getD j 0∧ws.getD j 0≤1000000000000
  rw [zbl1]
  by_cases h:j<ws.length
  ·rw [zbk4 h];exact hw2 _ (zbn8 h)
  ·rw [zbr8 (by lia)];exact⟨zbr5 _,by decide⟩
 ·show (dSeq _ (dSeq _ (dSeq (dFor _ _ bdR) (dSeq _ (dSeq (dFor _ _ bdS) (dRet (dT1 kTup (za2 (ze6 1 [7,2] (fsR1 (d2 kIx (dVar 0) (dC (.int 0)))) (za5 0) ftR (dVar 0)) (za2 (dVar 3) dNil)))))))) [W,S1,.no,.no,.no,.no,.no,.no]).bind zj2=_
  have er:(dT1 kTup (za2 (ze6 1 [7,2] (fsR1 (d2 kIx (dVar 0) (dC (.int 0)))) (za5 0) ftR (dVar 0)) (za2 (dVar 3) dNil))) t7=some (.tm (.tup [.lst (c.map D.int),.lst (P.map D.int)])):=(zl8 ec (rfl:dVar 3 t7=some (.tm (.lst (P.map D.int))))).trans rfl
  exact bnd ((za8 E1).trans ((za8 (t':=[W,S1,.own (ws.map D.int),.own (([]:List Int).map D.int),.no,.no,.no,.no]) rfl).trans ((za8 (E3.trans E4)).trans ((za8 E5).trans ((za8 (E6.trans E7)).trans (zn6 er))))))
theorem ins_of {t:Th}{fk fn:DE}{i k:Nat}{n:Int}{L:List Int} (h1:fk t=some (.cl (.int (k:Int)))) (h2:fn t=some (.cl (.int n))) (hi:t[i]?=some (.own (L.map D.int))) (hk:k≤L.length) (hl:L.length≤50000):dIns i (za2 fk (za2 fn dNil)) t=some (.nx (t.set i (.own ((insN L k n).map D.int)))):=by
 unfold dIns
 rw [show (za2 fk (za2 fn dNil)) t=some [.cl (.int (k:Int)),.cl (.int n)] by simp [za2,dNil,h1,h2]]
 show kIns t i [.cl (.int (k:Int)),.cl (.int n)]=_
 unfold kIns
 simp only [hi,Ev.d,zm2,zbk3]
 rw [if_pos ⟨by lia,by lia,hl⟩,zbn9]
theorem map_er (L:List Int):∀k:Nat,(L.map D.int).eraseIdx k=(L.eraseIdx k).map D.int:=by
 induction L with
 |nil=>intro k;simp
 |cons a L ih=>intro k;cases k with
  |zero=>rfl
  |succ k=>simp [ih k]
theorem popE_of {t:Th}{f:DE}{i:Nat}{K:List Int}{j:Nat} (hf:f t=some (.cl (.int (j:Int)))) (hi:t[i]?=some (.own (K.map D.int))) (hj:j<K.length) (hk:K.length≤1000):zbg3 i f t=some (.nx (t.set i (.own ((K.eraseIdx j).map D.int)))):=by
 unfold zbg3
 rw [hf,zbk3]
 unfold kPopE
 rw [hi]
 show (if decide (-1000000≤(j:Int)∧(j:Int)≤1000000)=true then (ixN (K.map D.int).length (j:Int)).bind fun q=>((K.map D.int)[q]?).map fun _=>Out.nx (t.set i (.own ((K.map D.int).eraseIdx q))) else none)=_
 rw [if_pos (decide_eq_true (by lia)),zy1 _ j (by rw [zbm6];exact hj),zbk3,get_map K j hj,zbp8,map_er]
theorem seqN {g1 g2:DS}{t t':Th} (h:g1 t=some (.nx t')):zw3 g1 g2 t=g2 t':=by
 unfold zw3
 rw [h]
noncomputable def bE (ds:List D) (k:Nat):DS:=zbg4 3 6 ds k (dRet (dT1 kTup (za2 (d2 kIx (dVar 3) (dC (.int 0))) (za2 (d2 kIx (dVar 3) (dC (.int 1))) dNil))))
noncomputable def gB (ds:List D) (k:Nat):DS:=zw3 b7 (zw3 b8 (zw3 b3 (zw3 b4 (bE ds k))))
theorem zbi8:zm4=(dSeq (dAsg 3 (zax2 (zae1 (nOf (dT1 zn4 (za2 (d2 kIx (dVar 0) (dC (.int 0))) dNil))) (zae1 (nOf (dT1 zn4 (za2 (d2 kIx (dVar 0) (dC (.int 1))) dNil))) nNil))))
  (dSeq (dAsg 4 (d2 qR (dVar 2) (dC (.int 13))))
  (dSeq (dAsg 5 (dT1 zao0 (za2 (d2 qG (dVar 4) (dC (.int 6))) dNil)))
  (zao3 3 6 (dVar 5) gB)))):=rfl
noncomputable def nB (m:Int) (xs:List Int):Prop := ∀x∈xs, -m≤x∧x≤m
theorem nB_ins {m v:Int}{xs:List Int} (h:nB m xs) (hv : -m≤v∧v≤m) (k:Nat):nB m (insN xs k v):=fun x hx=>by
 unfold insN at hx
 rcases zbk1.mp hx with z | z
 ·exact h x (zbo9 z)
 ·rcases zbk5.mp z with z | z
  ·rw [z];exact hv
  ·exact h x (zbn7 z)
theorem zbc7 {m v:Int}{xs:List Int} (h:nB m xs) (hv : -m≤v∧v≤m) (k:Nat):nB m (xs.set k v):=fun x hx=>by
 rcases List.mem_or_eq_of_mem_set hx with z | z
 ·exact h x z
 ·rw [z];exact hv
theorem nB_er {m:Int}{xs:List Int} (h:nB m xs) (k:Nat):nB m (xs.eraseIdx k):=fun x hx=>h x (List.mem_of_mem_eraseIdx hx)
theorem zai3 {m:Int} (m0:0≤m) {xs:List Int} (h:nB m xs) (k:Nat) : -m≤xs.getD k 0∧xs.getD k 0≤m:=by
 rw [zbl1]
 by_cases z:k<xs.length
 ·rw [zbk4 z];exact h _ (zbn8 z)
 ·rw [zbr8 (by lia)];show -m≤0∧0≤m;lia
theorem zr4 {m n:Int}{xs:List Int} (h:nB m xs) (l:m≤n):nB n xs:=fun x hx=>by have:=h x hx;lia
noncomputable abbrev B1:Int:=10000000000000000000000000000000
noncomputable def Good (f:List Int→Sl→Th) (n:Nat) (o:Option Out):Prop := ∃(xs:List Int) (s:Sl),o=some (.nx (f xs s))∧xs.length≤n+1∧nB (B1+1) xs
theorem ifG {f:List Int→Sl→Th}{n:Nat}{c:DT}{g1 g2:DS}{t:Th}{b:Bool} (hc:c t=some b) (h1:b=true→Good f n (g1 t)) (h2:b=false→Good f n (g2 t)):Good f n (dIfS c g1 g2 t):=by
 cases b with
 |true=>rw [zaj4 hc rfl];exact h1 rfl
 |false=>rw [ifs_f hc rfl];exact h2 rfl
theorem neg1 {n:Nat} (h:0<n):ixN n (-1)=some (n - 1):=by
 unfold ixN
 rw [if_neg (by decide),if_pos (by lia)]
 congr 1
 lia
theorem setn_of {t:Th}{fv:DE}{L:List Int}{v:Int} (hv:fv t=some (.cl (.int v))) (hi:t[6]?=some (.own (L.map D.int))) (h:0<L.length):zk0 6 (d1 kNeg (dC (.int 1))) fv t=some (.nx (t.set 6 (.own ((L.set (L.length - 1) v).map D.int)))):=by
 unfold zk0
 rw [hv]
 show zy0 t 6 (.cl (.int v)) (.cl (.int (-1)))=_
 unfold zy0
 rw [hi]
 show (ixN (L.map D.int).length (-1)).map _=_
 rw [zbm6,neg1 h,zce5]
 rfl
theorem ins_ok {t:Th}{f:List Int→Sl→Th}{s9:Sl}{fk fn:DE}{k:Nat}{v:Int}{xs:List Int} (h1:fk t=some (.cl (.int (k:Int)))) (h2:fn t=some (.cl (.int v))) (hi:t[6]?=some (.own (xs.map D.int))) (hk:k≤xs.length) (hl:xs.length≤1000) (hx:nB B1 xs) (hv : -B1≤v∧v≤B1) (hf:∀ys,t.set 6 (.own (ys.map D.int))=f ys s9):Good f xs.length (dIns 6 (za2 fk (za2 fn dNil)) t) :=
 ⟨insN xs k v,s9,(ins_of h1 h2 hi hk (by lia)).trans (by rw [hf]),by unfold insN;simp;lia,zr4 (nB_ins hx hv k) (by decide)⟩
theorem zaz5 {t:Th}{f:List Int→Sl→Th}{s9:Sl}{fk fv:DE}{k:Nat}{v:Int}{xs:List Int} (h1:fk t=some (.cl (.int (k:Int)))) (h2:fv t=some (.cl (.int v))) (hi:t[6]?=some (.own (xs.map D.int))) (hk:k<xs.length) (hx:nB B1 xs) (hv : -(B1+1)≤v∧v≤B1+1) (hf:∀ys,t.set 6 (.own (ys.map D.int))=f ys s9):Good f xs.length (zk0 6 fk fv t) :=
 ⟨xs.set k v,s9,(zu5 h2 h1 hi hk).trans (by rw [hf]),by simp,zbc7 (zr4 hx (by decide)) hv k⟩
theorem turn_4 {s0 s1 s2 s3 s5 s9:Sl}{w v:Int}{a:Nat}{xs:List Int} (ha:a≤xs.length) (hl:xs.length≤1000) (hx:nB B1 xs) (hv : -B1≤v∧v≤B1):Good (fun ys s=>[s0,s1,s2,s3,.val (.int w),s5,.own (ys.map D.int),.val (.int (a:Int)),.val (.int v),s]) xs.length (b4 [s0,s1,s2,s3,.val (.int w),s5,.own (xs.map D.int),.val (.int (a:Int)),.val (.int v),s9]):=by
 let t:Th:=[s0,s1,s2,s3,.val (.int w),s5,.own (xs.map D.int),.val (.int (a:Int)),.val (.int v),s9]
 have hf:∀ys:List Int,t.set 6 (.own (ys.map D.int))=(fun (ys:List Int) (s:Sl)=>([s0,s1,s2,s3,.val (.int w),s5,.own (ys.map D.int),.val (.int (a:Int)),.val (.int v),s]:Th)) ys s9:=fun _=>rfl
 have ln:(dT1 kLen (za2 (dVar 6) dNil)) t=some (.cl (.int (xs.length:Int))):=zai8 (r:=.tm (.lst (xs.map D.int))) rfl rfl
 have lt:=lt_of (rfl:dVar 7 t=some (.cl (.int (a:Int)))) ln
 have ix:a<xs.length→(d2 kIx (dVar 6) (dVar 7)) t=some (.cl (.int (xs.getD a 0))):=fun h=>zm1 (r1:=.tm (.lst (xs.map D.int))) (r2:=.cl (.int (a:Int))) xs a rfl rfl h rfl rfl
 have g:=zai3 (by decide) hx a
 have two:∀b:Bool,(b&&decide ((a:Int)<(xs.length:Int)))=true→a<xs.length:=fun b h=>by
  rw [zbk7,decide_eq_true_eq]at h
  lia
 show Good _ xs.length (b4 t)
 refine ifG (b:=_) rfl (fun _=>ins_ok rfl rfl rfl ha hl hx hv hf) fun _=>?_
 refine ifG (zo8 (rfl:_=some _) lt) (fun h=>ins_ok rfl (ix (two _ h)) rfl ha hl hx g hf) fun _=>?_
 refine ifG (zo8 (rfl:_=some _) lt) (fun h=>⟨xs.eraseIdx a,s9,(popE_of rfl rfl (two _ h) hl).trans (by rw [hf]),by have:=List.length_eraseIdx_le xs a;lia,zr4 (nB_er hx a) (by decide)⟩) fun _=>?_
 refine ifG (zo8 (rfl:_=some _) lt) (fun h=>zaz5 rfl rfl rfl (two _ h) hx (by lia) hf) fun _=>?_
 refine ifG (zo8 (rfl:_=some _) lt) (fun h=>zaz5 rfl (zg7 (ix (two _ h)) rfl) rfl (two _ h) hx (by lia) hf) fun _=>?_
 refine ifG (zo8 (rfl:_=some _) lt) (fun h=>zaz5 rfl (zag3 (ix (two _ h)) rfl) rfl (two _ h) hx (by lia) hf) fun _=>?_
 refine ifG lt (fun h=>?_) fun _=>⟨xs,s9,rfl,by lia,zr4 hx (by decide)⟩
 have al:a<xs.length:=by rw [decide_eq_true_eq]at h;lia
 have E1:=ze1 (i:=9) (ix al) (by simp [t])
 let k9:Sl:=.val (.int (xs.getD a 0))
 let t1:Th:=[s0,s1,s2,s3,.val (.int w),s5,.own (xs.map D.int),.val (.int (a:Int)),.val (.int v),k9]
 have i2:(d2 kIx (dVar 6) (d1 kNeg (dC (.int 1)))) t1=some (.cl (.int (xs.getD (xs.length - 1) 0))):=by
  rw [zg2 (rfl:dVar 6 t1=some (.tm (.lst (xs.map D.int)))) (rfl:(d1 kNeg (dC (.int 1))) t1=some (.cl (.int (-1))))]
  show Option.map (fun d=>if ((Ev.tm (.lst (xs.map D.int))).ok||flat d)=true then Ev.cl d else Ev.tm d) (atI (xs.map D.int) (-1))=_
  have at':atI (xs.map D.int) (-1)=some (.int (xs.getD (xs.length - 1) 0)):=by
   unfold atI
   rw [zbm6,neg1 (by lia),zbk3]
   exact get_map xs (xs.length - 1) (by lia)
  rw [at',zbp8,if_pos (by have q:flat (D.int (xs.getD (xs.length - 1) 0))=true:=rfl;rw [q,zbp3])]
 have E2:=zu5 (t:=t1) (fk:=dVar 7) (i:=6) (L:=xs) (b:=a) i2 rfl rfl al
 let ys:=xs.set a (xs.getD (xs.length - 1) 0)
 let t2:Th:=[s0,s1,s2,s3,.val (.int w),s5,.own (ys.map D.int),.val (.int (a:Int)),.val (.int v),k9]
 have yl:ys.length=xs.length:=by simp [ys]
 have E3:=setn_of (t:=t2) (fv:=dVar 9) (L:=ys) (v:=xs.getD a 0) rfl rfl (by lia)
 exact⟨_,k9,(za8 E1).trans ((za8 E2).trans E3),by simp [yl],zr4 (zbc7 (zbc7 hx (zai3 (by decide) hx _) a) g _) (by decide)⟩
theorem pw30 (t:Th):(d2 qP (dC (.int 10)) (dC (.int 30))) t=some (.cl (.int 1000000000000000000000000000000)):=by
 show (if cPow 10 30 then some (Ev.cl (D.int ((10:Int) ^ (30:Int).toNat))) else none)=_
 rw [if_pos (by decide)]
 rfl
theorem turn_3 {s0 s1 s3 s4 s5 s6 s7 s9:Sl}{cell n:Int} (hn : -1≤n∧n≤1000000000001):∃v:Int, -B1≤v∧v≤B1∧b3 [s0,s1,.val (.int cell),s3,s4,s5,s6,s7,.val (.int n),s9]=some (.nx [s0,s1,.val (.int cell),s3,s4,s5,s6,s7,.val (.int v),s9]):=by
 let t:Th:=[s0,s1,.val (.int cell),s3,s4,s5,s6,s7,.val (.int n),s9]
 have c:=zaj7 (zf2 (zj9 (fa:=dVar 2) (fb:=dC (.int 26)) (t:=t) (a:=cell) (b:=26) rfl rfl (by decide) (zf0 (by decide) (by decide))) (fb:=dC (.int 5)) (b:=5) rfl (by decide)) (fb:=dC (.int 4)) (b:=4) rfl
 by_cases z:(cell.fdiv 26).fmod 5=4
 ·have m:=zf2 (zj9 (fa:=dVar 2) (fb:=dC (.int 130)) (t:=t) (a:=cell) (b:=130) rfl rfl (by decide) (zf0 (by decide) (by decide))) (fb:=dC (.int 4)) (b:=4) rfl (by decide)
  have q:=fm (a:=cell.fdiv 130) (b:=4) (by decide)
  let L:List Int:=[-2,0 - n - 2,1000000000000+n,1000000000000000000000000000000]
  have e:(dT1 kLst (za2 (d1 kNeg (dC (.int 2))) (za2 (d2 qS (d2 qS (dC (.int 0)) (dVar 8)) (dC (.int 2))) (za2 (d2 qA (d2 qP (dC (.int 10)) (dC (.int 12))) (dVar 8)) (za2 (d2 qP (dC (.int 10)) (dC (.int 30))) dNil))))) t=some (.nw (L.map D.int)) :=
   (zau5 (rfl:(d1 kNeg (dC (.int 2))) t=some (.cl (.int (-2)))) (rfl:(d2 qS (d2 qS (dC (.int 0)) (dVar 8)) (dC (.int 2))) t=some (.cl (.int (0 - n - 2)))) (zg7 (pow12 t) (rfl:dVar 8 t=some (.cl (.int n)))) (pw30 t)).trans rfl
  have i:=zr3 L _ e m (by lia) (by show _<(4:Int);lia) rfl rfl
  have b:nB B1 L:=fun x hx=>by
   simp only [L,zbk5,zbp0,or_false]at hx
   show -10000000000000000000000000000000≤x∧x≤10000000000000000000000000000000
   rcases hx with rfl | rfl | rfl | rfl<;>lia
  have g:=zai3 (by decide) b ((cell.fdiv 130).fmod 4).toNat
  exact⟨_,g.1,g.2,(zaj4 c (decide_eq_true z)).trans (ze1 (i:=8) i (by simp [t]))⟩
 ·exact⟨n,by show -10000000000000000000000000000000≤n;lia,by show n≤10000000000000000000000000000000;lia,grd c (decide_eq_false z)⟩
theorem inner_is {s0 s5:Sl}{w most cell:Int} (m0:0≤most) (m1:most≤1000000000000) {xs:List Int} (hl:xs.length≤1000) (hx:nB B1 xs) (ds:List D) (k:Nat):∃(ys:List Int) (a v:Int) (u9:Sl),ys.length≤xs.length+1∧nB (B1+1) ys∧gB ds k [s0,.val (.int most),.val (.int cell),.no,.val (.int w),s5,.own (xs.map D.int),.no,.no,.no]=bE ds k [s0,.val (.int most),.val (.int cell),.no,.val (.int w),s5,.own (ys.map D.int),.val (.int a),.val (.int v),u9]:=by
 let S1:Sl:=.val (.int most)
 let S2:Sl:=.val (.int cell)
 let S4:Sl:=.val (.int w)
 let S6:Sl:=.own (xs.map D.int)
 let t0:Th:=[s0,S1,S2,.no,S4,s5,S6,.no,.no,.no]
 have ln:∀s7,(dT1 kLen (za2 (dVar 6) dNil)) [s0,S1,S2,.no,S4,s5,S6,s7,.no,.no]=some (.cl (.int (xs.length:Int))):=fun s7=>zai8 (r:=.tm (.lst (xs.map D.int))) rfl rfl
 have l1:∀s7,(d2 qA (dT1 kLen (za2 (dVar 6) dNil)) (dC (.int 1))) [s0,S1,S2,.no,S4,s5,S6,s7,.no,.no]=some (.cl (.int ((xs.length:Int)+1))):=fun s7=>zg7 (ln s7) (fb:=dC (.int 1)) (b:=1) rfl
 have d13:∀s7,(d2 qV (dVar 2) (dC (.int 13))) [s0,S1,S2,.no,S4,s5,S6,s7,.no,.no]=some (.cl (.int (cell.fdiv 13))):=fun s7=>zj9 (a:=cell) (b:=13) rfl rfl (by decide) (zf0 (by decide) (by decide))
 have e7:=zf2 (d13 .no) (l1 .no) (by lia)
 have q7:=fm (a:=cell.fdiv 13) (b:=(xs.length:Int)+1) (by lia)
 obtain⟨a,ha⟩:∃a:Nat,(cell.fdiv 13).fmod ((xs.length:Int)+1)=(a:Int):=⟨_,(zbt3 q7.1).symm⟩
 rw [ha]at e7
 have E7:=ze1 (i:=7) (t:=t0) e7 (by simp [t0])
 let S7:Sl:=.val (.int (a:Int))
 let t1:Th:=[s0,S1,S2,.no,S4,s5,S6,S7,.no,.no]
 have m3:=zg7 (fa:=dVar 1) (fb:=dC (.int 3)) (t:=t1) (a:=most) (b:=3) rfl rfl
 have e8:=zag3 (zf2 (zj9 (d13 S7) (l1 S7) (by lia) (zf0 (by lia) (by lia))) m3 (by lia)) (fb:=dC (.int 1)) (b:=1) rfl
 have q8:=fm (a:=(cell.fdiv 13).fdiv ((xs.length:Int)+1)) (b:=most+3) (by lia)
 have E8:=ze1 (i:=8) (t:=t1) e8 (by simp [t1])
 obtain⟨v,v0,v1,E3⟩:=turn_3 (s0:=s0) (s1:=S1) (s3:=.no) (s4:=S4) (s5:=s5) (s6:=S6) (s7:=S7) (s9:=.no) (cell:=cell) (n:=((cell.fdiv 13).fdiv ((xs.length:Int)+1)).fmod (most+3) - 1) (by lia)
 obtain⟨ys,u9,E4,yl,yb⟩:=turn_4 (s0:=s0) (s1:=S1) (s2:=S2) (s3:=.no) (s5:=s5) (s9:=.no) (w:=w) (v:=v) (a:=a) (xs:=xs) (by lia) hl hx ⟨v0,v1⟩
 exact⟨ys,(a:Int),v,u9,yl,yb,(seqN E7).trans ((seqN E8).trans ((seqN E3).trans (seqN E4)))⟩
theorem nw_of {f:DE}{t:Th}{xs:List Int} (h:f t=some (.nw (xs.map D.int))):nOf f t=some (.lst (xs.map D.int),[]):=by
 unfold nOf
 rw [h]
 show ((if zg9 (xs.map D.int)=true then some (D.lst (xs.map D.int)) else none).map fun d=>(d,([]:List Nat)))=_
 rw [ze9]
 rfl
theorem bent_is {most cell:Int} (m0:0≤most) (m1:most≤1000000000000) {xs ys:List Int} (lx:xs.length≤999) (ly:ys.length≤999) (bx:nB B1 xs) (by':nB B1 ys):∃xs' ys':List Int,xs'.length≤1000∧ys'.length≤1000∧nB (B1+1) xs'∧nB (B1+1) ys'∧zg8 [.tup [.lst (xs.map D.int),.lst (ys.map D.int)],.int most,.int cell]=some (.tm (.tup [.lst (xs'.map D.int),.lst (ys'.map D.int)])):=by
 let S0:Sl:=.val (.tup [.lst (xs.map D.int),.lst (ys.map D.int)])
 let S1:Sl:=.val (.int most)
 let S2:Sl:=.val (.int cell)
 let t0:Th:=[S0,S1,S2,.no,.no,.no,.no,.no,.no,.no]
 have n1:=nw_of (zv1 (f:=d2 kIx (dVar 0) (dC (.int 0))) (t:=t0) (r:=.cl (.lst (xs.map D.int))) (xs:=xs) rfl rfl)
 have n2:=nw_of (zv1 (f:=d2 kIx (dVar 0) (dC (.int 1))) (t:=t0) (r:=.cl (.lst (ys.map D.int))) (xs:=ys) rfl rfl)
 have e1:(zax2 (zae1 (nOf (dT1 zn4 (za2 (d2 kIx (dVar 0) (dC (.int 0))) dNil))) (zae1 (nOf (dT1 zn4 (za2 (d2 kIx (dVar 0) (dC (.int 1))) dNil))) nNil))) t0=some (.dn (.lst [.lst (xs.map D.int),.lst (ys.map D.int)])):=by
  unfold zax2 zae1
  rw [n1,n2]
  rfl
 have E1:=dn_asg (i:=3) e1 (by simp [t0])
 let ds:List D:=[.lst (xs.map D.int),.lst (ys.map D.int)]
 let t1:Th:=[S0,S1,S2,.dp (.lst ds),.no,.no,.no,.no,.no,.no]
 have E2:=ze1 (i:=4) (t:=t1) (zf2 (fa:=dVar 2) (fb:=dC (.int 13)) (a:=cell) (b:=13) rfl rfl (by decide)) (by simp [t1])
 let w:=cell.fmod 13
 let t2:Th:=[S0,S1,S2,.dp (.lst ds),.val (.int w),.no,.no,.no,.no,.no]
 have E3:=ze1 (i:=5) (t:=t2) (zbe2 (gtv_of (fa:=dVar 4) (fb:=dC (.int 6)) (a:=w) (b:=6) rfl rfl)) (by simp [t2])
 let rt:DS:=(dRet (dT1 kTup (za2 (d2 kIx (dVar 3) (dC (.int 0))) (za2 (d2 kIx (dVar 3) (dC (.int 1))) dNil))))
 have fin:∀(k:Nat) (zs:List Int),ds[k]?=some (.lst (zs.map D.int))→k<2→zs.length≤999→nB B1 zs→∃(zs':List Int) (s7 s8 s9:Sl),zs'.length≤1000∧nB (B1+1) zs'∧zao3 3 6 (dVar 5) gB [S0,S1,S2,.dp (.lst ds),.val (.int w),.val (.int (k:Int)),.no,.no,.no,.no]=rt [S0,S1,S2,.dp (.lst (ds.set k (.lst (zs'.map D.int)))),.val (.int w),.val (.int (k:Int)),.no,s7,s8,s9]:=fun k zs hk k2 lz bz=>by
  obtain⟨zs',a,v,u9,zl,zb,e⟩:=inner_is (s0:=S0) (s5:=.val (.int (k:Int))) (w:=w) (cell:=cell) m0 m1 (xs:=zs) (by lia) bz ds k
  refine⟨zs',.val (.int a),.val (.int v),u9,by lia,zb,?_⟩
  have L:zao3 3 6 (dVar 5) gB [S0,S1,S2,.dp (.lst ds),.val (.int w),.val (.int (k:Int)),.no,.no,.no,.no]=gB ds k [S0,S1,S2,.no,.val (.int w),.val (.int (k:Int)),.own (zs.map D.int),.no,.no,.no]:=by
   unfold zao3
   show (ixN ds.length (k:Int)).bind _=_
   rw [zy1 _ k (by show k<2;exact k2)]
   simp only [zbk3]
   rw [hk]
   show (if (zs.map D.int).all scD&&_ then _ else none)=_
   rw [zal9,if_pos (by rfl)]
   rfl
  refine L.trans (e.trans ?_)
  unfold bE zbg4
  show (if (zs'.map D.int).all scD&&_ then rt _ else none)=_
  rw [zal9,if_pos (by rfl)]
  rfl
 by_cases z:6<w
 ·rw [decide_eq_true z]at E3
  obtain⟨zs',s7,s8,s9,zl,zb,e⟩:=fin 1 ys rfl (by decide) ly by'
  refine⟨xs,zs',by lia,zl,zr4 bx (by decide),zb,?_⟩
  show (zm4 t0).bind zj2=_
  rw [zbi8]
  exact bnd ((za8 E1).trans ((za8 E2).trans ((za8 E3).trans (e.trans rfl))))
 ·rw [decide_eq_false z]at E3
  obtain⟨zs',s7,s8,s9,zl,zb,e⟩:=fin 0 xs rfl (by decide) lx bx
  refine⟨zs',ys,zl,by lia,zb,zr4 by' (by decide),?_⟩
  show (zm4 t0).bind zj2=_
  rw [zbi8]
  exact bnd ((za8 E1).trans ((za8 E2).trans ((za8 E3).trans (e.trans rfl))))
theorem rng2n_of {k0:D→Th→Option Th}{b:DS}{t:Th}{f f':DE}{lo n:Int}{k:Nat} (h1:f t=some (.cl (.int lo))) (h2:f' t=some (.cl (.int n))) (hk:(n - lo).toNat=k) (hb:(bigI n&&bigI lo)=true):zbg2 k0 f f' b t=forD k0 b (rngD lo k) t:=by
 unfold zbg2
 rw [h1,h2]
 show (if bigI n&&bigI lo then forD k0 b (rngD lo (n - lo).toNat) t else none)=_
 rw [if_pos hb,hk]
theorem snB {m v:Int}{xs:List Int} (h:nB m xs) (hv : -m≤v∧v≤m):nB m (xs++[v]):=fun x hx=>by
 rcases zbk1.mp hx with z | z
 ·exact h x z
 ·rw [zbm2.mp z];exact hv
theorem free_is {M ties:Nat}{most cell:Int} (hM:M≤900) (ht:ties≤60) (m0:0≤most) (m1:most≤1000000000000):∃xs ys:List Int,xs.length≤999∧ys.length≤999∧nB B1 xs∧nB B1 ys∧zm7 [.int cell,.int (M:Int),.int (ties:Int),.int most]=some (.tm (.tup [.lst (xs.map D.int),.lst (ys.map D.int)])):=by
 let S1:Sl:=.val (.int (M:Int))
 let S2:Sl:=.val (.int (ties:Int))
 let S3:Sl:=.val (.int most)
 have E1:dAsg 4 (dT1 kLst dNil) [.val (.int cell),S1,S2,S3,.no,.no,.no,.no]=some (.nx [.val (.int cell),S1,S2,S3,.own (([]:List Int).map D.int),.no,.no,.no]):=rfl
 obtain⟨t2,e2,xs,c2,u5,xl,xb,rfl⟩:=zbe9 (k:=za5 5) (b:=f1) (n:=M+2) (f:=fun j=>D.int (-1+(j:Int))) (P:=fun j t => ∃(xs:List Int) (c:Int) (u5:Sl),xs.length≤j∧nB B1 xs∧t=[.val (.int c),S1,S2,S3,.own (xs.map D.int),u5,.no,.no]) (fun j hj t ⟨xs,c,u5,xl,xb,et⟩=>by
  subst et
  let t1:Th:=[.val (.int c),S1,S2,S3,.own (xs.map D.int),.val (.int (-1+(j:Int))),.no,.no]
  have cd:=zaj7 (zf2 (fa:=dVar 0) (fb:=dC (.int 2)) (t:=t1) (a:=c) (b:=2) rfl rfl (by decide)) (fb:=dC (.int 1)) (b:=1) rfl
  have dv:∀ys:List Int,dAsg 0 (d2 qV (dVar 0) (dC (.int 2))) [.val (.int c),S1,S2,S3,.own (ys.map D.int),.val (.int (-1+(j:Int))),.no,.no]=some (.nx [.val (.int (c.fdiv 2)),S1,S2,S3,.own (ys.map D.int),.val (.int (-1+(j:Int))),.no,.no]):=fun ys=>ze1 (i:=0) (zj9 (a:=c) (b:=2) rfl rfl (by decide) (zf0 (by decide) (by decide))) (by simp)
  by_cases z:c.fmod 2=1
  ·have A:=zz8 t1 (f:=dVar 5) (i:=4) (p := -1+(j:Int)) (xs:=xs) rfl rfl (by lia)
   refine⟨t1,_,rfl,(za8 ((zaj4 cd (decide_eq_true z)).trans A)).trans (dv (xs++[-1+(j:Int)])),xs++[-1+(j:Int)],_,_,by simp;lia,snB xb (by show -10000000000000000000000000000000≤_∧_≤10000000000000000000000000000000;lia),rfl⟩
  ·exact⟨t1,_,rfl,(za8 (grd cd (decide_eq_false z))).trans (dv xs),xs,_,_,by lia,xb,rfl⟩) [.val (.int cell),S1,S2,S3,.own (([]:List Int).map D.int),.no,.no,.no] ⟨[],_,_,by simp,(fun x hx=>nomatch hx),rfl⟩
 have E2:=(rng2n_of (k0:=za5 5) (b:=f1) (t:=[.val (.int cell),S1,S2,S3,.own (([]:List Int).map D.int),.no,.no,.no]) (f:=d1 kNeg (dC (.int 1))) (lo := -1) (k:=M+2) rfl (zg7 (fa:=dVar 1) (fb:=dC (.int 1)) (a:=(M:Int)) (b:=1) rfl rfl) (by lia) (by rw [zbk7];unfold bigI;constructor <;>(simp;try lia))).trans e2
 let t2:Th:=[.val (.int c2),S1,S2,S3,.own (xs.map D.int),u5,.no,.no]
 have E3:dAsg 6 (dT1 kLst dNil) t2=some (.nx [.val (.int c2),S1,S2,S3,.own (xs.map D.int),u5,.own (([]:List Int).map D.int),.no]):=rfl
 let t3:Th:=[.val (.int c2),S1,S2,S3,.own (xs.map D.int),u5,.own (([]:List Int).map D.int),.no]
 have m4:=zf2 (zj9 (fa:=dVar 0) (fb:=dC (.int 4)) (t:=t3) (a:=c2) (b:=4) rfl rfl (by decide) (zf0 (by decide) (by decide))) (fb:=dC (.int 61)) (b:=61) rfl (by decide)
 have q4:=fm (a:=c2.fdiv 4) (b:=61) (by decide)
 obtain⟨n,hn,en⟩:∃n:Nat,n≤61∧(d2 kIx (dT1 kLst (za2 (dVar 2) (za2 (d2 qR (d2 qV (dVar 0) (dC (.int 4))) (dC (.int 61))) dNil))) (dT1 zao0 (za2 (d2 kEq (d2 qR (dVar 0) (dC (.int 4))) (dC (.int 3))) dNil))) t3=some (.cl (.int (n:Int))):=by
  let L:List Int:=[(ties:Int),(c2.fdiv 4).fmod 61]
  have e:(dT1 kLst (za2 (dVar 2) (za2 (d2 qR (d2 qV (dVar 0) (dC (.int 4))) (dC (.int 61))) dNil))) t3=some (.nw (L.map D.int)):=(zl8 (rfl:dVar 2 t3=some (.cl (.int (ties:Int)))) m4).trans rfl
  have eqv:(d2 kEq (d2 qR (dVar 0) (dC (.int 4))) (dC (.int 3))) t3=some (.cl (.bl (decide (c2.fmod 4=3)))):=by
   rw [zg2 (zf2 (fa:=dVar 0) (fb:=dC (.int 4)) (t:=t3) (a:=c2) (b:=4) rfl rfl (by decide)) (rfl:dC (.int 3) t3=some (.cl (.int 3)))]
   simp [kEq,eqOk,eqD,Ev.d]
  have ib:=zbe2 eqv
  by_cases z:c2.fmod 4=3
  ·rw [decide_eq_true z]at ib
   have i:=zr3 L 1 e ib (by decide) (by show (1:Int)<2;decide) rfl rfl
   refine⟨((c2.fdiv 4).fmod 61).toNat,by lia,?_⟩
   rw [zbt3 q4.1]
   exact i
  ·rw [decide_eq_false z]at ib
   have i:=zr3 L 0 e ib (by decide) (by show (0:Int)<2;decide) rfl rfl
   exact⟨ties,by lia,i⟩
 obtain⟨t4,e4,ys,c4,u7,yl,yb,rfl⟩:=zbe9 (k:=za5 7) (b:=f2) (n:=n) (f:=fun j=>D.int (j:Int)) (P:=fun j t => ∃(ys:List Int) (c:Int) (u7:Sl),ys.length=j∧nB B1 ys∧t=[.val (.int c),S1,S2,S3,.own (xs.map D.int),u5,.own (ys.map D.int),u7]) (fun j hj t ⟨ys,c,u7,yl,yb,et⟩=>by
  subst et
  let S7:Sl:=.val (.int (j:Int))
  let t1:Th:=[.val (.int c),S1,S2,S3,.own (xs.map D.int),u5,.own (ys.map D.int),S7]
  have m3:∀zs:List Int,(d2 qA (dVar 3) (dC (.int 3))) [.val (.int c),S1,S2,S3,.own (xs.map D.int),u5,.own (zs.map D.int),S7]=some (.cl (.int (most+3))):=fun zs=>zg7 (a:=most) (b:=3) rfl rfl
  have v:=zag3 (zf2 (zj9 (fa:=dVar 0) (fb:=dC (.int 244)) (t:=t1) (a:=c) (b:=244) rfl rfl (by decide) (zf0 (by decide) (by decide))) (m3 ys) (by lia)) (fb:=dC (.int 1)) (b:=1) rfl
  have q:=fm (a:=c.fdiv 244) (b:=most+3) (by lia)
  have A:=zz8 t1 (i:=6) (xs:=ys) v rfl (by lia)
  have B:=ze1 (i:=0) (zj9 (fa:=dVar 0) (t:=[.val (.int c),S1,S2,S3,.own (xs.map D.int),u5,.own ((ys++[(c.fdiv 244).fmod (most+3) - 1]).map D.int),S7]) (a:=c) rfl (m3 (ys++[(c.fdiv 244).fmod (most+3) - 1])) (by lia) (zf0 (by lia) (by lia))) (by simp)
  exact⟨t1,_,rfl,(za8 A).trans B,ys++[(c.fdiv 244).fmod (most+3) - 1],_,_,by simp [yl],snB yb (by show -10000000000000000000000000000000≤_∧_≤10000000000000000000000000000000;lia),rfl⟩) t3 ⟨[],_,_,rfl,(fun x hx=>nomatch hx),rfl⟩
 have E4:=zu7 (k0:=za5 7) (b:=f2) (n:=n) en rfl (by lia)
 rw [show (zd1 n).map D.int=(zbo3 n).map fun (j:Nat)=>D.int (j:Int) by unfold zd1;simp,e4]at E4
 let t5:Th:=[.val (.int c4),S1,S2,S3,.own (xs.map D.int),u5,.own (ys.map D.int),u7]
 have er:(dT1 kTup (za2 (dVar 4) (za2 (dVar 6) dNil))) t5=some (.tm (.tup [.lst (xs.map D.int),.lst (ys.map D.int)])):=(zl8 (rfl:dVar 4 t5=some (.tm (.lst (xs.map D.int)))) (rfl:dVar 6 t5=some (.tm (.lst (ys.map D.int))))).trans rfl
 refine⟨xs,ys,by lia,by lia,xb,yb,?_⟩
 show (zq4 [.val (.int cell),S1,S2,S3,.no,.no,.no,.no]).bind zj2=_
 unfold zq4
 exact bnd ((za8 E1).trans ((za8 E2).trans ((za8 E3).trans ((za8 E4).trans (zn6 er)))))
theorem mem_ddp (P:List Int) (x:Int):x∈ddp P↔x∈P:=by
 have:∀(l acc:List Int),x∈l.foldl step_dedup acc↔x∈acc∨x∈l:=by
  intro l
  induction l with
  |nil=>intro acc;simp
  |cons y l ih =>
   intro acc
   simp only [zbt7,ih,zbk5]
   unfold step_dedup
   split
   ·rename_i c
    obtain⟨z,hz,e⟩:=zbw6.mp c
    have e:z=y:=by simpa using e
    subst e
    constructor
    ·rintro (h | h)
     ·exact .inl h
     ·exact .inr (.inr h)
    ·rintro (h | h | h)
     ·exact .inl h
     ·subst h;exact .inl hz
     ·exact .inr h
   ·simp only [zbk1,zbm2,or_assoc]
 have h:=this P []
 simpa [ddp] using h
theorem cat_of {fa fb:DE}{t:Th}{r1 r2:Ev}{xs ys:List Int} (h1:fa t=some r1) (h2:fb t=some r2) (e1:r1.d=.lst (xs.map D.int)) (e2:r2.d=.lst (ys.map D.int)) (hl:xs.length+ys.length≤100000):(d2 qA fa fb) t=some (.nw ((xs++ys).map D.int)):=by
 rw [zg2 h1 h2]
 (try unfold qA);(try unfold qM);unfold kOr
 have z:kI tt2 (fun i j=>D.int (i+j)) r1 r2=none:=by (try unfold qA);(try unfold qS);(try unfold qM);(try unfold qV);(try unfold qR);(try unfold qL);(try unfold qE);(try unfold qG);(try unfold qP);unfold kI;rw [e1,e2]
 rw [z]
 show kCat r1 r2=_
 unfold kCat
 rw [e1,e2]
 show (if (r1.ok||zg9 (xs.map D.int))&&(r2.ok||zg9 (ys.map D.int))&&decide ((xs.map D.int).length+(ys.map D.int).length≤100000) then some (Ev.nw (xs.map D.int++ys.map D.int)) else none)=_
 rw [ze9,ze9,zbp3,zbp3,decide_eq_true (by rw [zbm6,zbm6];exact hl),if_pos (by rfl),zbx6]
theorem zai4:∀(ns:List Int) (n:Int),zo1 n ns=n∨zo1 n ns∈ns
 |[],n=>.inl rfl
 |y::ns,n=>by
  have h:=zai4 ns (if n<y then y else n)
  show zo1 _ ns=n∨zo1 _ ns∈y::ns
  rcases h with h | h
  ·by_cases q:n<y
   ·rw [if_pos q]at h ⊢;right;rw [h];simp
   ·rw [if_neg q]at h ⊢;left;exact h
  ·right;exact zbj9 _ h
theorem top_bd {m:Int}{ws:List Int} (h0:0<ws.length) (h:∀x∈ws,0≤x∧x≤m):0≤zay5 ws∧zay5 ws≤m:=by
 cases ws with
 |nil=>simp at h0
 |cons w ws =>
  have:zay5 (w::ws)∈w::ws:=by
   show zo1 w ws∈w::ws
   rcases zai4 ws w with z | z
   ·rw [z];exact zbk2 ..
   ·exact zbj9 _ z
  exact h _ this
theorem sets_of {f:DE}{t:Th}{r:Ev}{xs:List Int} (h:f t=some r) (hr:r.d=.lst (xs.map D.int)) (hl:xs.length≤3000):(dT1 zt4 (za2 f dNil)) t=some (.nw ((sortI' (ddp xs)).map D.int)):=by
 rw [zw2 h]
 unfold zt4
 simp only [hr,zm2,zbk3]
 rw [if_pos hl]
theorem zbg6 {fe:DE}{p:Nat×Nat→Int}{ext:Th}:∀(us:List (Nat×Nat)) (s s':Sl),(∀u∈us,fe (.val (.int (u.1:Int))::.val (.int (u.2:Int))::ext)=some (.cl (.int (p u))))→zd8 (zg1 2 (zb3 (za5 0) (zb3 (za5 1) zg5))) ze5 fe (us.map tD) (s::s'::ext)=some ((us.map p).map D.int)
 |[],s,s',_=>rfl
 |u::us,s,s',h=>by
  have ih:=zbg6 us (.val (.int (u.1:Int))) (.val (.int (u.2:Int))) fun y hy=>h y (zbj9 _ hy)
  show (fe (.val (.int (u.1:Int))::.val (.int (u.2:Int))::ext)).bind (fun r=>(zd8 (zg1 2 (zb3 (za5 0) (zb3 (za5 1) zg5))) ze5 fe (us.map tD) (.val (.int (u.1:Int))::.val (.int (u.2:Int))::ext)).map fun xs=>r.d::xs)=_
  rw [h u (zbk2 ..),ih]
  rfl
theorem zz5 {cap:List Nat}{f:DE}{fe:DE}{t:Th}{us:List (Nat×Nat)}{p:Nat×Nat→Int}{b:Bool}{c:List D} (hf:f t=some (.cl (.lst (us.map tD)))) (hn:us.length≤50000) (hc:capD t cap=some (b,c)) (he:∀u∈us,fe (.val (.int (u.1:Int))::.val (.int (u.2:Int))::c.map Sl.val)=some (.cl (.int (p u)))) :
  (ze6 2 cap (fsL f) (zg1 2 (zb3 (za5 0) (zb3 (za5 1) zg5))) ze5 fe) t=some (.nw ((us.map p).map D.int)):=by
 unfold ze6
 have e1:fsL f t=some (true,us.map tD):=by
  unfold fsL
  rw [hf]
  rfl
 rw [e1,hc]
 simp only [zbk3]
 rw [if_pos (by simpa using hn)]
 show (zd8 _ ze5 fe (us.map tD) (Sl.no::Sl.no::c.map Sl.val)).bind _=_
 rw [zbg6 _ _ _ he]
 simp only [zbk3,ze9,zbp3,if_true]
noncomputable def okPp (d:D):Prop := ∃xs ys:List Int,xs.length≤1000∧ys.length≤1000∧nB (B1+1) xs∧nB (B1+1) ys∧d=.tup [.lst (xs.map D.int),.lst (ys.map D.int)]
theorem callt {G:List D→Option Ev}{rs:List Ev}{d:D} (h:G (rs.map Ev.d)=some (.tm d)) (ok:rs.all Ev.ok=true):zd3 G rs=some (.cl d):=by
 unfold zd3
 rw [h,ok]
 rfl
theorem zbc1 (ns:List Int) (hb:∀n∈ns,n.natAbs<bndS) {M:Nat}{us:List (Nat×Nat)}{ws:List Int} (M0:0<M) (hM:M≤60) (hw:ws.length=M) (hw2:∀x∈ws,0≤x∧x≤1000000000000) (ul:us.length≤400) (hu:∀u∈us,u.1<u.2∧u.2<M):∃L:List D,(∀d∈L,okPp d)∧zf3 [.lst (ns.map D.int),.tup [.int (M:Int),.lst (us.map tD)],.lst (ws.map D.int)]=some (.nw L):=by
 let N:Sl:=.val (.lst (ns.map D.int))
 let WD:D:=.tup [.int (M:Int),.lst (us.map tD)]
 let W:Sl:=.val WD
 let S2:Sl:=.val (.lst (ws.map D.int))
 let t0:Th:=[N,W,S2,.no,.no,.no,.no,.no,.no,.no,.no]
 obtain⟨cell,_,e1⟩:=zq5 ns hb 62 [W,S2,.no,.no,.no,.no,.no,.no,.no,.no]
 have E1:=ze1 (i:=3) (t:=t0) e1 (by simp [t0])
 let S3:Sl:=.val (.int cell)
 let t1:Th:=[N,W,S2,S3,.no,.no,.no,.no,.no,.no,.no]
 have E2:=ze1 (i:=4) (t:=t1) (extt_of (f:=dVar 2) (r:=.cl (.lst (ws.map D.int))) (L:=ws) rfl rfl (by lia)) (by simp [t1])
 obtain⟨m0,m1⟩:=top_bd (ws:=ws) (by lia) hw2
 generalize zay5 ws=most at E2 m0 m1
 let S4:Sl:=.val (.int most)
 let t2:Th:=[N,W,S2,S3,S4,.no,.no,.no,.no,.no,.no]
 obtain⟨c,p,cl,pl,cb,pb,er⟩:=rule_is (M:=M) (us:=us) (ws:=ws) (by lia) hw hw2 ul hu
 let PD:D:=.tup [.lst (c.map D.int),.lst (p.map D.int)]
 have E3:=ze1 (i:=5) (t:=t2) ((zl8 (rfl:dVar 1 t2=some (.cl WD)) (rfl:dVar 2 t2=some (.cl (.lst (ws.map D.int))))).trans (callt (G:=zm6) (rs:=[.cl WD,.cl (.lst (ws.map D.int))]) (d:=PD) er rfl)) (by simp [t2])
 let S5:Sl:=.val PD
 let t3:Th:=[N,W,S2,S3,S4,S5,.no,.no,.no,.no,.no]
 have u1:=zz5 (cap:=[]) (f:=d2 kIx (dVar 1) (dC (.int 1))) (fe:=dVar 0) (t:=t3) (us:=us) (p:=fun u=>(u.1:Int)) (b:=true) (c:=[]) rfl (by lia) rfl (fun u _=>rfl)
 have u2:=zz5 (cap:=[]) (f:=d2 kIx (dVar 1) (dC (.int 1))) (fe:=dVar 1) (t:=t3) (us:=us) (p:=fun u=>(u.2:Int)) (b:=true) (c:=[]) rfl (by lia) rfl (fun u _=>rfl)
 let es:List Int:=(us.map fun u=>(u.1:Int))++us.map fun u=>(u.2:Int)
 have esl:es.length≤800:=by show ((us.map fun u=>(u.1:Int))++us.map fun u=>(u.2:Int)).length≤800;simp;lia
 have E4:=zu3 (i:=6) (t:=t3) (sets_of (cat_of u1 u2 (xs:=us.map fun u=>(u.1:Int)) (ys:=us.map fun u=>(u.2:Int)) rfl rfl (by simp;lia)) (xs:=es) rfl (by lia)) (by simp [t3])
 let en:List Int:=sortI' (ddp es)
 have enm:∀x∈en,0≤x∧x<(M:Int):=fun x hx=>by
  have:=(mem_ddp es x).mp ((sortI'_perm _).mem_iff.mp hx)
  rcases zbk1.mp this with z | z
  ·obtain⟨u,h,rfl⟩:=zbq1.mp z
   have:=hu u h
   lia
  ·obtain⟨u,h,rfl⟩:=zbq1.mp z
   have:=hu u h
   lia
 have enl:en.length≤M:=by
  have:=zaz0 ((sortI'_perm (ddp es)).nodup_iff.mpr (TS.ddp_nodup es)) (C:=zd1 M) (fun x hx=>mem_nats (enm x hx).1 (enm x hx).2)
  rw [zm0]at this
  exact this
 let S6:Sl:=.own (en.map D.int)
 let t4:Th:=[N,W,S2,S3,S4,S5,S6,.no,.no,.no,.no]
 let hv:Nat×Nat→Int:=fun u=>(if ws.getD u.2 0<ws.getD u.1 0 then ws.getD u.2 0 else ws.getD u.1 0).fdiv 2
 have h5:=zz5 (cap:=[2]) (f:=d2 kIx (dVar 1) (dC (.int 1))) (fe:=(d2 qV (dT1 qN (za2 (d2 kIx (dVar 2) (dVar 0)) (za2 (d2 kIx (dVar 2) (dVar 1)) dNil))) (dC (.int 2)))) (t:=t4) (us:=us) (p:=hv) (b:=true) (c:=[.lst (ws.map D.int)]) rfl (by lia) rfl (fun u hu'=>by
  have:=hu u hu'
  let t:Th:=[.val (.int (u.1:Int)),.val (.int (u.2:Int)),.val (.lst (ws.map D.int))]
  have i1:=zm1 (fa:=dVar 2) (fb:=dVar 0) (t:=t) (r1:=.cl (.lst (ws.map D.int))) (r2:=.cl (.int (u.1:Int))) ws u.1 rfl rfl (by lia) rfl rfl
  have i2:=zm1 (fa:=dVar 2) (fb:=dVar 1) (t:=t) (r1:=.cl (.lst (ws.map D.int))) (r2:=.cl (.int (u.2:Int))) ws u.2 rfl rfl (by lia) rfl rfl
  have k:(dT1 qN (za2 (d2 kIx (dVar 2) (dVar 0)) (za2 (d2 kIx (dVar 2) (dVar 1)) dNil))) t=some (.cl (.int (if ws.getD u.2 0<ws.getD u.1 0 then ws.getD u.2 0 else ws.getD u.1 0))):=(zl8 i1 i2).trans rfl
  exact zj9 k (fb:=dC (.int 2)) (b:=2) rfl (by decide) (zf0 (by decide) (by decide)))
 have E5:=zu3 (i:=7) (t:=t4) h5 (by simp [t4])
 let ha:=us.map hv
 have wsn:nB 1000000000000 ws:=fun x hx=>by have:=hw2 x hx;lia
 have hab:nB B1 ha:=fun x hx=>by
  obtain⟨u,_,rfl⟩:=zbq1.mp hx
  have a1:=zai3 (by decide) wsn u.1
  have a2:=zai3 (by decide) wsn u.2
  show -10000000000000000000000000000000≤hv u∧hv u≤10000000000000000000000000000000
  have:∀z:Int, -1000000000000≤z∧z≤1000000000000 → -10000000000000000000000000000000≤z.fdiv 2∧z.fdiv 2≤10000000000000000000000000000000:=fun z hz=>by
   have:=zbx8 z (by decide:(0:Int)≤2)
   lia
  refine this _ ?_
  split<;>assumption
 let S7:Sl:=.own (ha.map D.int)
 let t5:Th:=[N,W,S2,S3,S4,S5,S6,S7,.no,.no,.no]
 obtain⟨ti,hti,eti⟩:∃ti:Nat,ti≤60∧(dT1 qN (za2 (dC (.int 60)) (za2 (dT1 kLen (za2 (d2 kIx (dVar 1) (dC (.int 1))) dNil)) dNil))) t5=some (.cl (.int (ti:Int))):=by
  have h1:=zan8 (f:=d2 kIx (dVar 1) (dC (.int 1))) (t:=t5) (r:=.cl (.lst (us.map tD))) (us:=us) rfl rfl
  have h2:(dT1 qN (za2 (dC (.int 60)) (za2 (dT1 kLen (za2 (d2 kIx (dVar 1) (dC (.int 1))) dNil)) dNil))) t5=some (.cl (.int (if (us.length:Int)<60 then (us.length:Int) else 60))):=(zl8 (rfl:dC (.int 60) t5=some (.cl (.int 60))) h1).trans rfl
  by_cases z:(us.length:Int)<60
  ·rw [if_pos z]at h2
   exact⟨us.length,by lia,h2⟩
  ·rw [if_neg z]at h2
   exact⟨60,by lia,h2⟩
 obtain⟨fx,fy,fxl,fyl,fxb,fyb,ef⟩:=free_is (M:=M) (ties:=ti) (most:=most) (cell:=cell) (by lia) hti m0 m1
 let FD:D:=.tup [.lst (fx.map D.int),.lst (fy.map D.int)]
 have E6:=ze1 (i:=8) (t:=t5) ((zau5 (rfl:dVar 3 t5=some (.cl (.int cell))) (rfl:(d2 kIx (dVar 1) (dC (.int 0))) t5=some (.cl (.int (M:Int)))) eti (rfl:dVar 4 t5=some (.cl (.int most)))).trans (callt (G:=zm7) (rs:=[.cl (.int cell),.cl (.int (M:Int)),.cl (.int (ti:Int)),.cl (.int most)]) (d:=FD) ef rfl)) (by simp [t5])
 let S8:Sl:=.val FD
 let t6:Th:=[N,W,S2,S3,S4,S5,S6,S7,S8,.no,.no]
 have cB:nB B1 c:=fun x hx=>by have:=cb x hx;show -10000000000000000000000000000000≤x∧x≤10000000000000000000000000000000;lia
 have pB:nB B1 p:=fun x hx=>by have:=pb x hx;show -10000000000000000000000000000000≤x∧x≤10000000000000000000000000000000;lia
 have bent:∀(ce:Int),∃d,okPp d∧zd3 zg8 [.cl PD,.cl (.int most),.cl (.int ce)]=some (.cl d):=fun ce=>by
  obtain⟨x',y',h1,h2,h3,h4,e⟩:=bent_is (most:=most) (cell:=ce) m0 m1 (xs:=c) (ys:=p) (by lia) (by lia) cB pB
  exact⟨_,⟨x',y',h1,h2,h3,h4,rfl⟩,callt (G:=zg8) (rs:=[.cl PD,.cl (.int most),.cl (.int ce)]) e rfl⟩
 obtain⟨d0,od0,eb0⟩:=bent cell
 have e7:(dT1 kLst (za2 (dT1 (zd3 zg8) (za2 (dVar 5) (za2 (dVar 4) (za2 (dVar 3) dNil)))) dNil)) t6=some (.nw [d0]):=(zw2 ((t3_of (rfl:dVar 5 t6=some (.cl PD)) (rfl:dVar 4 t6=some (.cl (.int most))) (rfl:dVar 3 t6=some (.cl (.int cell)))).trans eb0)).trans rfl
 have E7:=zu3 (i:=9) (t:=t6) e7 (by simp [t6])
 obtain⟨t8,e8,Bs,v10,bl,ob,rfl⟩:=zbe9 (k:=za5 10) (b:=bdJ) (n:=3) (f:=fun j=>D.int (j:Int)) (P:=fun j t => ∃(Bs:List D) (v10:Sl),Bs.length=1+j∧(∀d∈Bs,okPp d)∧t=[N,W,S2,S3,S4,S5,S6,S7,S8,.own Bs,v10]) (fun j hj t ⟨Bs,v10,bl,ob,et⟩=>by
  subst et
  let t1:Th:=[N,W,S2,S3,S4,S5,S6,S7,S8,.own Bs,.val (.int (j:Int))]
  obtain⟨mx,_,_,em⟩:=zq6 (r1:=.cl (.int cell)) (r2:=.cl (.int (900+(j:Int)))) cell (k:=900+(j:Int)) (by lia) (by lia) rfl rfl
  have e1:=(zl8 (rfl:dVar 3 t1=some (.cl (.int cell))) (zg7 (fa:=dC (.int 900)) (fb:=dVar 10) (t:=t1) (a:=900) (b:=(j:Int)) rfl rfl)).trans em
  obtain⟨d,od,eb⟩:=bent mx
  have A:=app_of t1 (i:=9) ((t3_of (rfl:dVar 5 t1=some (.cl PD)) (rfl:dVar 4 t1=some (.cl (.int most))) e1).trans eb) rfl (by lia)
  refine⟨t1,_,rfl,A,Bs++[d],_,by simp [bl];lia,fun e he=>?_,rfl⟩
  rcases zbk1.mp he with z | z
  ·exact ob e z
  ·rw [zbm2.mp z];exact od) [N,W,S2,S3,S4,S5,S6,S7,S8,.own [d0],.no] ⟨[d0],_,rfl,fun e he=>by rw [zbm2.mp he];exact od0,rfl⟩
 have E8:=zu7 (k0:=za5 10) (b:=bdJ) (t:=[N,W,S2,S3,S4,S5,S6,S7,S8,.own [d0],.no]) (n:=3) (f:=dC (.int 3)) (r:=.cl (.int ((3:Nat):Int))) rfl rfl (by decide)
 rw [show (zd1 3).map D.int=(zbo3 3).map fun (j:Nat)=>D.int (j:Int) by unfold zd1;simp,e8]at E8
 let t9:Th:=[N,W,S2,S3,S4,S5,.val (.lst (en.map D.int)),.val (.lst (ha.map D.int)),S8,.val (.lst Bs),v10]
 let L6:List D:=[PD,FD,.tup [.lst (en.map D.int),.lst (ha.map D.int)],.tup [.lst ((zd1 M).map D.int),.lst (p.map D.int)],.tup [.lst (c.map D.int),.lst (ha.map D.int)],.tup [.lst [],.lst []]]
 have lr:=lr_of (f:=d2 kIx (dVar 1) (dC (.int 0))) (t:=t9) (n:=M) rfl (by lia)
 have tu4:(dT1 kTup (za2 (zv8 (za2 (d2 kIx (dVar 1) (dC (.int 0))) dNil)) (za2 (d2 kIx (dVar 5) (dC (.int 1))) dNil))) t9=some (.cl (.tup [.lst ((zd1 M).map D.int),.lst (p.map D.int)])):=(zl8 lr (rfl:(d2 kIx (dVar 5) (dC (.int 1))) t9=some (.cl (.lst (p.map D.int))))).trans rfl
 have e9:(dT1 kLst (za2 (dVar 5) (za2 (dVar 8) (za2 (dT1 kTup (za2 (dVar 6) (za2 (dVar 7) dNil))) (za2 (dT1 kTup (za2 (zv8 (za2 (d2 kIx (dVar 1) (dC (.int 0))) dNil)) (za2 (d2 kIx (dVar 5) (dC (.int 1))) dNil))) (za2 (dT1 kTup (za2 (d2 kIx (dVar 5) (dC (.int 0))) (za2 (dVar 7) dNil))) (za2 (dT1 kTup (za2 (dT1 kLst dNil) (za2 (dT1 kLst dNil) dNil))) dNil))))))) t9=some (.nw L6) :=
  (tk1 (cns (rfl:dVar 5 t9=some (.cl PD)) (cns (rfl:dVar 8 t9=some (.cl FD)) (cns (rfl:(dT1 kTup (za2 (dVar 6) (za2 (dVar 7) dNil))) t9=some (.cl (.tup [.lst (en.map D.int),.lst (ha.map D.int)]))) (cns tu4 (cns (rfl:(dT1 kTup (za2 (d2 kIx (dVar 5) (dC (.int 0))) (za2 (dVar 7) dNil))) t9=some (.cl (.tup [.lst (c.map D.int),.lst (ha.map D.int)]))) (cns (rfl:(dT1 kTup (za2 (dT1 kLst dNil) (za2 (dT1 kLst dNil) dNil))) t9=some (.cl (.tup [.lst [],.lst []]))) rfl))))))).trans rfl
 have e10:(d2 qA (dT1 kLst (za2 (dVar 5) (za2 (dVar 8) (za2 (dT1 kTup (za2 (dVar 6) (za2 (dVar 7) dNil))) (za2 (dT1 kTup (za2 (zv8 (za2 (d2 kIx (dVar 1) (dC (.int 0))) dNil)) (za2 (d2 kIx (dVar 5) (dC (.int 1))) dNil))) (za2 (dT1 kTup (za2 (d2 kIx (dVar 5) (dC (.int 0))) (za2 (dVar 7) dNil))) (za2 (dT1 kTup (za2 (dT1 kLst dNil) (za2 (dT1 kLst dNil) dNil))) dNil))))))) (dVar 9)) t9=some (.nw (L6++Bs)):=by
  rw [zg2 e9 (rfl:dVar 9 t9=some (.cl (.lst Bs)))]
  show kCat (.nw L6) (.cl (.lst Bs))=_
  unfold kCat
  simp only [Ev.d,Ev.ok,zby5,zbu4]
  rw [if_pos (decide_eq_true (by show 6+Bs.length≤100000;lia))]
 have cx:c.length≤1000:=by lia
 have enB:nB (B1+1) en:=fun x hx=>by have:=enm x hx;show -(10000000000000000000000000000000+1)≤x∧x≤10000000000000000000000000000000+1;lia
 have naB:nB (B1+1) (zd1 M):=fun x hx=>by have:=zt1 hx;show -(10000000000000000000000000000000+1)≤x∧x≤10000000000000000000000000000000+1;lia
 have hal:ha.length≤1000:=by show (us.map hv).length≤1000;simp;lia
 refine⟨L6++Bs,fun d hd=>?_,?_⟩
 ·rcases zbk1.mp hd with z | z
  ·simp only [L6,zbk5,zbp0,or_false]at z
   rcases z with rfl | rfl | rfl | rfl | rfl | rfl
   ·exact⟨c,p,cx,by lia,zr4 cB (by decide),zr4 pB (by decide),rfl⟩
   ·exact⟨fx,fy,by lia,by lia,zr4 fxb (by decide),zr4 fyb (by decide),rfl⟩
   ·exact⟨en,ha,by lia,hal,enB,zr4 hab (by decide),rfl⟩
   ·exact⟨zd1 M,p,by rw [zm0];lia,by lia,naB,zr4 pB (by decide),rfl⟩
   ·exact⟨c,ha,cx,hal,zr4 cB (by decide),zr4 hab (by decide),rfl⟩
   ·exact⟨[],[],by simp,by simp,(fun x hx=>nomatch hx),(fun x hx=>nomatch hx),rfl⟩
  ·exact ob d z
 ·show (zl4 t0).bind zj2=_
  unfold zl4
  have E9:(dFrz 9 (dFrz 7 (dFrz 6 (dRet reJ)))) [N,W,S2,S3,S4,S5,S6,S7,S8,.own Bs,v10]=some (.rt (.nw (L6++Bs))):=zn6 (t:=t9) (f:=reJ) e10
  exact bnd ((za8 E1).trans ((za8 E2).trans ((za8 E3).trans ((za8 E4).trans ((za8 E5).trans ((za8 E6).trans ((za8 E7).trans ((za8 E8).trans E9))))))))
theorem eqOk_t2 {n:Nat}{a b:D} (h1:eqOk n a a=true) (h2:eqOk n b b=true):eqOk (n+1) (.tup [a,b]) (.tup [a,b])=true:=by
 simp only [eqOk,zbt4,zcd6,zbo7,List.all_nil,h1,h2,zbx2]
 try rfl
theorem eqOk_t4 {n:Nat}{a b c d:D} (h1:eqOk n a a=true) (h2:eqOk n b b=true) (h3:eqOk n c c=true) (h4:eqOk n d d=true):eqOk (n+1) (.tup [a,b,c,d]) (.tup [a,b,c,d])=true:=by
 simp only [eqOk,zbt4,zcd6,zbo7,List.all_nil,h1,h2,h3,h4,zbx2]
 try rfl
theorem ne_same {r1 r2:Ev}{d:D} (h:eqOk 6 d d=true) (h1:r1.d=d) (h2:r2.d=d):kNe r1 r2=some (.cl (.bl false)):=by
 unfold kNe
 rw [h1,h2,if_pos h,eqD_refl]
 rfl
theorem zat7 {f:DE}{t:Th} (h:f t=some (.cl (.bl false))):dBo f t=some false:=by unfold dBo;rw [h];rfl
theorem turn_L (N s5 s6:Sl) {M:Nat}{us:List (Nat×Nat)}{ws cs ps:List Int} (hM:M≤900) (hw:ws.length=M) (cl:cs.length≤1000) (hl:ps.length≤1000) (ul:us.length≤400) (hb:bdP ps) (hu:∀u∈us,u.1<u.2∧u.2<M):∃v5 v6,bdL [N,.val (.tup [.int (M:Int),.lst (us.map tD)]),.val (.lst (ws.map D.int)),.val (.lst (cs.map D.int)),.val (.lst (ps.map D.int)),s5,s6]=some (.nx [N,.val (.tup [.int (M:Int),.lst (us.map tD)]),.val (.lst (ws.map D.int)),.val (.lst (cs.map D.int)),.val (.lst (ps.map D.int)),v5,v6]):=by
 let WD:D:=.tup [.int (M:Int),.lst (us.map tD)]
 let W:Sl:=.val WD
 let S2:Sl:=.val (.lst (ws.map D.int))
 let S3:Sl:=.val (.lst (cs.map D.int))
 let S4:Sl:=.val (.lst (ps.map D.int))
 let t:Th:=[N,W,S2,S3,S4,s5,s6]
 let HD:D:=.tup [WD,.lst (ws.map D.int),.lst (cs.map D.int),.lst (ps.map D.int)]
 have e0:(dT1 kTup (za2 (d2 kIx (dVar 1) (dC (.int 0))) (za2 (dT1 zn4 (za2 (d2 kIx (dVar 1) (dC (.int 1))) dNil)) dNil))) t=some (.cl WD):=by
  have l:(dT1 zn4 (za2 (d2 kIx (dVar 1) (dC (.int 1))) dNil)) t=some (.nw (us.map tD)):=by
   rw [tD_pD]
   exact list_pD (r:=.cl (.lst (us.map tD))) rfl (by rw [tD_pD];rfl)
  exact (zl8 (rfl:(d2 kIx (dVar 1) (dC (.int 0))) t=some (.cl (.int (M:Int)))) l).trans rfl
 have l2:=zv1 (f:=dVar 2) (t:=t) (r:=.cl (.lst (ws.map D.int))) (xs:=ws) rfl rfl
 have l3:=zv1 (f:=dVar 3) (t:=t) (r:=.cl (.lst (cs.map D.int))) (xs:=cs) rfl rfl
 have l4:=zv1 (f:=dVar 4) (t:=t) (r:=.cl (.lst (ps.map D.int))) (xs:=ps) rfl rfl
 have E1:=ze1 (i:=5) (d:=HD) ((zau5 (k:=kTup) e0 l2 l3 l4).trans rfl) (by simp [t])
 let S5:Sl:=.val HD
 let t1:Th:=[N,W,S2,S3,S4,S5,s6]
 have E2:=ze1 (i:=6) (t:=t1) ((zau5 (rfl:(d2 kIx (dVar 5) (dC (.int 0))) t1=some (.cl WD)) (rfl:(d2 kIx (dVar 5) (dC (.int 1))) t1=some (.cl (.lst (ws.map D.int)))) (rfl:(d2 kIx (dVar 5) (dC (.int 2))) t1=some (.cl (.lst (cs.map D.int)))) (rfl:(d2 kIx (dVar 5) (dC (.int 3))) t1=some (.cl (.lst (ps.map D.int))))).trans (zbh6 (G:=zi4) (rs:=[.cl WD,.cl (.lst (ws.map D.int)),.cl (.lst (cs.map D.int)),.cl (.lst (ps.map D.int))]) (lets_is (M:=M) hM hw cl hl ul hb))) (by simp [t1])
 let b:=lcB M us ws cs ps
 let S6:Sl:=.val (.bl b)
 let t2:Th:=[N,W,S2,S3,S4,S5,S6]
 have c2:=(zau5 (rfl:dVar 1 t2=some (.cl WD)) (rfl:dVar 2 t2=some (.cl (.lst (ws.map D.int)))) (rfl:dVar 3 t2=some (.cl (.lst (cs.map D.int)))) (rfl:dVar 4 t2=some (.cl (.lst (ps.map D.int))))).trans (zbh6 (G:=zj6) (rs:=[.cl WD,.cl (.lst (ws.map D.int)),.cl (.lst (cs.map D.int)),.cl (.lst (ps.map D.int))]) (llets_is (M:=M) hM hw cl hl ul hb hu))
 have nb:∀b:Bool,kNe (.cl (.bl b)) (.cl (.bl b))=some (.cl (.bl false)):=by
  intro b
  cases b<;>rfl
 have c3:dBo (d2 kNe (dVar 6) (dT1 (zd3 zj6) (za2 (dVar 1) (za2 (dVar 2) (za2 (dVar 3) (za2 (dVar 4) dNil)))))) t2=some false:=zat7 ((zg2 (rfl:dVar 6 t2=some (.cl (.bl b))) c2).trans (nb b))
 have E3:=grd (g:=dRet (dC (.bl false))) (zah6 (rfl:(dNot (dTr (dIsi "bool" (dVar 6)))) t2=some false) c3) rfl
 have e4:(dT1 kTup (za2 (dVar 1) (za2 (dVar 2) (za2 (dVar 3) (za2 (dVar 4) dNil))))) t2=some (.cl HD):=(zau5 (rfl:dVar 1 t2=some (.cl WD)) (rfl:dVar 2 t2=some (.cl (.lst (ws.map D.int)))) (rfl:dVar 3 t2=some (.cl (.lst (cs.map D.int)))) (rfl:dVar 4 t2=some (.cl (.lst (ps.map D.int))))).trans rfl
 have ok:eqOk 6 HD HD=true:=eqOk_t4 (n:=5) (eqOk_t2 (n:=4) rfl (by rw [tD_pD];exact zbf2 2 _)) (zu0 4 ws) (zu0 4 cs) (zu0 4 ps)
 have E4:=grd (g:=dRet (dC (.bl false))) (zat7 ((zg2 (rfl:dVar 5 t2=some (.cl HD)) e4).trans (ne_same ok rfl rfl))) rfl
 exact⟨S5,S6,(za8 E1).trans ((za8 E2).trans ((za8 E3).trans E4))⟩
theorem law_true (ns:List Int) (hl:ns.length≤63) (hb:∀n∈ns,n.natAbs<bndS):G_law [.lst (ns.map D.int)]=some (.cl (.bl true)):=by
 let N:Sl:=.val (.lst (ns.map D.int))
 obtain⟨M,us,M0,M60,ul,hu,ew⟩:=web_is ns hl hb (most:=60) (by decide) (by decide)
 let WD:D:=.tup [.int (M:Int),.lst (us.map tD)]
 let W:Sl:=.val WD
 let t0:Th:=[N,.no,.no,.no,.no,.no,.no]
 have e1:(dT1 (zd3 zm5) (za2 (dVar 0) (za2 (dC (.int 60)) dNil))) t0=some (.cl WD):=by
  rw [zl8 (rfl:dVar 0 t0=some (.cl (.lst (ns.map D.int)))) (rfl:dC (.int 60) t0=some (.cl (.int 60)))]
  unfold zd3
  rw [show zm5 ([Ev.cl (.lst (ns.map D.int)),.cl (.int 60)].map Ev.d)=_ from ew]
  rfl
 have E1:=ze1 (i:=1) e1 (by simp [t0])
 let t1:Th:=[N,W,.no,.no,.no,.no,.no]
 obtain⟨ws,wl,wb,eW⟩:=zau1 ns hb (M:=M) (by lia)
 have E2:=zu3 (i:=2) (t:=t1) ((zl8 (rfl:dVar 0 t1=some (.cl (.lst (ns.map D.int)))) (rfl:(d2 kIx (dVar 1) (dC (.int 0))) t1=some (.cl (.int (M:Int))))).trans (calln (G:=zh3) (rs:=[.cl (.lst (ns.map D.int)),.cl (.int (M:Int))]) eW)) (by simp [t1])
 let S2:Sl:=.val (.lst (ws.map D.int))
 let t2:Th:=[N,W,S2,.no,.no,.no,.no]
 obtain⟨L,oL,eP⟩:=zbc1 ns hb (M:=M) (us:=us) (ws:=ws) M0 M60 wl wb ul hu
 have e3:(dT1 (zd3 zf3) (za2 (dVar 0) (za2 (dVar 1) (za2 (dVar 2) dNil)))) t2=some (.nw L):=by
  rw [t3_of (rfl:dVar 0 t2=some (.cl (.lst (ns.map D.int)))) (rfl:dVar 1 t2=some (.cl WD)) (rfl:dVar 2 t2=some (.cl (.lst (ws.map D.int))))]
  unfold zd3
  rw [show zf3 ([Ev.cl (.lst (ns.map D.int)),.cl WD,.cl (.lst (ws.map D.int))].map Ev.d)=_ from eP]
  rfl
 obtain⟨t',e4,v3,v4,v5,v6,rfl⟩:=for_P (k:=zg1 2 (zb3 (za5 3) (zb3 (za5 4) zg5))) (b:=bdL) (P:=fun t => ∃v3 v4 v5 v6,t=[N,W,S2,v3,v4,v5,v6]) L (fun d hd t ⟨v3,v4,v5,v6,et⟩=>by
  subst et
  obtain⟨cs,ps,h1,h2,h3,h4,rfl⟩:=oL d hd
  obtain⟨w5,w6,e⟩:=turn_L N v5 v6 (M:=M) (us:=us) (ws:=ws) (cs:=cs) (ps:=ps) (by lia) wl h1 h2 ul (fun x hx=>by
   have h4 : -(10000000000000000000000000000000+1)≤x∧x≤10000000000000000000000000000000+1:=h4 x hx
   lia) hu
  exact⟨_,_,rfl,e,_,_,w5,w6,rfl⟩) t2 ⟨.no,.no,.no,.no,rfl⟩
 have E3:dFrz 2 (dFor (zg1 2 (zb3 (za5 3) (zb3 (za5 4) zg5))) (dT1 (zd3 zf3) (za2 (dVar 0) (za2 (dVar 1) (za2 (dVar 2) dNil)))) bdL) [N,W,.own (ws.map D.int),.no,.no,.no,.no]=some (.nx [N,W,S2,v3,v4,v5,v6]):=(zas5 (t:=t2) e3 rfl rfl).trans e4
 show (g_law t0).bind zj2=_
 unfold g_law
 exact bnd ((za8 E1).trans ((za8 E2).trans ((za8 E3).trans rfl)))
end KX
set_option maxHeartbeats 4000000
namespace KX
open PySem.Spec L2 DL
noncomputable def spLaw (K:zbj6):Sp:=spD K G_law
theorem all_mk {P:Program}{w:World}{K:zbj6}{h:Heap}{mg:Str→Option Value}{fa:Addr} (X:K.In h) (G:h.Ns mainGlobals mg) (hfa:mg "law"=some (.ref fa)) {f0:Addr}{f1:Addr}{f2:Addr}{f3:Addr}{f4:Addr}{f5:Addr}{f6:Addr}{f7:Addr}{f8:Addr}{f9:Addr}{f10:Addr}{f11:Addr}{f12:Addr}{f13:Addr}{f14:Addr}{f15:Addr}{f16:Addr}
  (h0:Hv K "ties_of" zs4 f0)
  (h1:Hv K "rise_below" zk7 f1)
  (h2:Hv K "is_cover" zp5 f2)
  (h3:Hv K "are_payable" zj1 f3)
  (h4:Hv K "lets_cover" zk8 f4)
  (h5:Hv K "_law_cell_at" zj0 f5)
  (h6:Hv K "_law_mixed" zm9 f6)
  (h7:Hv K "_law_put" zs6 f7)
  (h8:Hv K "_law_ties" zp0 f8)
  (h9:Hv K "_law_web" zs5 f9)
  (h10:Hv K "_law_weights" zi9 f10)
  (h11:Hv K "_law_rule" zp1 f11)
  (h12:Hv K "_law_lets" zp2 f12)
  (h13:Hv K "_law_bent" zp4 f13)
  (h14:Hv K "_law_free" zp3 f14)
  (h15:Hv K "_law_papers" zk9 f15)
  (h16:Hv K "law" s_law f16)
  (z_all:zbp9 K mainGlobals "all"=some none) (z_any:zbp9 K mainGlobals "any"=some none) (z_bool:zbp9 K mainGlobals "bool"=some none) (z_enumerate:zbp9 K mainGlobals "enumerate"=some none) (z_int:zbp9 K mainGlobals "int"=some none) (z_isinstance:zbp9 K mainGlobals "isinstance"=some none) (z_len:zbp9 K mainGlobals "len"=some none) (z_list:zbp9 K mainGlobals "list"=some none) (z_max:zbp9 K mainGlobals "max"=some none) (z_min:zbp9 K mainGlobals "min"=some none) (z_range:zbp9 K mainGlobals "range"=some none) (z_set:zbp9 K mainGlobals "set"=some none) (z_sorted:zbp9 K mainGlobals "sorted"=some none) (z_sum:zbp9 K mainGlobals "sum"=some none) (z_zip:zbp9 K mainGlobals "zip"=some none)   :
  TbOk K []∧∃fd:FuncData,(∀(s:zbk8) (v:Value),BindsTo s fd ⟨[v],[]⟩ [("_law_script",v)])∧∀base:BHeap,base.tabs=tbOf K []→K.In base→base.Ns mainGlobals mg→(∀x∈([]:List Str),∀c P,zcj3 K x=some (c,P)→zch4 base c P)→FnOk P w K mg base CX0 4 fa fd ["_law_script"] (spLaw K):=by
 have e:=hfa.symm.trans (h16.mg X G)
 cases e
 have bu:Blt mg:=⟨zbn4 X G z_all,zbn4 X G z_any,zbn4 X G z_bool,zbn4 X G z_enumerate,zbn4 X G z_int,zbn4 X G z_isinstance,zbn4 X G z_len,zbn4 X G z_list,zbn4 X G z_max,zbn4 X G z_min,zbn4 X G z_range,zbn4 X G z_set,zbn4 X G z_sorted,zbn4 X G z_sum,zbn4 X G z_zip⟩
 obtain⟨_,u0⟩:=h0.fn
 have d0:Df K mg "ties_of" zs4 ["web", "point"] f0 _:=⟨u0,h0.mg X G,zu2 u0 fun _ _ _ _ _ _ _ _=>rfl⟩
 obtain⟨_,u1⟩:=h1.fn
 have d1:Df K mg "rise_below" zk7 ["numbers", "many"] f1 _:=⟨u1,h1.mg X G,zu2 u1 fun _ _ _ _ _ _ _ _=>rfl⟩
 obtain⟨_,u2⟩:=h2.fn
 have d2:Df K mg "is_cover" zp5 ["web", "points"] f2 _:=⟨u2,h2.mg X G,zu2 u2 fun _ _ _ _ _ _ _ _=>rfl⟩
 obtain⟨_,u3⟩:=h3.fn
 have d3:Df K mg "are_payable" zj1 ["web", "weights", "prices"] f3 _:=⟨u3,h3.mg X G,zat9 u3 fun _ _ _ _ _ _ _ _ _=>rfl⟩
 obtain⟨_,u4⟩:=h4.fn
 have d4:Df K mg "lets_cover" zk8 ["web", "weights", "cover", "prices"] f4 _:=⟨u4,h4.mg X G,zbi5 u4 fun _ _ _ _ _ _ _ _ _ _=>rfl⟩
 obtain⟨_,u5⟩:=h5.fn
 have d5:Df K mg "_law_cell_at" zj0 ["_law_script", "_law_k"] f5 _:=⟨u5,h5.mg X G,zu2 u5 fun _ _ _ _ _ _ _ _=>rfl⟩
 obtain⟨_,u6⟩:=h6.fn
 have d6:Df K mg "_law_mixed" zm9 ["_law_cell", "_law_k"] f6 _:=⟨u6,h6.mg X G,zu2 u6 fun _ _ _ _ _ _ _ _=>rfl⟩
 obtain⟨_,u7⟩:=h7.fn
 have d7:Df K mg "_law_put" zs6 ["_law_found", "_law_many", "_law_number"] f7 _:=⟨u7,h7.mg X G,zat9 u7 fun _ _ _ _ _ _ _ _ _=>rfl⟩
 obtain⟨_,u8⟩:=h8.fn
 have d8:Df K mg "_law_ties" zp0 ["_law_script", "_law_many"] f8 _:=⟨u8,h8.mg X G,zu2 u8 fun _ _ _ _ _ _ _ _=>rfl⟩
 obtain⟨_,u9⟩:=h9.fn
 have d9:Df K mg "_law_web" zs5 ["_law_script", "_law_most"] f9 _:=⟨u9,h9.mg X G,zu2 u9 fun _ _ _ _ _ _ _ _=>rfl⟩
 obtain⟨_,u10⟩:=h10.fn
 have d10:Df K mg "_law_weights" zi9 ["_law_script", "_law_many"] f10 _:=⟨u10,h10.mg X G,zu2 u10 fun _ _ _ _ _ _ _ _=>rfl⟩
 obtain⟨_,u11⟩:=h11.fn
 have d11:Df K mg "_law_rule" zp1 ["_law_web_here", "_law_weights_here"] f11 _:=⟨u11,h11.mg X G,zu2 u11 fun _ _ _ _ _ _ _ _=>rfl⟩
 obtain⟨_,u12⟩:=h12.fn
 have d12:Df K mg "_law_lets" zp2 ["_law_web_here", "_law_weights_here", "_law_chosen", "_law_prices"] f12 _:=⟨u12,h12.mg X G,zbi5 u12 fun _ _ _ _ _ _ _ _ _ _=>rfl⟩
 obtain⟨_,u13⟩:=h13.fn
 have d13:Df K mg "_law_bent" zp4 ["_law_paper", "_law_most", "_law_cell"] f13 _:=⟨u13,h13.mg X G,zat9 u13 fun _ _ _ _ _ _ _ _ _=>rfl⟩
 obtain⟨_,u14⟩:=h14.fn
 have d14:Df K mg "_law_free" zp3 ["_law_cell", "_law_many", "_law_ties_here", "_law_most"] f14 _:=⟨u14,h14.mg X G,zbi5 u14 fun _ _ _ _ _ _ _ _ _ _=>rfl⟩
 obtain⟨_,u15⟩:=h15.fn
 have d15:Df K mg "_law_papers" zk9 ["_law_script", "_law_web_here", "_law_weights_here"] f15 _:=⟨u15,h15.mg X G,zat9 u15 fun _ _ _ _ _ _ _ _ _=>rfl⟩
 obtain⟨_,u16⟩:=h16.fn
 have d16:Df K mg "law" s_law ["_law_script"] fa _:=⟨u16,h16.mg X G,binds1 u16 fun _ _ _ _ _ _ _=>rfl⟩
 refine⟨tbOk_nil,_,Hv.bt u16 fun _ _ _ _ _ _ _=>rfl,fun base ht _ _ hCd=>?_⟩
 have F_ties_of:=zav8 (P:=P) (w:=w) (base:=base) d0.fn bu
 have F_rise_below:=zad8 (P:=P) (w:=w) (base:=base) d1.fn bu
 have F_is_cover:=zan2 (P:=P) (w:=w) (base:=base) d2.fn bu (d1.cal F_rise_below)
 have F_are_payable:=zaa5 (P:=P) (w:=w) (base:=base) d3.fn bu (d0.cal F_ties_of)
 have F_lets_cover:=zad9 (P:=P) (w:=w) (base:=base) d4.fn bu (d2.cal F_is_cover) (d3.cal F_are_payable)
 have F_law_cell_at:=zaa4 (P:=P) (w:=w) (base:=base) d5.fn bu
 have F_law_mixed:=zah9 (P:=P) (w:=w) (base:=base) d6.fn bu
 have F_law_put:=zaw0 (P:=P) (w:=w) (base:=base) d7.fn bu
 have F_law_ties:=zam7 (P:=P) (w:=w) (base:=base) d8.fn bu (d5.cal F_law_cell_at) (d6.cal F_law_mixed) (d7.calP F_law_put)
 have F_law_web:=zav9 (P:=P) (w:=w) (base:=base) d9.fn bu (d5.cal F_law_cell_at) (d8.cal F_law_ties)
 have F_law_weights:=zaa3 (P:=P) (w:=w) (base:=base) d10.fn bu (d5.cal F_law_cell_at) (d6.cal F_law_mixed)
 have F_law_rule:=zam8 (P:=P) (w:=w) (base:=base) d11.fn bu
 have F_law_lets:=zam9 (P:=P) (w:=w) (base:=base) d12.fn bu
 have F_law_bent:=zan1 (P:=P) (w:=w) (base:=base) d13.fn bu
 have F_law_free:=zan0 (P:=P) (w:=w) (base:=base) d14.fn bu
 have F_law_papers:=zae0 (P:=P) (w:=w) (base:=base) d15.fn bu (d5.cal F_law_cell_at) (d11.cal F_law_rule) (d14.cal F_law_free) (d13.cal F_law_bent) (d6.cal F_law_mixed)
 have F_law:=ok_law (P:=P) (w:=w) (base:=base) d16.fn bu (d9.cal F_law_web) (d10.cal F_law_weights) (d15.cal F_law_papers) (d4.cal F_lets_cover) (d12.cal F_law_lets)
 exact F_law
theorem walk {l:zce9}{q:Program}{loose:List Str}{XP:(Str→Option Value)→Heap→Prop}{YP:World→Heap→Prop}{d:DefRec}{K:Params→zbj6} (hn:l.most=some 63) (hdf:d.params.defaults=[])
  (hY:∀(w:World) (h:Heap),YP w h→(K w.params).In h) (hrec:∀x∈([]:List Str),∃dr,(recsOf q).find? (fun e=>e.name == x)=some dr)
  (Fx:∀(w:World) (mg:Str→Option Value) (fa:Addr) (h:Heap),(K w.params).In h→h.Ns mainGlobals mg→mg d.name=some (.ref fa) →
   TbOk (K w.params) []∧∃fd:FuncData,(∀(s:zbk8) (u:Value),BindsTo s fd ⟨[u],[]⟩ [("_law_script",u)])∧∀base:BHeap,base.tabs=tbOf (K w.params) []→(K w.params).In base→base.Ns mainGlobals mg→(∀x∈([]:List Str),∀c P,zcj3 (K w.params) x=some (c,P)→zch4 base c P)→FnOk l.prog w (K w.params) mg base CX0 4 fa fd ["_law_script"] (spLaw (K w.params))) :
  zci5 q loose XP YP l.row.toRowW d [] (fun f vs=>PySem.call f vs) :=
 L2.walk_ofT (n:=63) (k:=4) (x := "_law_script") (names:=[]) (CX:=fun _=>CX0) (sp:=fun w=>spLaw (K w.params)) hn (by decide) hdf ⟨rfl,by decide,by decide⟩ hY hrec Fx
  (fun _ H a ns hl hb hS=>⟨[],[.lst (ns.map .int)],.cl (.bl true),fun p hp=>(by cases hp),.cons (.lst (by rw [hide_nil];exact hS) (Reps.ints ns)) .nil,law_true ns hl hb,fun v H' _ q=>by cases q;rfl⟩) fun _ _ _ _ _ z=>z
end KX
open PySem PySem.W PyProof.Rows
set_option maxRecDepth 100000 in
set_option maxHeartbeats 0 in
theorem PySem.Challenge.cw_nearenough_k07_papers_of_covers_holds : PySem.Challenge.rw_nearenough_k07_papers_of_covers.Holds := by
 w_on;o_law;k_head;(case hw=>w_witness2)
 k_fill
 refine KX.walk (l:=PySem.Challenge.rw_nearenough_k07_papers_of_covers) rfl rfl (fun w h Y=>by first | exact PySem.W.kIn_of Y | exact PySem.W.km_in_of Y) (by intro x hx;simp at hx) ?F
 case F =>
  intro w mg fa h KI G hmg
  refine' KX.all_mk KI G hmg ?h0 ?h1 ?h2 ?h3 ?h4 ?h5 ?h6 ?h7 ?h8 ?h9 ?h10 ?h11 ?h12 ?h13 ?h14 ?h15 ?h16 ?z_all ?z_any ?z_bool ?z_enumerate ?z_int ?z_isinstance ?z_len ?z_list ?z_max ?z_min ?z_range ?z_set ?z_sorted ?z_sum ?z_zip
  all_goals try (refine' DL.Hv.mk ?a ?l ?c ?k;(case a=>k_is);(case l=>k_is);(case c=>k_is);(case k=>k_is))
  all_goals k_is

