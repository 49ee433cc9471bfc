import PyProof.Rows.All
import Wide.All
import OpenK.AllK
import Wide.FinOn
import PyProof.EqAt
import PyProof.EqKinds
import PyProof.NeKinds
import PyProof.TupleCall
import PyProof.EnumFor
import PyProof.EnumMake
import PyProof.CompFree
import PyProof.Rows.SumAny
import PyProof.Rows.Range3
import PyProof.CompUse
import KE.LcSums
import PyProof.ListRange
import PyProof.Rows.MinMaxN
import KE.KIntText
import PyProof.StrCalls2
import PyProof.StrBlockH
import PyProof.Rows.ZipForRows
import PyProof.Rows.SortRev
import KE.KRevSl
import KE.KMinKey
import PyProof.Rows.SetFrom
import PyProof.Rows.SeqMore2
import Lean
import PyProof.WalkInts
import KE.KLam
import KE.KNest
import PyProof.Rows.SortRuns
import KE.KSortKey
import PyProof.Conv_int_bool
import KE.KListMore
import PyProof.DictWalks
import KE.KSortTup
import KE.KDictList
import KE.KRevIter
import PyProof.SetKind
import PyProof.SetScanFacts
import PySem.Challenge.RW_nearenough_k20_looker_of_tours
noncomputable section
open Array renaming getElem?_eq_getElem→zbx9,getElem?_toList→zbz8,length_toList→zcb8
open PySem.F renaming plainAttrs_list→zbr3,plain_min_loop→zbr6,slot_list_append→zbw5,type_list_append→zbw6,entry_min_loop→zbx3,slot_list_remove→zby7,slot_list_pop→zbz9,type_list_pop→zca0
open Int renaming toNat_of_nonneg→zbq6,toNat_natCast→zbs8,le_trans→zbw7,le_refl→zbw8,fmod_eq_emod_of_nonneg→zbx5
open Nat renaming lt_of_lt_of_le→zbo7,le_refl→zbp4,ne_of_lt→zbp8,lt_succ_self→zbs1,le_trans→zbs6,lt_irrefl→zbt0,lt_succ_of_lt→zbu6,mod_lt→zbv6,ne_of_gt→zbw0,pow_le_pow_right→zbw1,le_of_lt→zby1,lt_trans→zby4,mul_le_mul→zby5,lt_or_ge→zby6,zero_le→zbz6,le_succ→zcc2,lt_of_le_of_lt→zcc4
open Bool renaming and_eq_true→zbo2,false_ne_true→zbp0,or_true→zbs2,eq_iff_iff→zbt4,and_true→zbv0,false_eq_true→zbv2,true_and→zbz3,or_eq_true→zcb0,true_or→zcb3
open PySem.Heap renaming get?_push_of_some→zbn8,lt_size→zbo6,get?_push_size→zbp5,get?_update_other→zbr0,size_push→zbu4,get?_update_self→zbz7
open PySem renaming wpAny_bind→zbn6,Shared→zbo3,starEach→zbo8,wpAny_pure→zbp3,backTo→zbu1
open Option renaming bind_some→zbn0,map_some→zbq3,getD_some→zbu0,isSome_some→zcc3,isSome_map→zcd1,getD_none→zcd8,bind→zcf7
open PySem.W renaming Frag→zbm7,mg_none_of→zbq0,nsIn→zbr8,keepIn→zbs0,fnOf→zbs7,kia_one→zbt6,findIn→zbw3,codeIn→zby2,methodObj→zby8,cellsFrom_some→zbz1,instObj→zca4,lookIn→zcb9,hasDictIn→zcc9,specialIn→zcd0,kitx_dict→zcd2,plainGet→zcd6,OpenLaw→zce8,CodeHd→zcg6,WalkO→zch5,tabIn→zch9
open List renaming mem_append_right→zbm6,mem_append_left→zbm8,mem_cons_of_mem→zbm9,mem_cons_self→zbn1,mem_append→zbn2,mem_singleton→zbn3,replicate→zbn4,mem_cons→zbn5,map_cons→zbn7,getElem?_eq_getElem→zbn9,length_map→zbo0,getD_eq_getElem?_getD→zbo1,size_toArray→zbo4,nodup_append→zbo5,nodup_cons→zbo9,drop_eq_getElem_cons→zbp1,range→zbp2,length_append→zbp6,getElem?_map→zbp7,length_cons→zbp9,getElem?_replicate→zbq1,lookup_cons→zbq2,mem_erase_of_ne→zbq4,all_cons→zbq5,mem_of_mem_erase→zbq7,mem_map→zbq8,replicate_succ→zbq9,length_replicate→zbr1,length_singleton→zbr2,append_nil→zbr4,getElem?_eq_some_iff→zbr5,nodup_nil→zbr7,length_eq_zero_iff→zbr9,length_erase_of_mem→zbs3,map_append→zbs4,zip_cons_cons→zbs5,count_append→zbs9,take_of_length_le→zbt1,drop_of_length_le→zbt2,length_pos_of_mem→zbt3,getElem?_append_right→zbt5,getElem?_eq_none→zbt7,getElem?_append_left→zbt8,all_eq_true→zbt9,eraseIdxIfInBounds_toArray→zbu2,getElem?_set_ne→zbu3,map_map→zbu5,length_reverse→zbu7,getElem?_set_self→zbu8,length_take→zbu9,range_succ_eq_map→zbv1,pairwise_cons→zbv3,count_pos_iff→zbv4,find?_cons→zbv5,reverse_cons→zbv7,flatten_cons→zbv8,append_assoc→zbv9,mem_range→zbw2,drop_length→zbw4,mem_filter→zbw9,length_set→zbx0,any_cons→zbx1,zipWith_cons_cons→zbx2,filterMap_cons→zbx4,mem_filterMap→zbx6,sublist_append_right→zbx7,getLast?_eq_getElem?→zbx8,count_eq_zero→zby0,map_nil→zby3,pairwise_map→zby9,getElem?_cons_succ→zbz0,sublist_cons_self→zbz2,getElem_mem→zbz4,sum_cons→zbz5,dropLast_eq_take→zca1,eq_nil_or_concat→zca2,concat_eq_append→zca3,of_mem_zip→zca5,foldl_cons→zca6,nil_append→zca7,length_nil→zca8,length_zip→zca9,count_cons→zcb1,mem_of_getElem?→zcb2,zipWith→zcb4,map_set→zcb5,perm_cons_erase→zcb6,nodup_iff_count→zcb7,map_congr_left→zcc0,length_pos_iff→zcc1,count_flatMap→zcc5,getLastD_cons→zcc6,map_replicate→zcc7,any_eq_false→zcc8,ext_getElem?→zcd3,getElem?_set→zcd4,flatMap_cons→zcd5,length_drop→zcd7,filter_cons→zcd9,map_fst_zip→zce0,map_snd_zip→zce1,ext_getElem→zce2,nodup_range→zce3,mem_flatMap→zce5,foldl→zch1
open PySem PyProof.Rows
set_option Elab.async false
set_option linter.all false
set_option maxRecDepth 100000
namespace L2
open PySem.Spec
noncomputable abbrev Key:=Sum Int Str
noncomputable def zba0:Key→Value→Bool
 |.inl k,v=>Value.isInt k v
 |.inr x,v=>Value.isStrOf x v
noncomputable def keyH (w:World):Key→Int
 |.inl k=>hashInt k
 |.inr x=>hashStr w x
theorem zf9:∀ {k:Key}{v:Value},zba0 k v=true→(∃i t,k=Sum.inl i∧v=Value.int i t)∨(∃x t,k=Sum.inr x∧v=Value.str x t)
 |.inl i,v,h=>by
  obtain⟨t,e⟩:=Value.isInt_shape (k:=i) (v:=v) h
  exact .inl ⟨i,t,rfl,e⟩
 |.inr x,v,h=>by
  obtain⟨t,e⟩:=Value.isStrOf_shape (x:=x) (v:=v) h
  exact .inr ⟨x,t,rfl,e⟩
theorem zbg8 (i:Int) (t:Tok):zba0 (.inl i) (.int i t)=true:=by simp [zba0,Value.isInt]
theorem zbg7 (x:Str) (t:Tok):zba0 (.inr x) (.str x t)=true:=by simp [zba0,Value.isStrOf]
theorem key_ll (a b:Int):decide ((Sum.inl a:Key)=Sum.inl b)=(a == b):=by
 by_cases e:a=b
 ·subst e;simp
 ·have h : ¬ (Sum.inl a:Key)=Sum.inl b:=fun q=>e (Sum.inl.inj q)
  rw [decide_eq_false h]
  exact (beq_eq_false_iff_ne.mpr e).symm
theorem key_rr (a b:Str):decide ((Sum.inr a:Key)=Sum.inr b)=decide (a=b):=by
 by_cases e:a=b
 ·subst e;simp
 ·have h : ¬ (Sum.inr a:Key)=Sum.inr b:=fun q=>e (Sum.inr.inj q)
  rw [decide_eq_false h,decide_eq_false e]
theorem key_lr (a:Int) (b:Str):decide ((Sum.inl a:Key)=Sum.inr b)=false:=decide_eq_false (fun q=>nomatch q)
theorem key_rl (a:Str) (b:Int):decide ((Sum.inr a:Key)=Sum.inl b)=false:=decide_eq_false (fun q=>nomatch q)
noncomputable def zh1 (prog:Program) (w:World):PySem.KeyKind prog w Key where
 is:=zba0
 hash:=keyH w
 inj:=fun v a b ha hb=>by
  rcases zf9 ha with ⟨i,t,rfl,rfl⟩ | ⟨x,t,rfl,rfl⟩
  ·rcases zf9 hb with ⟨j,u,rfl,e⟩ | ⟨y,u,rfl,e⟩
   ·injection e with e1 _;rw [e1]
   ·exact nomatch e
  ·rcases zf9 hb with ⟨j,u,rfl,e⟩ | ⟨y,u,rfl,e⟩
   ·exact nomatch e
   ·injection e with e1 _;rw [e1]
 byValue:=fun k v h=>by
  rcases zf9 h with ⟨i,t,rfl,rfl⟩ | ⟨x,t,rfl,rfl⟩<;>rfl
 pyHash:=fun hv h=>by
  rcases zf9 hv with ⟨i,t,rfl,rfl⟩ | ⟨x,t,rfl,rfl⟩
  ·exact wpAny_pyHash_int h
  ·exact wpAny_pyHash_str h
 eqBool:=fun hu hv h=>by
  rcases zf9 hu with ⟨i,t,rfl,rfl⟩ | ⟨x,t,rfl,rfl⟩
  ·rcases zf9 hv with ⟨j,u,rfl,rfl⟩ | ⟨y,u,rfl,rfl⟩
   ·rw [key_ll]at h;exact wpAny_eqBool_int h
   ·rw [key_lr]at h;exact SeqAt.EqAt.int_str i t y u _ _ _ _ h
  ·rcases zf9 hv with ⟨j,u,rfl,rfl⟩ | ⟨y,u,rfl,rfl⟩
   ·rw [key_rl]at h;exact SeqAt.EqAt.str_int x t j u _ _ _ _ h
   ·rw [key_rr]at h;exact wpAny_eqBool_str h
 «strs»:=fun k x t v h=>by
  rcases zf9 h with ⟨i,u,rfl,e⟩ | ⟨y,u,rfl,e⟩
  ·exact nomatch e
  ·injection e with e1 _
   subst e1
   cases v<;>rfl
theorem zar2 (prog:Program) (w:World) (i:Int) (t:Tok):(zh1 prog w).is (.inl i) (.int i t)=true:=zbg8 i t
theorem zar1 (prog:Program) (w:World) (x:Str) (t:Tok):(zh1 prog w).is (.inr x) (.str x t)=true:=zbg7 x t
inductive V where
 |non | bl (b:Bool) |int (i:Int) |str (x:Str) |byt (b:Array UInt8) |flt (b:UInt64) |ref (a:Addr) |ty (n:String)
 deriving DecidableEq
noncomputable def RelV:V→Value→Prop
 |.non,u=>u=Value.none
 |.bl b,u=>u=Value.bool b
 |.int i,u => ∃t,u=Value.int i t
 |.str x,u => ∃t,u=Value.str x t
 |.byt b,u => ∃t,u=Value.bytes b t
 |.flt b,u => ∃t,u=Value.float b t
 |.ref a,u=>u=Value.ref a
 |.ty n,u=>u=Value.type n
noncomputable abbrev Vals:List V→List Value→Prop:=Paired RelV
theorem Vals.length {xs:List V}{us:List Value} (r:Vals xs us):xs.length=us.length:=Paired.length r
theorem Vals.get:∀ {xs:List V}{us:List Value}{i:Nat}{x:V},Vals xs us→xs[i]?=some x→∃u,us[i]?=some u∧RelV x u
 |_,_,_,_,.nil,e=>by simp at e
 |_,_,0,_,.cons r _,e=>by simp at e;subst e;exact⟨_,rfl,r⟩
 |_,_,i+1,x,.cons _ t,e=>by
  obtain⟨u,h1,h2⟩:=Vals.get (i:=i) (x:=x) t (by simpa using e)
  exact⟨u,by simpa using h1,h2⟩
theorem Vals.set {x:V}{u:Value} (r:RelV x u):∀ {xs:List V}{us:List Value} (i:Nat),Vals xs us→Vals (xs.set i x) (us.set i u)
 |_,_,_,.nil=>.nil
 |_,_,0,.cons _ t=>.cons r t
 |_,_,i+1,.cons q t=>.cons q (Vals.set r i t)
theorem Vals.append:∀ {xs ys:List V}{us ws:List Value},Vals xs us→Vals ys ws→Vals (xs++ys) (us++ws)
 |_,_,_,_,.nil,s=>s
 |_,_,_,_,.cons r t,s=>.cons r (Vals.append t s)
theorem Vals.take:∀ {xs:List V}{us:List Value} (n:Nat),Vals xs us→Vals (xs.take n) (us.take n)
 |_,_,0,_=>.nil
 |_,_,_+1,.nil=>.nil
 |_,_,n+1,.cons r t=>.cons r (Vals.take n t)
theorem Vals.drop:∀ {xs:List V}{us:List Value} (n:Nat),Vals xs us→Vals (xs.drop n) (us.drop n)
 |_,_,0,r=>r
 |_,_,_+1,.nil=>.nil
 |_,_,n+1,.cons _ t=>Vals.drop n t
noncomputable def RelO:Option V→Option Value→Prop
 |some v,some u=>RelV v u
 |none,none=>True
 |_,_=>False
noncomputable def KV {κ:Type}:List (κ×V)→List (κ×Value)→Prop:=Paired fun (p:κ×V) (q:κ×Value)=>p.1=q.1∧RelV p.2 q.2
noncomputable def kV:Key→V
 |.inl i=>.int i
 |.inr x=>.str x
inductive HO where
 /-- a list -/
 |lst (xs:List V)
 /-- a tuple (never changes) -/
 |tup (xs:List V)
 /-- a dict whose keys are ints and texts;one whose keys are tuples of ints and texts (the empty one is both) -/
 |dK (kvs:List (Key×V)) |dT (kvs:List (List Key×V))
 /-- a set of ints: its members,its size -/
 |set (S:Int→Bool) (n:Nat)
 /-- an instance of the class at C,its dict at dx,its attributes -/
 |ins (C dx:Addr) (fs:List (Str×V))
 /-- the dict of the instance at x -/
 |own (x:Addr)
 /-- the dict of an exception -/
 |xd (fs:List (Str×V))
 /-- a bound method,f of x -/
 |met (f x:Addr)
 /-- a range object lo,lo+1,.. below hi -/
 |rng (lo hi:Int)
 /-- a thing that is known to the object (the script;a dict while a loop walks it): read,never written while it is so -/
 |frz (o:Obj) (u:HO)
 /-- a code object's table -/
 |tbl (q:Str)
 /-- any other thing,by what is true of its one object (a def of one's own: SetO a S n:=HO.ext fun h=>..) -/
 |ext (φ:Heap→Prop)
noncomputable abbrev Hp:=Addr→Option HO
noncomputable def upd (H:Hp) (a:Addr) (o:HO):Hp:=fun b=>if b=a then some o else H b
theorem zc1 {H:Hp}{a:Addr}{o:HO}:upd H a o a=some o:=by unfold upd;rw [if_pos rfl]
theorem zc8 {H:Hp}{a b:Addr}{o:HO} (h:b≠a):upd H a o b=H b:=by unfold upd;rw [if_neg h]
theorem ne_of {H:Hp}{a b:Addr}{o u:HO} (h:H a=some o) (h':H b=some u) (d:o≠u):a≠b:=by
 intro e;subst e;rw [h]at h';exact d (Option.some.inj h')
theorem zl7 {H:Hp}{a b:Addr}{o:HO} (h:H a=some o) (h':H b=none):a≠b:=by
 intro e;subst e;rw [h]at h';cases h'
section
variable (P:Program) (w:World)
noncomputable def ObjOk (H:Hp) (h:Heap) (a:Addr):HO→Prop
 |.lst xs=>xs.length≤sizeLine∧∃(its:List Value) (n:Nat),Vals xs its∧h.get? a=some { cls:=.type "list",data:=.seq its.toArray n }
 |.tup xs=>xs.length≤sizeLine∧∃its:List Value,Vals xs its∧IsTup h a its.toArray
 |.dK kvs=>kvs.length≤sizeLine∧(a == sysModules)=false∧∃vs,KV kvs vs∧h.DictOf (zh1 P w) a vs
 |.dT kvs=>kvs.length≤sizeLine∧(a == sysModules)=false∧∃xs:List (List Key×Addr×Value),
   Paired (fun (p:List Key×V) (q:List Key×Addr×Value)=>p.1=q.1∧H q.2.1=some (.tup (p.1.map kV))∧RelV p.2 q.2.2) kvs xs ∧
   ∃o es ep,h.get? a=some o∧o.ExactDict∧o.data=.dict es ep∧es.toList=xs.map (entryOfKey (tupleKind (zh1 P w)))∧(xs.map (·.1)).Nodup
 |.set S n=>h.SetOf (intKind P w) a S n
 |.ins C dx fs=>H dx=some (.own a)∧fs.length≤1000∧dx≠a∧h.get? a=some (zca4 C dx) ∧
   ∃mA,h.Ns1 dx mA∧(∀f,RelO (fs.lookup f) (mA f))∧PySem.Within mA (fs.map (·.1))
 |.own _ => ∃o,h.get? a=some o
 |.xd fs => ∃mA,h.Ns1 a mA∧∀f,RelO (fs.lookup f) (mA f)
 |.rng lo hi => ∃t u v,h.get? a=some { cls:=.type "range",data:=.fields #[.int lo t,.int hi u,.int 1 v] }
 |.frz o u=>h.get? a=some o∧ObjOk H h a u
 |.tbl q => ∃ps:Array Value,h.get? a=some { cls:=.none,data:=.fields ps }∧TriplesOk ps.toList∧∀pos cv,codeAmong pos ps.toList=some cv→∃(c:Addr) (oc:Obj) (vs:Array Value) (tk:Tok),cv=.ref c∧H c=some (.frz oc (.own 0))∧oc.data=.fields vs∧vs[1]?=some (.str q tk)
 |.met f x=>h.get? a=some (zby8 (.ref f) (.ref x))
 |.ext φ=>φ h∧(∃o,h.get? a=some o)∧∀h1 h2:Heap,φ h1→(∀o,h1.get? a=some o→h2.get? a=some o)→φ h2
noncomputable def HOk (H:Hp) (h:Heap):Prop := ∀a o,H a=some o→ObjOk P w H h a o
end
section
variable {P:Program}{w:World}{H H':Hp}{h h':Heap}{a:Addr}{o:HO}
theorem ObjOk.lt (x:ObjOk P w H h a o):a<h.objs.size:=by
 cases o with
 |lst xs=>obtain⟨_,_,_,_,e⟩:=x;exact zbo6 e
 |tup xs=>obtain⟨_,_,_,p⟩:=x;exact p.lt
 |dK kvs=>obtain⟨_,_,_,_,o,_,_,e,_⟩:=x;exact zbo6 e
 |dT kvs=>obtain⟨_,_,_,_,o,_,_,e,_⟩:=x;exact zbo6 e
 |set S n=>obtain⟨o,_,_,_,e,_⟩:=x;exact zbo6 e
 |ins C dx fs=>obtain⟨_,_,_,e,_⟩:=x;exact zbo6 e
 |own y=>obtain⟨_,e⟩:=x;exact zbo6 e
 |xd fs=>obtain⟨_,⟨_,_,_,e,_⟩,_⟩:=x;exact zbo6 e
 |rng lo hi=>obtain⟨_,_,_,e⟩:=x;exact zbo6 e
 |frz ob u=>obtain⟨e,_⟩:=x;exact zbo6 e
 |tbl q=>obtain⟨_,e,_⟩:=x;exact zbo6 e
 |met f y=>exact zbo6 (show h.get? a=some _ from x)
 |ext φ=>obtain⟨_,⟨_,e⟩,_⟩:=x;exact zbo6 e
theorem Paired.mapP {α β:Type}{F G:α→β→Prop}:∀ {l₁:List α}{l₂:List β},Paired F l₁ l₂→(∀a b,F a b→G a b)→Paired G l₁ l₂
 |_,_,.nil,_=>.nil
 |_,_,.cons r t,f=>.cons (f _ _ r) (Paired.mapP t f)
theorem ObjOk.stay (x:ObjOk P w H h a o) (k:∀b u,(b=a∨H b=some (.own a))→h.get? b=some u→h'.get? b=some u)
  (ho:∀b,H b=some (.own a)→H' b=some (.own a)) (ht:∀b xs,H b=some (.tup xs)→H' b=some (.tup xs)) (hz:∀b o u,H b=some (.frz o u)→H' b=some (.frz o u)):ObjOk P w H' h' a o:=by
 induction o with
 |lst xs=>obtain⟨z,its,n,r,e⟩:=x;exact⟨z,its,n,r,k _ _ (.inl rfl) e⟩
 |tup xs=>obtain⟨z,its,r,ob,e,c⟩:=x;exact⟨z,its,r,ob,k _ _ (.inl rfl) e,c⟩
 |dK kvs=>obtain⟨z,y,vs,r,ob,es,ep,e,c⟩:=x;exact⟨z,y,vs,r,ob,es,ep,k _ _ (.inl rfl) e,c⟩
 |dT kvs =>
  obtain⟨z,y,xs,r,ob,es,ep,e,c⟩:=x
  exact⟨z,y,xs,Paired.mapP r fun p q z=>⟨z.1,ht _ _ z.2.1,z.2.2⟩,ob,es,ep,k _ _ (.inl rfl) e,c⟩
 |set S n=>obtain⟨ob,es,ep,t,e,c⟩:=x;exact⟨ob,es,ep,t,k _ _ (.inl rfl) e,c⟩
 |ins C dx fs =>
  obtain⟨d,z,ne,e,mA,⟨od,es,ep,e2,c⟩,r⟩:=x
  exact⟨ho _ d,z,ne,k _ _ (.inl rfl) e,mA,⟨od,es,ep,k _ _ (.inr d) e2,c⟩,r⟩
 |own y=>obtain⟨ob,e⟩:=x;exact⟨ob,k _ _ (.inl rfl) e⟩
 |xd fs=>obtain⟨mA,⟨od,es,ep,e,c⟩,r⟩:=x;exact⟨mA,⟨od,es,ep,k _ _ (.inl rfl) e,c⟩,r⟩
 |rng lo hi=>obtain⟨t,u,v,e⟩:=x;exact⟨t,u,v,k _ _ (.inl rfl) e⟩
 |frz ob u ih=>obtain⟨e,q⟩:=x;exact⟨k _ _ (.inl rfl) e,ih q⟩
 |tbl q=>obtain⟨ps,e,t,r⟩:=x;exact⟨ps,k _ _ (.inl rfl) e,t,fun pos cv z=>let ⟨c,oc,vs,tk,a1,a2,a3⟩:=r pos cv z;⟨c,oc,vs,tk,a1,hz _ _ _ a2,a3⟩⟩
 |met f y =>
  have e:h.get? a=some (zby8 (.ref f) (.ref y)):=x
  show h'.get? a=some (zby8 (.ref f) (.ref y))
  exact k a _ (.inl rfl) e
 |ext φ=>obtain⟨p,⟨o,e⟩,st⟩:=x;exact⟨st _ _ p fun o q=>k _ _ (.inl rfl) q,⟨o,k _ _ (.inl rfl) e⟩,st⟩
theorem HOk.lt (x:HOk P w H h) (e:H a=some o):a<h.objs.size:=(x a o e).lt
theorem HOk.fresh (x:HOk P w H h) (e:h.objs.size≤a):H a=none:=by
 cases q:H a with
 |none=>rfl
 |some u=>exact absurd (zbo7 (x.lt q) e) (zbt0 _)
theorem HOk.kept (x:HOk P w H h) (k:∀b u,h.get? b=some u→h'.get? b=some u):HOk P w H h':=fun a o e =>
 (x a o e).stay (fun b u _ q=>k b u q) (fun _ q=>q) (fun _ _ q=>q) fun _ _ _ q=>q
theorem HOk.laid (x:HOk P w H h) (k:∀b u,h.get? b=some u→h'.get? b=some u) (hp:h.objs.size≤a) (new:ObjOk P w (upd H a o) h' a o):HOk P w (upd H a o) h':=fun b u e=>by
 have hn:=x.fresh hp
 by_cases hb:b=a
 ·subst hb;rw [zc1]at e;cases e;exact new
 ·rw [zc8 hb]at e
  exact (x b u e).stay (fun c v _ q=>k c v q) (fun c q=>by rw [zc8 (zl7 q hn)];exact q) (fun c xs q=>by rw [zc8 (zl7 q hn)];exact q) fun c o u q=>by rw [zc8 (zl7 q hn)];exact q
end
noncomputable def Rd (H:Hp) (a:Addr) (u:HO):Prop:=H a=some u∨∃o,H a=some (.frz o u)
theorem Rd.ok {P:Program}{w:World}{H:Hp}{h:Heap}{a:Addr}{u:HO} (r:Rd H a u) (x:HOk P w H h):ObjOk P w H h a u:=by
 rcases r with r | ⟨o,r⟩
 ·exact x a u r
 ·obtain⟨_,q⟩:=x a _ r
  exact q
noncomputable def Mut:Option HO→Prop
 |some (.lst _)=>True
 |some (.dK _)=>True
 |some (.dT _)=>True
 |some (.set _ _)=>True
 |some (.ins _ _ _)=>True
 |some (.ext _)=>True
 |_=>False
section
variable {P:Program}{w:World}{H:Hp}{h h':Heap}{x e:Addr}{o':HO}
theorem HOk.write (ok:HOk P w H h) (mu:Mut (H x)) (he:e=x∨H e=some (.own x)) (k:∀b u,b≠e→h.get? b=some u→h'.get? b=some u) (heo:∃u,h'.get? e=some u)
  (new:ObjOk P w (upd H x o') h' x o'):HOk P w (upd H x o') h':=fun b u q=>by
 have nown:∀c y,H c=some (.own y)→c≠x:=fun c y r z=>by subst z;rw [r]at mu;exact mu
 have ntup:∀c xs,H c=some (.tup xs)→c≠x:=fun c xs r z=>by subst z;rw [r]at mu;exact mu
 by_cases hb:b=x
 ·subst hb;rw [zc1]at q;cases q;exact new
 ·rw [zc8 hb]at q
  by_cases hbe:b=e
  ·have q':H b=some (.own x):=by
    rcases he with z | z
    ·exact absurd (hbe.trans z) hb
    ·rw [hbe];exact z
   rw [q]at q';cases q'
   obtain⟨v,hv⟩:=heo
   exact⟨v,by rw [hbe];exact hv⟩
  ·refine (ok b u q).stay (fun c v hc r=>k c v ?_ r) (fun c r=>by rw [zc8 (nown c b r)];exact r) (fun c xs r=>by rw [zc8 (ntup c xs r)];exact r) fun c o u r=>by rw [zc8 (fun z=>by subst z;rw [r]at mu;exact mu)];exact r
   rcases hc with rfl | hc
   ·exact hbe
   ·rintro rfl
    rcases he with z | z
    ·exact nown c b hc z
    ·rw [hc]at z;cases z;exact hb rfl
end
structure Un (fs ex:List Addr) (H H':Hp) (h h':Heap):Prop where
 keep:∀b o,h.get? b=some o→H b=none→b∉fs→b∉ex→h'.get? b=some o
 slot:∀b o,h.get? b=some o→H b=none→b∈fs→b∉ex→∃sl,h'.get? b=some { o with slots:=sl }
 free:∀b o,h.get? b=some o→H b=none→b∉ex→H' b=none
 there:∀b o,h.get? b=some o→b∉ex→∃o',h'.get? b=some o'
 tups:∀b xs,H b=some (.tup xs)→H' b=some (.tup xs)
 frzs:∀b o u,H b=some (.frz o u)→H' b=some (.frz o u)
 tbls:∀b q,H b=some (.tbl q)→H' b=some (.tbl q)
section
variable {fs fs' ex ex':List Addr}{H H1 H2:Hp}{h h1 h2 h':Heap}{a x e:Addr}{o:HO}
theorem Un.any (u:Un fs ex H H1 h h1) {b:Addr}{ob:Obj} (q:h.get? b=some ob) (n:H b=none) (hx:b∉ex):∃sl,h1.get? b=some { ob with slots:=sl }:=by
 by_cases hb:b∈fs
 ·exact u.slot b ob q n hb hx
 ·exact⟨ob.slots,u.keep b ob q n hb hx⟩
theorem Un.trans (a:Un fs ex H H1 h h1) (b:Un fs ex H1 H2 h1 h2):Un fs ex H H2 h h2 where
 keep:=fun c ob q n hc hx=>b.keep c ob (a.keep c ob q n hc hx) (a.free c ob q n hx) hc hx
 slot:=fun c ob q n hc hx=>by
  obtain⟨sl,e1⟩:=a.slot c ob q n hc hx
  obtain⟨sl',e2⟩:=b.slot c _ e1 (a.free c ob q n hx) hc hx
  exact⟨sl',e2⟩
 free:=fun c ob q n hx=>by
  obtain⟨o',e1⟩:=a.there c ob q hx
  exact b.free c o' e1 (a.free c ob q n hx) hx
 there:=fun c ob q hx=>by
  obtain⟨o',e1⟩:=a.there c ob q hx
  exact b.there c o' e1 hx
 tups:=fun c xs q=>b.tups c xs (a.tups c xs q)
 frzs:=fun c ob xs q=>b.frzs c ob xs (a.frzs c ob xs q)
 tbls:=fun c q e=>b.tbls c q (a.tbls c q e)
theorem Un.kept (k:∀b u,h.get? b=some u→h'.get? b=some u):Un fs ex H H h h' :=
 ⟨fun b ob q _ _ _=>k b ob q,fun b ob q _ _ _=>⟨ob.slots,k b ob q⟩,fun _ _ _ n _=>n,fun b ob q _=>⟨ob,k b ob q⟩,fun _ _ q=>q,fun _ _ _ q=>q,fun _ _ q=>q⟩
theorem Un.refl:Un fs ex H H h h:=Un.kept fun _ _ q=>q
theorem Un.laid (k:∀b u,h.get? b=some u→h'.get? b=some u) (hp:h.objs.size≤a) (hn:H a=none):Un fs ex H (upd H a o) h h' where
 keep:=fun b u q _ _ _=>k b u q
 slot:=fun b u q _ _ _=>⟨u.slots,k b u q⟩
 free:=fun b u q n _=>by rw [zc8 (zbp8 (zbo7 (zbo6 q) hp))];exact n
 there:=fun b u q _=>⟨u,k b u q⟩
 tups:=fun b xs q=>by rw [zc8 (zl7 q hn)];exact q
 frzs:=fun b u xs q=>by rw [zc8 (zl7 q hn)];exact q
 tbls:=fun b ps q=>by rw [zc8 (zl7 q hn)];exact q
theorem Un.write (mu:Mut (H x)) (he:e=x∨H e=some (.own x)) (k:∀b u,b≠e→h.get? b=some u→h'.get? b=some u) (heo:∃u,h'.get? e=some u):Un fs ex H (upd H x o) h h':=by
 have hx:∀b,H b=none→b≠x:=fun b n z=>by subst z;rw [n]at mu;exact mu
 have hb:∀b,H b=none→b≠e:=fun b n z=>by
  subst z
  rcases he with r | r
  ·exact hx b n r
  ·rw [n]at r;cases r
 have hm:∀b u,H b=some u → ¬ Mut (some u)→b≠x:=fun b u q nm z=>by subst z;rw [q]at mu;exact nm mu
 refine⟨fun b u q n _ _=>k b u (hb b n) q,fun b u q n _ _=>⟨u.slots,k b u (hb b n) q⟩,fun b u q n _=>by rw [zc8 (hx b n)];exact n,fun b u q _=>?_,
  fun b xs q=>by rw [zc8 (hm b _ q fun z=>z)];exact q,fun b u xs q=>by rw [zc8 (hm b _ q fun z=>z)];exact q,fun b ps q=>by rw [zc8 (hm b _ q fun z=>z)];exact q⟩
 by_cases hbe:b=e
 ·subst hbe;exact heo
 ·exact⟨u,k b u hbe q⟩
end
noncomputable def trk (h:Heap) (H:Hp):List Addr:=(zbp2 h.objs.size).filter fun a=>(H a).isSome
noncomputable def hidT (h:Heap) (H:Hp):Heap:=PySem.W.hideAll h (trk h H)
theorem zbh8 (h:Heap) (H:Hp):(hidT h H).objs.size=h.objs.size:=PySem.W.hideAll_size _ _
theorem zz4 {h:Heap}{H:Hp}{b:Addr}{o:Obj} (e:h.get? b=some o) (n:H b=none):(hidT h H).get? b=some o :=
 PySem.W.hideAll_get _ e fun hm=>by
  have q:(H b).isSome=true:=(zbw9.mp hm).2
  rw [n]at q;simp at q
theorem of_hidT {h:Heap}{H:Hp}{b:Addr}{o:Obj} (e:(hidT h H).get? b=some o):h.get? b=some o∧H b=none:=by
 have e':h.get? b=some o:=PySem.W.of_hideAll (trk h H) e
 refine⟨e',?_⟩
 cases q:H b with
 |none=>rfl
 |some x =>
  have hm:b∈trk h H:=zbw9.mpr ⟨zbw2.mpr (zbo6 e'),by simp [q]⟩
  have z:(hidT h H).get? b=none:=PySem.W.hideAll_none (trk h H) hm
  rw [z]at e;cases e
noncomputable def allNews (g h:Heap) (L:Addr):List (Addr×Obj):=(zbp2 h.objs.size).filterMap fun a=>if a=L∨(g.get? a).isSome=true then none else (h.get? a).map fun o=>(a,o)
noncomputable def rest (g h:Heap) (L d:Addr):List (Addr×Obj):=(allNews g h L).filter fun p=>decide (p.1≠d)
end L2
namespace L2
open PySem.Spec
structure BHeap extends Heap where
 tabs:List (Addr×Str)
instance:Coe BHeap Heap:=⟨BHeap.toHeap⟩
structure Mod (K:zbm7) (mg:Str→Option Value) (base:BHeap):Prop where
 kin:K.In base
 glob:base.Ns mainGlobals mg
 blt:∃mb,base.Ns builtinsNs mb∧∀x:Str,x≠"__name__"→mb x=bootBuiltins x
 nolimit:base.NoLimit
 bm:∃(bm:Addr) (ob:Obj),mg "__builtins__"=some (.ref bm)∧bm≠builtinsNs∧base.get? bm=some ob∧ob.cls=.type "module"∧ob.dict=some builtinsNs∧ob.data=.plain
structure Cx where
 prog:Program
 w:World
 K:zbm7
 mg:Str→Option Value
 base:BHeap
 A:Around
 N:List Str
 s₀:zbo3
 H₀:Hp
 env:Env
 outer:List Env
 stack:List Env
 ex:List Addr
 fn:Str→Bool
 calm:Bool
 pn:List (Addr×Obj)
 xe:Value→zbo3→Prop
noncomputable def frs (l:List Env):List Addr:=l.filterMap (·.frame)
noncomputable abbrev Cx.fs (X:Cx):List Addr:=frs X.outer
noncomputable def Vis (sc:Scope) (x:Str):Prop:=sc.names.lookup x=some .local∨sc.names.lookup x=some .cell∨sc.names.lookup x=some .free
noncomputable def Loc (sc:Scope) (x:Str):Prop:=sc.names.lookup x=some .local∨sc.names.lookup x=some .cell
noncomputable def Look (env:Env) (h:Heap) (m:Str→Option Value) (x:Str) (u:Value):Prop :=
 (env.kindOf x=some .local∧m x=some u)∨((env.kindOf x=some .cell∨env.kindOf x=some .free)∧∃c,env.cells.lookup x=some c∧h.IsCell c (some u))
structure Cx.Ok (X:Cx):Prop where
 mod:Mod X.K X.mg X.base
 kind:X.env.scope.kind=.function
 glob:X.env.globals=mainGlobals
 blt:X.env.builtins=builtinsNs
 above:X.s₀.heap.objs.size≤X.env.locals
 inj:∀x y c,X.env.cells.lookup x=some c→X.env.cells.lookup y=some c→x=y
 has:∀x,(X.env.kindOf x=some .cell∨X.env.kindOf x=some .free)→∃c,X.env.cells.lookup x=some c
 cab:∀x c,X.fn x=true→X.env.cells.lookup x=some c→X.s₀.heap.objs.size≤c
 hd:X.calm=true→X.A.handled=none
 frames:X.A.frames=some X.stack
 stk:X.stack=X.outer∨(X.stack=X.env::X.outer∧X.env.frame=some X.env.locals)
 exf:∀b∈X.ex,b≠X.env.locals∧∀x c,X.env.cells.lookup x=some c→c≠b
 bs:∀b o,X.base.get? b=some o→X.s₀.heap.get? b=some o∧X.H₀ b=none
 bsz:X.base.objs.size≤X.s₀.heap.objs.size
 noex:∀b o,X.base.get? b=some o→b∉X.ex
 exfs:∀b∈X.ex,b∉X.fs
 funs:X.s₀.heap.FunFrames X.base X.outer
 frf:∀b∈X.fs,X.H₀ b=none
 tabs:∀p∈X.base.tabs,X.H₀ p.1=some (.tbl p.2)
structure Inv (X:Cx) (pins:List (Addr×Obj)) (σ:List (Option V)) (H:Hp) (s:zbo3):Prop where
 ok:X.Ok
 os:s.os=X.s₀.os
 bare:AllBare s.gens
 base:Un X.fs X.ex X.H₀ H X.s₀.heap s.heap
 loc:∃m,s.heap.Ns X.env.locals m∧∀(i:Nat) (x:Str) (v:V),X.N[i]?=some x→σ[i]?=some (some v)→Vis X.env.scope x→∃u,RelV v u∧Look X.env s.heap m x u
 cell:∀x c,X.env.cells.lookup x=some c→∃v,s.heap.IsCell c v
 free:H X.env.locals=none
 freeC:∀x c,X.env.cells.lookup x=some c→H c=none
 pin:∀p∈X.pn++pins,s.heap.get? p.1=some p.2∧H p.1=none∧p.1≠X.env.locals∧p.1∉X.fs∧∀v,p.2.data≠.cell v
 hok:HOk X.prog X.w H s.heap
 len:σ.length=X.N.length
section
variable {X:Cx}{pins:List (Addr×Obj)}{σ:List (Option V)}{H H':Hp}{s:zbo3}{h':Heap}
theorem Cx.Ok.nofr (ok:X.Ok) {b:Addr}{o:Obj} (e:X.base.get? b=some o):b∉X.fs:=fun hb=>by
 have:=(ok.funs.mem hb).1
 rw [e]at this;cases this
theorem Inv.bs (I:Inv X pins σ H s):∀b o,X.base.get? b=some o→s.heap.get? b=some o∧H b=none:=fun b o e =>
 ⟨I.base.keep b o (I.ok.bs b o e).1 (I.ok.bs b o e).2 (I.ok.nofr e) (I.ok.noex b o e),I.base.free b o (I.ok.bs b o e).1 (I.ok.bs b o e).2 (I.ok.noex b o e)⟩
theorem Inv.bk (I:Inv X pins σ H s):∀b o,X.base.get? b=some o→s.heap.get? b=some o:=fun b o e=>(I.bs b o e).1
theorem Inv.mod (I:Inv X pins σ H s):Mod X.K X.mg X.base:=I.ok.mod
theorem Inv.kIn (I:Inv X pins σ H s):X.K.In s.heap:=I.ok.mod.kin.keeps I.bk
theorem Inv.lt (I:Inv X pins σ H s):X.env.locals<s.heap.objs.size:=let ⟨_,hn,_⟩:=I.loc;hn.lt
theorem Inv.sz (I:Inv X pins σ H s):X.s₀.heap.objs.size≤s.heap.objs.size:=zbs6 I.ok.above (zby1 I.lt)
theorem Inv.nofs (I:Inv X pins σ H s) {a:Addr} (h:s.heap.objs.size≤a):a∉X.fs:=fun hb=>by
 obtain⟨_,o,ho,_⟩:=I.ok.funs.mem hb
 exact absurd (zbo7 (zbo6 ho) (zbs6 I.sz h)) (zbt0 _)
theorem Inv.cne (I:Inv X pins σ H s):∀x c,X.env.cells.lookup x=some c→c≠X.env.locals:=fun x c e z=>by
 obtain⟨v,o,ho,hd⟩:=I.cell x c e
 obtain⟨m,⟨o',es,ep,ho',hd',_⟩,_⟩:=I.loc
 rw [z,ho']at ho;cases ho;rw [hd']at hd;cases hd
theorem Inv.funs (I:Inv X pins σ H s):s.heap.FunFrames X.base X.outer:=by
 have all:∀(l:List Env),(∀b∈frs l,b∈X.fs)→X.s₀.heap.FunFrames X.base l→s.heap.FunFrames X.base l:=by
  intro l
  induction l with
  |nil=>intro _ _;trivial
  |cons env r ih =>
   intro hs hl
   obtain⟨hk,⟨L,o,hf,hn,ho,hd⟩,hr⟩:=hl
   have hL:L∈X.fs:=hs L (by unfold frs;rw [zbx4,hf];exact zbn1)
   obtain⟨sl,e⟩:=I.base.slot L o ho (I.ok.frf L hL) hL fun z=>I.ok.exfs L z hL
   exact⟨hk,⟨L,_,hf,hn,e,hd⟩,ih (fun b hb=>hs b (by unfold frs;rw [zbx4,hf];exact zbm9 _ hb)) hr⟩
 exact all X.outer (fun _ hb=>hb) I.ok.funs
theorem Inv.stack (I:Inv X pins σ H s):s.heap.FunFrames X.base X.stack:=by
 rcases I.ok.stk with e | ⟨e,hf⟩
 ·rw [e];exact I.funs
 ·rw [e]
  obtain⟨m,hn,_⟩:=I.loc
  refine .cons (by rw [I.ok.kind];decide) hf hn ?_ I.funs
  exact Heap.get?_none_of_le (zbs6 I.ok.bsz I.ok.above)
theorem Inv.stkSub (I:Inv X pins σ H s):∀b∈frs X.stack,b∈X.env.locals::X.fs:=fun b hb=>by
 rcases I.ok.stk with e | ⟨e,hf⟩
 ·rw [e]at hb;exact zbm9 _ hb
 ·rw [e]at hb
  unfold frs at hb
  rw [zbx4,hf]at hb
  exact hb
theorem Inv.stkFree (I:Inv X pins σ H s):∀b∈frs X.stack,H b=none:=fun b hb=>by
 rcases zbn5.mp (I.stkSub b hb) with e | hb
 ·rw [e];exact I.free
 ·obtain⟨_,o,ho,_⟩:=I.ok.funs.mem hb
  exact I.base.free b o ho (I.ok.frf b hb) fun z=>I.ok.exfs b z hb
theorem Inv.step {g':Array GenState}{t':Nat}{d':Drawn}{ch:List Addr} (I:Inv X pins σ H s)
  (hch:∀b∈ch,(b∈X.ex∨X.s₀.heap.objs.size≤b)∧b≠X.env.locals∧(∀x c,X.env.cells.lookup x=some c→c≠b)∧∀p∈X.pn++pins,p.1≠b)
  (keep:∀b o,b≠X.env.locals→b∉X.fs→b∉ch→s.heap.get? b=some o→H b=none→h'.get? b=some o)
  (slot:∀b o,b≠X.env.locals→b∈X.fs→b∉ch→s.heap.get? b=some o→H b=none→∃sl,h'.get? b=some { o with slots:=sl }) (free:∀b o,b∉ch→s.heap.get? b=some o→H b=none→H' b=none)
  (there:∀b o,b∉ch→s.heap.get? b=some o→∃o',h'.get? b=some o')
  (tups:∀b xs,H b=some (.tup xs)→H' b=some (.tup xs)) (frzs:∀b o u,H b=some (.frz o u)→H' b=some (.frz o u)) (tbls:∀b q,H b=some (.tbl q)→H' b=some (.tbl q))
  (ns:∀m,s.heap.Ns X.env.locals m→h'.Ns X.env.locals m) (hok:HOk X.prog X.w H' h') (hg:AllBare g') :
  Inv X pins σ H' { s with heap:=h',gens:=g',drawn:=d',toks:=t' }:=by
 have neL:∀b o,X.s₀.heap.get? b=some o→b≠X.env.locals:=fun b o e=>zbp8 (zbo7 (zbo6 e) I.ok.above)
 have neC:∀b o,X.s₀.heap.get? b=some o→b∉X.ex→b∉ch:=fun b o e hx hb=>by
  rcases (hch b hb).1 with z | z
  ·exact hx z
  ·exact absurd (zbo7 (zbo6 e) z) (zbt0 _)
 have cellK:∀x c,X.env.cells.lookup x=some c→∀v,s.heap.IsCell c v→h'.IsCell c v:=fun x c e v ⟨o,ho,hd⟩=>by
  have nch:c∉ch:=fun z=>(hch c z).2.2.1 x c e rfl
  by_cases hc:c∈X.fs
  ·obtain⟨sl,q⟩:=slot c o (I.cne x c e) hc nch ho (I.freeC x c e)
   exact⟨_,q,hd⟩
  ·exact⟨o,keep c o (I.cne x c e) hc nch ho (I.freeC x c e),hd⟩
 refine⟨I.ok,I.os,hg,⟨fun b o e n hb hx=>?_,fun b o e n hb hx=>?_,fun b o e n hx=>?_,fun b o e hx=>?_,fun b xs e=>tups b xs (I.base.tups b xs e),fun b o xs e=>frzs b o xs (I.base.frzs b o xs e),fun b ps e=>?_⟩,?_,fun x c e=>?_,?_,fun x c e=>?_,fun p hp=>?_,hok,I.len⟩
 ·exact keep b o (neL b o e) hb (neC b o e hx) (I.base.keep b o e n hb hx) (I.base.free b o e n hx)
 ·obtain⟨sl,e1⟩:=I.base.slot b o e n hb hx
  obtain⟨sl',e2⟩:=slot b _ (neL b o e) hb (neC b o e hx) e1 (I.base.free b o e n hx)
  exact⟨sl',e2⟩
 ·obtain⟨o',e1⟩:=I.base.there b o e hx
  exact free b o' (neC b o e hx) e1 (I.base.free b o e n hx)
 ·obtain⟨o',e1⟩:=I.base.there b o e hx
  exact there b o' (neC b o e hx) e1
 ·exact tbls b _ (I.base.tbls b ps e)
 ·obtain⟨m,hn,hl⟩:=I.loc
  refine⟨m,ns m hn,fun i x v e1 e2 e3=>?_⟩
  obtain⟨u,r,l⟩:=hl i x v e1 e2 e3
  refine⟨u,r,?_⟩
  rcases l with l | ⟨k,c,e,z⟩
  ·exact .inl l
  ·exact .inr ⟨k,c,e,cellK x c e _ z⟩
 ·obtain⟨v,z⟩:=I.cell x c e
  exact⟨v,cellK x c e v z⟩
 ·obtain⟨m,⟨o,_,_,ho,_⟩,_⟩:=I.loc
  exact free _ o (fun z=>(hch _ z).2.1 rfl) ho I.free
 ·obtain⟨v,o,ho,hd⟩:=I.cell x c e
  exact free c o (fun z=>(hch c z).2.2.1 x c e rfl) ho (I.freeC x c e)
 ·obtain⟨e,n,ne,nf,d⟩:=I.pin p hp
  have nch:p.1∉ch:=fun z=>(hch p.1 z).2.2.2 p hp rfl
  exact⟨keep p.1 p.2 ne nf nch e n,free p.1 p.2 nch e n,ne,nf,d⟩
theorem Inv.un {t':Nat} (I:Inv X pins σ H s) (u:Un X.fs [] H H' s.heap h') (hok:HOk X.prog X.w H' h'):Inv X pins σ H' { s with heap:=h',toks:=t' }:=by
 obtain⟨m,⟨o,es,ep,ho,r⟩,_⟩:=id I.loc
 obtain⟨sl,hL⟩:=u.any ho I.free (by simp)
 exact I.step (g':=s.gens) (d':=s.drawn) (ch:=[]) (fun _ z=>nomatch z) (fun b o _ hb _ e n=>u.keep b o e n hb (by simp)) (fun b o _ hb _ e n=>u.slot b o e n hb (by simp)) (fun b o _ e n=>u.free b o e n (by simp)) (fun b o _ e=>u.there b o e (by simp)) u.tups u.frzs u.tbls (fun m' hm=>by
  obtain⟨o',es',ep',ho',r'⟩:=hm
  rw [ho]at ho';cases ho'
  exact⟨_,es',ep',hL,r'⟩) hok I.bare
theorem Inv.call {g':Array GenState}{t':Nat}{d':Drawn}{ch:List Addr} (I:Inv X pins σ H s) (u:Un (frs X.stack) ch H H' s.heap h') (hok:HOk X.prog X.w H' h') (hg:AllBare g')
  (hch:∀b∈ch,(b∈X.ex∨X.s₀.heap.objs.size≤b)∧b≠X.env.locals∧(∀x c,X.env.cells.lookup x=some c→c≠b)∧∀p∈X.pn++pins,p.1≠b) :
  Inv X pins σ H' { s with heap:=h',gens:=g',drawn:=d',toks:=t' }:=by
 obtain⟨m,⟨o,es,ep,ho,r⟩,_⟩:=id I.loc
 obtain⟨sl,hL⟩:=u.any ho I.free fun z=>(hch _ z).2.1 rfl
 exact I.step (ch:=ch) hch (fun b o hL hb hc e n=>u.keep b o e n (fun z=>(zbn5.mp (I.stkSub b z)).elim hL hb) hc) (fun b o _ _ hc e n=>u.any e n hc) (fun b o hc e n=>u.free b o e n hc) (fun b o hc e=>u.there b o e hc) u.tups u.frzs u.tbls (fun m' hm=>by
  obtain⟨o',es',ep',ho',r'⟩:=hm
  rw [ho]at ho';cases ho'
  exact⟨_,es',ep',hL,r'⟩) hok hg
theorem Inv.turned {t':Nat}{it:Addr} (I:Inv X pins σ H s) (k:∀b o,b≠it→s.heap.get? b=some o→h'.get? b=some o) (hn:H it=none) (hL:it≠X.env.locals)
  (h1:it∈X.ex∨X.s₀.heap.objs.size≤it) (h2:∀x c,X.env.cells.lookup x=some c→c≠it) (h3:∀p∈X.pn++pins,p.1≠it):Inv X pins σ H { s with heap:=h',toks:=t' }:=by
 have nit:∀b u,H b=some u→b≠it:=fun b u e z=>by rw [z,hn]at e;cases e
 refine I.step (g':=s.gens) (d':=s.drawn) (ch:=[it]) (fun b hb=>?_) (fun b o _ _ hc e _=>k b o (fun z=>hc (by simp [z])) e) (fun b o _ _ hc e _=>⟨o.slots,k b o (fun z=>hc (by simp [z])) e⟩) (fun _ _ _ _ n=>n)
  (fun b o hc e=>⟨o,k b o (fun z=>hc (by simp [z])) e⟩) (fun _ _ e=>e) (fun _ _ _ e=>e) (fun _ _ e=>e) (fun m hm=>?_) (fun b u e=>?_) I.bare
 ·have e:b=it:=by simpa using hb
  subst e
  exact⟨h1,hL,h2,h3⟩
 ·obtain⟨o,es,ep,ho,r⟩:=hm
  exact⟨o,es,ep,k _ o (Ne.symm hL) ho,r⟩
 ·refine (I.hok b u e).stay (fun c v hc q=>k c v ?_ q) (fun _ q=>q) (fun _ _ q=>q) fun _ _ _ q=>q
  rcases hc with z | z
  ·rw [z];exact nit b u e
  ·exact nit c _ z
theorem Inv.tok (I:Inv X pins σ H s) (t:Nat):Inv X pins σ H { s with toks:=t }:=I.un (h':=s.heap) (t':=t) Un.refl I.hok
theorem Inv.kept {t':Nat} (I:Inv X pins σ H s) (k:∀b u,s.heap.get? b=some u→h'.get? b=some u):Inv X pins σ H { s with heap:=h',toks:=t' }:=I.un (Un.kept k) (I.hok.kept k)
theorem Inv.laid {a:Addr}{o:HO}{t':Nat} (I:Inv X pins σ H s) (k:∀b u,s.heap.get? b=some u→h'.get? b=some u) (hp:s.heap.objs.size≤a) (new:ObjOk X.prog X.w (upd H a o) h' a o) :
  Inv X pins σ (upd H a o) { s with heap:=h',toks:=t' }:=I.un (Un.laid k hp (I.hok.fresh hp)) (I.hok.laid k hp new)
theorem Inv.write {x e:Addr}{o:HO}{t':Nat} (I:Inv X pins σ H s) (mu:Mut (H x)) (he:e=x∨H e=some (.own x)) (k:∀b u,b≠e→s.heap.get? b=some u→h'.get? b=some u) (heo:∃u,h'.get? e=some u)
  (new:ObjOk X.prog X.w (upd H x o) h' x o):Inv X pins σ (upd H x o) { s with heap:=h',toks:=t' }:=I.un (Un.write mu he k heo) (I.hok.write mu he k heo new)
theorem Inv.pins_of {pins':List (Addr×Obj)} (I:Inv X pins σ H s) (h:∀p∈pins',s.heap.get? p.1=some p.2∧H p.1=none∧p.1≠X.env.locals∧p.1∉X.fs∧∀v,p.2.data≠.cell v):Inv X pins' σ H s :=
 ⟨I.ok,I.os,I.bare,I.base,I.loc,I.cell,I.free,I.freeC,fun p hp=>(zbn2.mp hp).elim (fun z=>I.pin p (zbm8 _ z)) (h p),I.hok,I.len⟩
theorem zav9 {N:List Str} (hN:N.Nodup) {i j:Nat}{x:Str} (a:N[i]?=some x) (b:N[j]?=some x):i=j:=by
 obtain⟨h1,e1⟩:=zbr5.mp a
 obtain⟨h2,e2⟩:=zbr5.mp b
 exact (List.getElem_inj hN).mp (e1.trans e2.symm)
theorem zaj1 {M:Model}{A:Around}{E:Value→zbo3→Prop}{i:Nat}{x:Str}{v:V}{u:Value}{Q:Unit→zbo3→Prop} (I:Inv X pins σ H s) (hN:X.N.Nodup) (hi:X.N[i]?=some x) (hx:Loc X.env.scope x) (r:RelV v u)
  (h:∀s',Inv X pins (σ.set i (some v)) H s'→(∃a,Heap.SameBut a s.heap s'.heap∧(a=X.env.locals∨X.env.cells.lookup x=some a))→Q () s') (hf:X.fn x=true∨X.env.scope.names.lookup x=some .local:=by first | exact .inl rfl | exact .inr rfl | assumption):wpAny M A (storeName X.env x u) Q E s:=by
 obtain⟨m,hn,hl⟩:=id I.loc
 have hcls:(X.env.scope.kind == .class||(X.env.scope.kind == .module&&X.env.locals != X.env.globals))=false:=by rw [I.ok.kind];rfl
 have hiσ:i<σ.length:=by rw [I.len];exact (zbr5.mp hi).1
 have cne:=I.cne
 have tracked:∀ {a:Addr}{h':Heap},(∃o,s.heap.get? a=some o∧H a=none)→Heap.SameBut a s.heap h'→HOk X.prog X.w H h':=fun {a h'} ha hs b ob e=>by
  obtain⟨_,_,hfree⟩:=ha
  refine (I.hok b ob e).stay (fun c w' hc q=>(hs.2 c ?_).trans q) (fun _ q=>q) (fun _ _ q=>q) fun _ _ _ q=>q
  rintro rfl
  rcases hc with rfl | hc
  ·rw [hfree]at e;cases e
  ·rw [hfree]at hc;cases hc
 rcases hx with hk | hk
 ·refine wpAny_storeName_local hk hn (fun h' hn' hs=>?_) hcls
  obtain⟨oL,_,_,hoL,_⟩:=id hn
  refine h _ ⟨I.ok,I.os,I.bare,⟨fun b o e n hb hx=>?_,fun b o e n hb hx=>?_,I.base.free,fun b o e hx=>?_,I.base.tups,I.base.frzs,I.base.tbls⟩,⟨_,hn',fun j y v' e1 e2 e3=>?_⟩,fun y c e=>?_,I.free,I.freeC,fun p hp=>?_,tracked ⟨oL,hoL,I.free⟩ hs,by simpa using I.len⟩ ⟨_,hs,.inl rfl⟩
  ·exact (hs.2 b (zbp8 (zbo7 (zbo6 e) I.ok.above))).trans (I.base.keep b o e n hb hx)
  ·obtain⟨sl,e1⟩:=I.base.slot b o e n hb hx
   exact⟨sl,(hs.2 b (zbp8 (zbo7 (zbo6 e) I.ok.above))).trans e1⟩
  ·obtain⟨o',e1⟩:=I.base.there b o e hx
   exact⟨o',(hs.2 b (zbp8 (zbo7 (zbo6 e) I.ok.above))).trans e1⟩
  ·by_cases hj:j=i
   ·subst hj
    rw [hi]at e1;cases e1
    rw [zbu8 hiσ]at e2
    cases e2
    exact⟨u,r,.inl ⟨hk,by simp⟩⟩
   ·rw [zbu3 (Ne.symm hj)]at e2
    obtain⟨u',r',q⟩:=hl j y v' e1 e2 e3
    refine⟨u',r',?_⟩
    rcases q with ⟨k,e⟩ | ⟨k,c,e,z⟩
    ·refine .inl ⟨k,?_⟩
     have:y≠x:=fun e=>hj (zav9 hN e1 (e ▸ hi))
     simp [this,e]
    ·exact .inr ⟨k,c,e,z.sameBut hs (cne y c e)⟩
  ·obtain⟨w',z⟩:=I.cell y c e
   exact⟨w',z.sameBut hs (cne y c e)⟩
  ·obtain⟨e,n,ne,nf,d⟩:=I.pin p hp
   exact⟨(hs.2 p.1 ne).trans e,n,ne,nf,d⟩
 ·have hfn:X.fn x=true:=by
   rcases hf with z | z
   ·exact z
   ·rw [z]at hk;cases hk
  obtain⟨c,hc⟩:=I.ok.has x (.inl hk)
  obtain⟨w',z⟩:=I.cell x c hc
  refine wpAny_storeName_cell I.ok.kind hk hc z (fun h' hc' hs=>?_)
  obtain⟨oc,hoc,hocd⟩:=id z
  refine h { s with heap:=h' } ⟨I.ok,I.os,I.bare,⟨fun b o e n hb hx=>?_,fun b o e n hb hx=>?_,I.base.free,fun b o e hx=>?_,I.base.tups,I.base.frzs,I.base.tbls⟩,⟨m,hn.sameBut hs (Ne.symm (cne x c hc)),fun j y v' e1 e2 e3=>?_⟩,fun y c' e=>?_,I.free,I.freeC,fun p hp=>?_,tracked ⟨oc,hoc,I.freeC x c hc⟩ hs,by simpa using I.len⟩ ⟨c,hs,.inr hc⟩
  ·exact (hs.2 b (zbp8 (zbo7 (zbo6 e) (I.ok.cab x c hfn hc)))).trans (I.base.keep b o e n hb hx)
  ·obtain⟨sl,e1⟩:=I.base.slot b o e n hb hx
   exact⟨sl,(hs.2 b (zbp8 (zbo7 (zbo6 e) (I.ok.cab x c hfn hc)))).trans e1⟩
  ·obtain⟨o',e1⟩:=I.base.there b o e hx
   exact⟨o',(hs.2 b (zbp8 (zbo7 (zbo6 e) (I.ok.cab x c hfn hc)))).trans e1⟩
  ·by_cases hj:j=i
   ·subst hj
    rw [hi]at e1;cases e1
    rw [zbu8 hiσ]at e2
    cases e2
    exact⟨u,r,.inr ⟨.inl hk,c,hc,hc'⟩⟩
   ·rw [zbu3 (Ne.symm hj)]at e2
    obtain⟨u',r',q⟩:=hl j y v' e1 e2 e3
    refine⟨u',r',?_⟩
    rcases q with q | ⟨k,c',e,z'⟩
    ·exact .inl q
    ·refine .inr ⟨k,c',e,z'.sameBut hs ?_⟩
     rintro rfl
     exact hj (zav9 hN e1 (I.ok.inj _ _ _ e hc ▸ hi))
  ·by_cases hcc:c'=c
   ·subst hcc;exact⟨_,hc'⟩
   ·obtain⟨w2,z2⟩:=I.cell y c' e
    exact⟨w2,z2.sameBut hs hcc⟩
  ·obtain⟨e,n,ne,nf,d⟩:=I.pin p hp
   refine⟨(hs.2 p.1 ?_).trans e,n,ne,nf,d⟩
   intro q
   rw [q,hoc]at e
   have q':oc=p.2:=Option.some.inj e
   exact d w' (by rw [← q'];exact hocd)
theorem zy7 {M:Model}{A:Around}{E:Value→zbo3→Prop}{i:Nat}{x:Str}{v:V}{u:Value}{Q:Unit→zbo3→Prop} (I:Inv X pins σ H s) (hN:X.N.Nodup) (hi:X.N[i]?=some x) (hx:Loc X.env.scope x) (r:RelV v u)
  (h:∀s',Inv X pins (σ.set i (some v)) H s'→Q () s') (hf:X.fn x=true∨X.env.scope.names.lookup x=some .local:=by first | exact .inl rfl | exact .inr rfl | assumption):wpAny M A (storeName X.env x u) Q E s :=
 zaj1 I hN hi hx r (fun s' I' _=>h s' I') hf
end
noncomputable abbrev XK:=Value→Option Addr→Hp→Prop
noncomputable abbrev St:=List (Option V)
noncomputable abbrev VK:=V→Hp→Prop
noncomputable abbrev TE:=St→Hp→VK→Prop
noncomputable abbrev TT:=St→Hp→(Bool→Hp→Prop)→Prop
noncomputable abbrev TA:=St→Hp→(List V→Hp→Prop)→Prop
structure Ends where
 nx:St→Hp→Prop
 rt:VK
 bk:St→Hp→Prop:=fun _ _=>False
 ct:St→Hp→Prop:=fun _ _=>False
noncomputable abbrev TS:=Ends→St→Hp→Prop
noncomputable def EP (X:Cx) (pins:List (Addr×Obj)) (σ:St) (Q:VK) (u:Value) (s':zbo3):Prop := ∃v H',Inv X pins σ H' s'∧RelV v u∧Q v H'
noncomputable def TP (X:Cx) (pins:List (Addr×Obj)) (σ:St) (Q:Bool→Hp→Prop) (b:Bool) (s':zbo3):Prop := ∃H',Inv X pins σ H' s'∧Q b H'
noncomputable def AP (X:Cx) (pins:List (Addr×Obj)) (σ:St) (Q:List V→Hp→Prop) (us:List Value) (s':zbo3):Prop := ∃vs H',Inv X pins σ H' s'∧Vals vs us∧Q vs H'
noncomputable def SP (X:Cx) (pins:List (Addr×Obj)) (D:Ends) (f:Flow) (s':zbo3):Prop :=
 match f with
 |.next => ∃σ' H',Inv X pins σ' H' s'∧D.nx σ' H'
 |.brk => ∃σ' H',Inv X pins σ' H' s'∧D.bk σ' H'
 |.cont => ∃σ' H',Inv X pins σ' H' s'∧D.ct σ' H'
 |.ret u => ∃v σ' H',Inv X pins σ' H' s'∧RelV v u∧D.rt v H'
noncomputable def PE (X:Cx) (e:Expr) (t:TE):Prop :=
 ∀(pins:List (Addr×Obj)) (s:zbo3) (σ:St) (H:Hp) (Q:VK),Inv X pins σ H s→t σ H Q→wpAny (model X.prog X.w) X.A (eval e X.env) (EP X pins σ Q) X.xe s
noncomputable def PT (X:Cx) (e:Expr) (t:TT):Prop :=
 ∀(pins:List (Addr×Obj)) (s:zbo3) (σ:St) (H:Hp) (Q:Bool→Hp→Prop),Inv X pins σ H s→t σ H Q→wpAny (model X.prog X.w) X.A (isTrue e X.env (eval e X.env)) (TP X pins σ Q) X.xe s
noncomputable def PW (X:Cx) (e:Expr) (t:TT):Prop :=
 ∀(whole:Sem Value) (pins:List (Addr×Obj)) (s:zbo3) (σ:St) (H:Hp) (Q:Bool→Hp→Prop),Inv X pins σ H s→t σ H Q→wpAny (model X.prog X.w) X.A (isTrue e X.env whole) (TP X pins σ Q) X.xe s
theorem PW.pt {X:Cx}{e:Expr}{t:TT} (h:PW X e t):PT X e t:=h _
noncomputable def PA (X:Cx) (es:List Expr) (t:TA):Prop :=
 ∀(pos:Pos) (pins:List (Addr×Obj)) (s:zbo3) (σ:St) (H:Hp) (Q:List V→Hp→Prop),Inv X pins σ H s→t σ H Q→wpAny (model X.prog X.w) X.A (spliced (zbu1 pos (zbo8 es X.env))) (AP X pins σ Q) X.xe s
noncomputable def PS (X:Cx) (st:Stmt) (t:TS):Prop :=
 ∀(pins:List (Addr×Obj)) (s:zbo3) (σ:St) (H:Hp) (D:Ends),Inv X pins σ H s→t D σ H→wpAny (model X.prog X.w) X.A (exec st X.env) (SP X pins D) X.xe s
noncomputable def PSs (X:Cx) (st:List Stmt) (t:TS):Prop :=
 ∀(pins:List (Addr×Obj)) (s:zbo3) (σ:St) (H:Hp) (D:Ends),Inv X pins σ H s→t D σ H→wpAny (model X.prog X.w) X.A (execs st X.env) (SP X pins D) X.xe s
theorem thn {α:Type}{t:Sem α}{Q Q':α→zbo3→Prop}{M:Model}{A:Around}{E:Value→zbo3→Prop}{s:zbo3} (h:wpAny M A t Q E s) (hQ:∀a s,Q a s→Q' a s):wpAny M A t Q' E s:=wpAny_mono h hQ fun _ _ x=>x
end L2
namespace L2
open PySem.Spec
section
variable {X:Cx}
theorem bin {a b:Expr}{ta tb:TE} (ha:PE X a ta) (hb:PE X b tb) {pins:List (Addr×Obj)}{s:zbo3}{σ:St}{H:Hp}{R:V→V→Hp→Prop} (I:Inv X pins σ H s) (h:ta σ H fun x H1=>tb σ H1 fun y H2=>R x y H2)
  {α:Type}{Q:α→zbo3→Prop}{f:Value→Value→Sem α}
  (hf:∀v u s2 x y H2,Inv X pins σ H2 s2→RelV x v→RelV y u→R x y H2→wpAny (model X.prog X.w) X.A (f v u) Q X.xe s2) :
  wpAny (model X.prog X.w) X.A (eval a X.env) (fun v s₁=>wpAny (model X.prog X.w) X.A (eval b X.env) (fun u s₂=>wpAny (model X.prog X.w) X.A (f v u) Q X.xe s₂) X.xe s₁) X.xe s:=by
 refine thn (ha pins s σ H _ I h) fun v s1 ⟨x,H1,I1,r1,q1⟩=>?_
 refine thn (hb pins s1 σ H1 _ I1 q1) fun u s2 ⟨y,H2,I2,r2,q2⟩=>?_
 exact hf v u s2 x y H2 I2 r1 r2 q2
noncomputable def tVar (i:Nat):TE:=fun σ H Q => ∃v,σ[i]?=some (some v)∧Q v H
noncomputable def tC (v:V):TE:=fun _ H Q=>Q v H
theorem zq7 {i:Nat}{x:Str}{pos:Pos} (hN:X.N[i]?=some x) (hv:Vis X.env.scope x) (hd:(x ==("__debug__":Str))=false:=by decide) (hcd:(x ==("__classdict__":Str))=false:=by decide):PE X (.Name x pos) (tVar i):=by
 intro pins s σ H Q I h
 obtain⟨v,e,h⟩:=h
 obtain⟨m,hn,hl⟩:=I.loc
 obtain⟨u,r,l⟩:=hl i x v hN e hv
 have fin:EP X pins σ Q u s:=⟨v,H,I,r,h⟩
 rcases l with ⟨hk,hm⟩ | ⟨hk,c,hc,hcell⟩
 ·exact wpAny_Name (wpAny_loadName_local I.ok.kind hk hn hm fin) hd
 ·rcases hk with hk | hk
  ·exact wpAny_Name (wpAny_loadName_cell I.ok.kind hk hc hcell fin) hd
  ·exact wpAny_Name (wpAny_loadName_free I.ok.kind hk hc hcell fin hcd) hd
theorem pe_int {i j pos}:PE X (.Constant (.int i) j pos) (tC (.int i)):=fun _ _ _ H _ I h=>wpAny_Constant_int ⟨.int i,H,I.tok _,⟨_,rfl⟩,h⟩
theorem pe_bl {b j pos}:PE X (.Constant (.bool b) j pos) (tC (.bl b)):=fun _ _ _ H _ I h=>Constant_bool ⟨.bl b,H,I,rfl,h⟩
noncomputable def Gl (X:Cx) (x:Str):Prop:=X.env.kindOf x=some .globalImplicit
theorem ld_glob {E:Value→zbo3→Prop}{pins:List (Addr×Obj)}{s:zbo3}{σ:St}{H:Hp}{x:Str}{u:Value}{pos:Pos}{Q:Value→zbo3→Prop} (I:Inv X pins σ H s) (hg:Gl X x) (hm:X.mg x=some u) (h:Q u s)
  (hd:(x ==("__debug__":Str))=false:=by decide):wpAny (model X.prog X.w) X.A (eval (.Name x pos) X.env) Q E s :=
 Calls.Name_function_global I.ok.kind hg (Calls.loadGlobal_global (by rw [I.ok.glob];exact I.mod.glob.keeps I.bk) hm h) hd
theorem zr5 {E:Value→zbo3→Prop}{pins:List (Addr×Obj)}{s:zbo3}{σ:St}{H:Hp}{x:Str}{u:Value}{pos:Pos}{Q:Value→zbo3→Prop} (I:Inv X pins σ H s) (hg:Gl X x) (hm:X.mg x=none) (hv:bootBuiltins x=some u) (h:Q u s)
  (hn:x≠"__name__":=by decide) (hd:(x ==("__debug__":Str))=false:=by decide):wpAny (model X.prog X.w) X.A (eval (.Name x pos) X.env) Q E s:=by
 obtain⟨mb,h1,h2⟩:=I.mod.blt
 exact Calls.Name_function_global I.ok.kind hg (Calls.loadGlobal_builtin (by rw [I.ok.glob];exact I.mod.glob.keeps I.bk) hm (by rw [I.ok.blt];exact h1.keeps I.bk) ((h2 x hn).trans hv) h) hd
theorem pe_bltn {x:Str}{v:V}{u:Value}{pos:Pos} (hg:Gl X x) (hm:X.mg x=none) (hv:bootBuiltins x=some u) (r:RelV v u) (hn:x≠"__name__":=by decide) (hd:(x ==("__debug__":Str))=false:=by decide):PE X (.Name x pos) (tC v) :=
 fun _ _ _ H _ I h=>zr5 I hg hm hv ⟨v,H,I,r,h⟩ hn hd
variable {a b:Expr}{ta tb:TE}{pos:Pos}
variable {tA tB':TT}{rest:List Expr}
noncomputable def tAnd (t u:TT):TT:=fun σ H Q=>t σ H fun c H1=>if c=true then u σ H1 Q else Q false H1
noncomputable def tOr (t u:TT):TT:=fun σ H Q=>t σ H fun c H1=>if c=true then Q true H1 else u σ H1 Q
noncomputable def tNot (t:TT):TT:=fun σ H Q=>t σ H fun c H1=>Q (!c) H1
theorem pw_and1 (ha:PT X a tA):PW X (.BoolOp .And [a] pos) tA:=by
 intro wh pins s σ H Q I h
 refine isTrue_and (thn (ha pins s σ H Q I h) fun c s1 e=>?_)
 cases c with
 |true=>exact isTrue_and_nil e
 |false=>exact e
theorem pw_or1 (ha:PT X a tA):PW X (.BoolOp .Or [a] pos) tA:=by
 intro wh pins s σ H Q I h
 refine isTrue_or (thn (ha pins s σ H Q I h) fun c s1 e=>?_)
 cases c with
 |false=>exact isTrue_or_nil e
 |true=>exact e
theorem pw_and (ha:PT X a tA) (hb:PW X (.BoolOp .And (b::rest) pos) tB'):PW X (.BoolOp .And (a::b::rest) pos) (tAnd tA tB'):=by
 intro wh pins s σ H Q I h
 refine isTrue_and (thn (ha pins s σ H _ I h) fun c s1 ⟨H1,I1,q1⟩=>?_)
 cases c with
 |true=>exact hb wh pins s1 σ H1 Q I1 q1
 |false=>exact⟨H1,I1,q1⟩
theorem pw_or (ha:PT X a tA) (hb:PW X (.BoolOp .Or (b::rest) pos) tB'):PW X (.BoolOp .Or (a::b::rest) pos) (tOr tA tB'):=by
 intro wh pins s σ H Q I h
 refine isTrue_or (thn (ha pins s σ H _ I h) fun c s1 ⟨H1,I1,q1⟩=>?_)
 cases c with
 |true=>exact⟨H1,I1,q1⟩
 |false=>exact hb wh pins s1 σ H1 Q I1 q1
theorem pt_not (ha:PT X a tA):PT X (.UnaryOp .Not a pos) (tNot tA):=by
 intro pins s σ H Q I h
 exact isTrue_not (ha pins s σ H (fun c H1=>Q (!c) H1) I h)
noncomputable def tAndV (ta tb:TE):TE:=fun σ H Q=>ta σ H fun x H1 => ∃c,x=.bl c∧if c=true then tb σ H1 Q else Q (.bl false) H1
theorem pe_one {op}{t:TE} (h:PE X a t):PE X (.BoolOp op [a] pos) t:=fun pins s σ H Q I hw=>BoolOp_one (h pins s σ H Q I hw)
theorem pe_and (ha:PE X a ta) (hb:PE X (.BoolOp .And (b::rest) pos) tb):PE X (.BoolOp .And (a::b::rest) pos) (tAndV ta tb):=by
 intro pins s σ H Q I h
 refine BoolOp_and (thn (ha pins s σ H _ I h) fun v s1 ⟨x,H1,I1,r1,q1⟩=>?_)
 obtain⟨c,rfl,q1⟩:=q1
 cases r1
 refine wpAny_truthy_bool ?_
 cases c with
 |true=>exact hb pins s1 σ H1 Q I1 q1
 |false=>exact⟨.bl false,H1,I1,rfl,q1⟩
end
end L2
namespace L2
open PySem.Spec
noncomputable def SqL (K:zbm7) (H:Hp) (a:Addr) (xs:List V):Prop :=
 Rd H a (.lst xs) ∨
  ∃(o:Obj) (its:Array Value) (n:Nat),K.lookup a=some o∧o.cls=.type "list"∧o.dict=none∧o.data=.seq its n∧its.size≤sizeLine∧Vals xs its.toList
noncomputable def SqT (K:zbm7) (H:Hp) (a:Addr) (xs:List V):Prop :=
 Rd H a (.tup xs) ∨
  ∃(o:Obj) (its:Array Value) (n:Nat),K.lookup a=some o∧o.cls=.type "tuple"∧o.data=.seq its n∧its.size≤sizeLine∧Vals xs its.toList
noncomputable def absV:Value→Option V
 |.none=>some .non
 |.bool b=>some (.bl b)
 |.int i _=>some (.int i)
 |.str x _=>some (.str x)
 |.bytes b _=>some (.byt b)
 |.float b _=>some (.flt b)
 |.ref a=>some (.ref a)
 |.type n=>some (.ty n)
 |_=>none
theorem RelV.abs {x:V}{u:Value} (r:RelV x u):absV u=some x:=by
 cases x with
 |non=>cases r;rfl
 |bl _=>cases r;rfl
 |int _=>obtain⟨t,rfl⟩:=r;rfl
 |str _=>obtain⟨t,rfl⟩:=r;rfl
 |byt _=>obtain⟨t,rfl⟩:=r;rfl
 |flt _=>obtain⟨t,rfl⟩:=r;rfl
 |ref _=>cases r;rfl
 |ty _=>cases r;rfl
theorem RelV.inj {x y:V}{u:Value} (r:RelV x u) (q:RelV y u):x=y:=Option.some.inj (r.abs.symm.trans q.abs)
theorem Vals.inj:∀ {xs ys:List V}{us:List Value},Vals xs us→Vals ys us→xs=ys
 |_,_,_,.nil,.nil=>rfl
 |_,_,_,.cons r t,.cons r' t'=>by rw [r.inj r',Vals.inj t t']
section
variable {X:Cx}{pins:List (Addr×Obj)}{σ:St}{H:Hp}{s:zbo3}{a:Addr}{xs ys:List V}
theorem SqL.of {K:zbm7} (h:H a=some (.lst xs)):SqL K H a xs:=.inl (.inl h)
theorem SqT.of {K:zbm7} (h:H a=some (.tup xs)):SqT K H a xs:=.inl (.inl h)
theorem Inv.list (I:Inv X pins σ H s) (h:SqL X.K H a xs):∃its:List Value,Vals xs its∧PlainL s.heap a its.toArray∧xs.length≤sizeLine:=by
 rcases h with h | ⟨o,its,n,hk,hc,hd,hs,hz,r⟩
 ·obtain⟨z,its,n,r,e⟩:=h.ok I.hok
  exact⟨its,r,⟨_,n,e,rfl,rfl,rfl⟩,z⟩
 ·refine⟨its.toList,r,⟨o,n,I.kIn a o hk,hc,hd,by simpa using hs⟩,?_⟩
  have e:=r.length
  simp only [zcb8]at e
  lia
theorem Inv.tuple (I:Inv X pins σ H s) (h:SqT X.K H a xs):∃its:List Value,Vals xs its∧IsTup s.heap a its.toArray∧xs.length≤sizeLine:=by
 rcases h with h | ⟨o,its,n,hk,hc,hs,hz,r⟩
 ·obtain⟨z,its,r,p⟩:=h.ok I.hok
  exact⟨its,r,p,z⟩
 ·refine⟨its.toList,r,⟨o,I.kIn a o hk,hc,n,by simpa using hs⟩,?_⟩
  have e:=r.length
  simp only [zcb8]at e
  lia
theorem Inv.list_inj (I:Inv X pins σ H s) (h:SqL X.K H a xs) (h':SqL X.K H a ys):xs=ys:=by
 obtain⟨its,r,⟨o,n,e,_,_,d⟩,_⟩:=I.list h
 obtain⟨its',r',⟨o',n',e',_,_,d'⟩,_⟩:=I.list h'
 rw [e]at e';cases e'
 rw [d]at d'
 injection d' with d1 _
 have:its=its':=by simpa using congrArg Array.toList d1
 subst this
 exact r.inj r'
theorem Inv.tuple_inj (I:Inv X pins σ H s) (h:SqT X.K H a xs) (h':SqT X.K H a ys):xs=ys:=by
 obtain⟨its,r,⟨o,e,_,n,d⟩,_⟩:=I.tuple h
 obtain⟨its',r',⟨o',e',_,n',d'⟩,_⟩:=I.tuple h'
 rw [e]at e';cases e'
 rw [d]at d'
 injection d' with d1 _
 have:its=its':=by simpa using congrArg Array.toList d1
 subst this
 exact r.inj r'
end
noncomputable abbrev Cx.wish (X:Cx) (E:Value→zbo3→Prop):Cx:={ X with xe:=E }
noncomputable abbrev Cx.nox (X:Cx):Cx:=X.wish fun _ _=>False
theorem Cx.Ok.wish {X:Cx} (ok:X.Ok) (E:Value→zbo3→Prop):(X.wish E).Ok :=
 ⟨ok.mod,ok.kind,ok.glob,ok.blt,ok.above,ok.inj,ok.has,ok.cab,ok.hd,ok.frames,ok.stk,ok.exf,ok.bs,ok.bsz,ok.noex,ok.exfs,ok.funs,ok.frf,ok.tabs⟩
theorem Cx.Ok.unwish {X:Cx}{E:Value→zbo3→Prop} (ok:(X.wish E).Ok):X.Ok :=
 ⟨ok.mod,ok.kind,ok.glob,ok.blt,ok.above,ok.inj,ok.has,ok.cab,ok.hd,ok.frames,ok.stk,ok.exf,ok.bs,ok.bsz,ok.noex,ok.exfs,ok.funs,ok.frf,ok.tabs⟩
section
variable {X:Cx}{pins:List (Addr×Obj)}{σ:St}{H:Hp}{s:zbo3}{E:Value→zbo3→Prop}
theorem Inv.wish (I:Inv X pins σ H s) (E:Value→zbo3→Prop):Inv (X.wish E) pins σ H s:=⟨I.ok.wish E,I.os,I.bare,I.base,I.loc,I.cell,I.free,I.freeC,I.pin,I.hok,I.len⟩
theorem Inv.unwish (I:Inv (X.wish E) pins σ H s):Inv X pins σ H s:=⟨I.ok.unwish,I.os,I.bare,I.base,I.loc,I.cell,I.free,I.freeC,I.pin,I.hok,I.len⟩
theorem SP.unwish {D:Ends}{f:Flow}{s':zbo3} (h:SP (X.wish E) pins D f s'):SP X pins D f s':=by
 cases f with
 |next=>obtain⟨σ',H',I,q⟩:=h;exact⟨σ',H',I.unwish,q⟩
 |brk=>obtain⟨σ',H',I,q⟩:=h;exact⟨σ',H',I.unwish,q⟩
 |cont=>obtain⟨σ',H',I,q⟩:=h;exact⟨σ',H',I.unwish,q⟩
 |ret u=>obtain⟨v,σ',H',I,r,q⟩:=h;exact⟨v,σ',H',I.unwish,r,q⟩
theorem PSs.nox {st:List Stmt}{t:TS} (h:PSs X.nox st t):PSs X st t:=fun pins s σ H D I hw =>
 wpAny_mono (h pins s σ H D (I.wish _) hw) (fun _ _ q=>q.unwish) fun _ _ z=>False.elim z
end
section
variable {X:Cx}{st:Stmt}{rest:List Stmt}{t u:TS}{e:Expr}{te:TE}{pos:Pos}
noncomputable def tNext:TS:=fun D σ H=>D.nx σ H
noncomputable def tSeq (t u:TS):TS:=fun D σ H=>t { D with nx:=u D } σ H
theorem pss_nil:PSs X [] tNext:=fun _ _ σ H _ I h=>wpAny_execs_nil ⟨σ,H,I,h⟩
theorem pss_cons (h1:PS X st t) (h2:PSs X rest u):PSs X (st::rest) (tSeq t u):=by
 intro pins s σ H D I h
 refine wpAny_execs_cons (thn (h1 pins s σ H { D with nx:=u D } I h) fun f s1 q=>?_)
 cases f with
 |next =>
  obtain⟨σ',H',I',q⟩:=q
  exact h2 pins s1 σ' H' D I' q
 |ret v=>exact q
 |brk=>exact q
 |cont=>exact q
theorem pss_one (h1:PS X st t):PSs X [st] t:=by
 intro pins s σ H D I h
 refine wpAny_execs_cons (thn (h1 pins s σ H D I h) fun f s1 q=>?_)
 cases f with
 |next=>exact wpAny_execs_nil q
 |ret v=>exact q
 |brk=>exact q
 |cont=>exact q
theorem Inv.quiet {pins:List (Addr×Obj)}{σ:St}{H:Hp}{s:zbo3} (I:Inv X pins σ H s):interactive X.env=false:=by simp [interactive,I.ok.kind]
noncomputable def tDrop (te:TE):TS:=fun D σ H=>te σ H fun _ H1=>D.nx σ H1
theorem zaa7 (he:PE X e te) (hs:swapsWith e none pos.line X.env=pure false:=by rfl):PS X (.Expr e pos) (tDrop te):=by
 intro pins s σ H D I h
 exact wpAny_Expr_any (thn (he pins s σ H _ I h) fun v s1 ⟨x,H1,I1,r1,q1⟩=>⟨σ,H1,I1,q1⟩) I.quiet hs
noncomputable def tRet (te:TE):TS:=fun D σ H=>te σ H D.rt
theorem zbd5 (he:PE X e te):PS X (.Return (some e) pos) (tRet te):=by
 intro pins s σ H D I h
 exact wpAny_Return_some (thn (he pins s σ H _ I h) fun v s1 ⟨x,H1,I1,r1,q1⟩=>⟨x,σ,H1,I1,r1,q1⟩)
noncomputable def tIfS (c:TT) (t u:TS):TS:=fun D σ H=>c σ H fun b H1=>if b=true then t D σ H1 else u D σ H1
theorem ps_if {c:Expr}{a b:List Stmt}{tc:TT} (hc:PT X c tc) (ha:PSs X a t) (hb:PSs X b u):PS X (.If c a b pos) (tIfS tc t u):=by
 intro pins s σ H D I h
 refine wpAny_If (thn (hc pins s σ H _ I h) fun d s1 ⟨H1,I1,q1⟩=>?_)
 cases d with
 |true=>exact ha pins s1 σ H1 D I1 q1
 |false=>exact hb pins s1 σ H1 D I1 q1
end
noncomputable abbrev TG:=V→St→Hp→(St→Hp→Prop)→Prop
noncomputable abbrev TGs:=List V→St→Hp→(St→Hp→Prop)→Prop
noncomputable def PG (X:Cx) (target:Expr) (t:TG):Prop :=
 ∀(pins:List (Addr×Obj)) (s:zbo3) (σ:St) (H:Hp) (v:V) (u:Value) (Q:St→Hp→Prop),Inv X pins σ H s→RelV v u→t v σ H Q →
  wpAny (model X.prog X.w) X.A (assign target X.env u) (fun _ s' => ∃σ' H',Inv X pins σ' H' s'∧Q σ' H') X.xe s
noncomputable def PGs (X:Cx) (ts:List Expr) (t:TGs):Prop :=
 ∀(pins:List (Addr×Obj)) (s:zbo3) (σ:St) (H:Hp) (vs:List V) (us:List Value) (Q:St→Hp→Prop),Inv X pins σ H s→Vals vs us→t vs σ H Q →
  wpAny (model X.prog X.w) X.A (assignInOrder ((assignEach ts X.env).map (·.2)) us) (fun _ s' => ∃σ' H',Inv X pins σ' H' s'∧Q σ' H') X.xe s
noncomputable abbrev TSet:=V→V→V→Hp→(Hp→Prop)→Prop
noncomputable def PSet (X:Cx) (t:TSet):Prop :=
 ∀(pins:List (Addr×Obj)) (s:zbo3) (σ:St) (H:Hp) (o i v:V) (ov iv u:Value) (Q:Hp→Prop),Inv X pins σ H s→RelV o ov→RelV i iv→RelV v u→t o i v H Q →
  wpAny (model X.prog X.w) X.A (setItem ov iv u) (fun _ s' => ∃H',Inv X pins σ H' s'∧Q H') X.xe s
section
variable {X:Cx}{pos:Pos}
noncomputable def gName (i:Nat):TG:=fun v σ H Q=>Q (σ.set i (some v)) H
theorem zb3 {i:Nat}{x:Str} (hN:X.N.Nodup) (hi:X.N[i]?=some x) (hx:Loc X.env.scope x) (hf:X.fn x=true∨X.env.scope.names.lookup x=some .local:=by first | exact .inl rfl | exact .inr rfl | assumption):PG X (.Name x pos) (gName i):=by
 intro pins s σ H v u Q I r h
 exact wpAny_assign_Name (zy7 I hN hi hx r (fun s' I'=>⟨_,H,I',h⟩) hf)
noncomputable def gNil:TGs:=fun vs σ H Q=>vs=[]∧Q σ H
noncomputable def gCons (t:TG) (u:TGs):TGs:=fun vs σ H Q => ∃v r,vs=v::r∧t v σ H fun σ' H'=>u r σ' H' Q
theorem zo2:PGs X [] gNil:=by
 intro pins s σ H vs us Q I r h
 obtain⟨e,h⟩:=h
 subst e
 cases r
 exact assignInOrder_nil ⟨σ,H,I,h⟩
theorem ze5 {e:Expr}{es:List Expr}{t:TG}{u:TGs} (h1:PG X e t) (h2:PGs X es u)
  (hs:(assignEach (e::es) X.env).map (·.2)=assign e X.env ::(assignEach es X.env).map (·.2):=by rfl):PGs X (e::es) (gCons t u):=by
 intro pins s σ H vs us Q I r h
 obtain⟨v,vr,e1,h⟩:=h
 subst e1
 cases r with
 |cons r rr =>
  rw [hs]
  refine assignInOrder_cons (thn (h1 pins s σ H _ _ _ I r h) fun _ s1 ⟨σ1,H1,I1,q1⟩=>?_)
  exact h2 pins s1 σ1 H1 _ _ Q I1 rr q1
noncomputable def gTup (K:zbm7) (n:Nat) (t:TGs):TG:=fun v σ H Q => ∃a xs,v=.ref a∧SqT K H a xs∧xs.length=n∧t xs σ H Q
theorem zv9 {es:List Expr}{k:Nat}{t:TGs}{n:Nat} (hc:X.calm=true) (h:PGs X es t)
  (hn:(assignEach es X.env).length=n:=by rfl) (hst:(assignEach es X.env).findIdx? (·.1)=none:=by rfl):PG X (.Tuple es k pos) (gTup X.K n t):=by
 intro pins s σ H v u Q I r hw
 obtain⟨a,xs,e1,hq,hl,hw⟩:=hw
 subst e1
 cases r
 obtain⟨its,rv,ht,hz⟩:=I.tuple hq
 refine assign_Tuple_tuple (I.ok.hd hc) ht (by simp [hn, ← hl,rv.length]) hst fun h' hx=>?_
 have I1:Inv X pins σ H { s with heap:=h' }:=I.kept (t':=s.toks) fun b o e=>hx b o (zbp8 (zbo6 e)) e
 exact h pins _ σ H xs _ Q I1 (by simpa using rv) hw
noncomputable def gSub (to ti:TE) (t:TSet):TG:=fun v σ H Q=>to σ H fun o H1=>ti σ H1 fun i H2=>t o i v H2 fun H3=>Q σ H3
theorem pg_sub {o i:Expr}{to ti:TE}{t:TSet} (ho:PE X o to) (hi:PE X i ti) (hs:PSet X t)
  (ha:∀v,assign (.Subscript o i pos) X.env v=(do
   let ov ← holding [v] (eval o X.env)
   let iv ← holding [v,ov] (eval i X.env)
   standAt pos
   holding [v,ov,iv] (setItem ov iv v)
   release [v,ov,iv] []):=by intro _;rfl):PG X (.Subscript o i pos) (gSub to ti t):=by
 intro pins s σ H v u Q I r h
 rw [ha]
 refine zbn6 (wpAny_holding (thn (ho pins s σ H _ I h) fun ov s1 ⟨x,H1,I1,r1,q1⟩=>?_))
 refine zbn6 (wpAny_holding (thn (hi pins s1 σ H1 _ I1 q1) fun iv s2 ⟨y,H2,I2,r2,q2⟩=>?_))
 refine zbn6 (wpAny_standAt (zbn6 (wpAny_holding (thn (hs pins s2 σ H2 x y v ov iv u _ I2 r1 r2 r q2) fun _ s3 ⟨H3,I3,q3⟩=>?_))))
 exact wpAny_release ⟨σ,H3,I3,q3⟩
noncomputable def tAsg (te:TE) (g:TG):TS:=fun D σ H=>te σ H fun x H1=>g x σ H1 D.nx
theorem zav4 {tg e:Expr}{te:TE}{g:TG} (he:PE X e te) (hg:PG X tg g) (hs:swapsWithSole [tg] e pos.line X.env=pure false:=by rfl) (hw:swappedStores [tg] e X.env=pure none:=by rfl)
  (h1:(assignEach [tg] X.env).map (·.2)=[assign tg X.env]:=by rfl):PS X (.Assign [tg] e pos) (tAsg te g):=by
 intro pins s σ H D I h
 refine wpAny_Assign_stores (thn (he pins s σ H _ I h) fun v s1 ⟨x,H1,I1,r1,q1⟩=>?_) hs hw
 rw [h1]
 exact thn (hg pins s1 σ H1 x v _ I1 r1 q1) fun _ s2 q=>q
theorem ps_set {i:Nat}{x:Str}{e:Expr}{te:TE}{pos':Pos} (hN:X.N.Nodup) (hi:X.N[i]?=some x) (hx:Loc X.env.scope x) (he:PE X e te) (hs:swapsWith e (some (.Name x pos')) pos.line X.env=pure false:=by rfl) (hf:X.fn x=true∨X.env.scope.names.lookup x=some .local:=by first | exact .inl rfl | exact .inr rfl | assumption) :
  PS X (.Assign [.Name x pos'] e pos) (tAsg te (gName i)):=by
 intro pins s σ H D I h
 refine wpAny_Assign_Name (thn (he pins s σ H _ I h) fun v s1 ⟨y,H1,I1,r1,q1⟩=>?_) hs
 exact zy7 I1 hN hi hx r1 (fun s2 I2=>⟨_,H1,I2,q1⟩) hf
noncomputable def tPar (i j:Nat) (ta:TA):TS:=fun D σ H=>ta σ H fun vs H1 => ∃v w,vs=[v,w]∧D.nx ((σ.set i (some v)).set j (some w)) H1
theorem ps_par {i j:Nat}{x y:Str}{a b:Expr}{ta:TA}{px py pt:Pos}{kt k2 pt2} (hc:X.calm=true) (hN:X.N.Nodup) (hi:X.N[i]?=some x) (hj:X.N[j]?=some y) (hij:i≠j)
  (hx:X.env.scope.names.lookup x=some .local) (hy:X.env.scope.names.lookup y=some .local) (ha:PA X [a,b] ta)
  (hw:swappedStores [.Tuple [.Name x px,.Name y py] kt pt] (.Tuple [a,b] k2 pt2) X.env=pure (some [x,y]))
  (hs:swapsWithSole [.Tuple [.Name x px,.Name y py] kt pt] (.Tuple [a,b] k2 pt2) pos.line X.env=pure false:=by rfl) :
  PS X (.Assign [.Tuple [.Name x px,.Name y py] kt pt] (.Tuple [a,b] k2 pt2) pos) (tPar i j ta):=by
 intro pins s σ H D I h
 rw [exec_Assign_arm]
 refine zbn6 (wpAny_standAt ?_)
 rw [hs]
 refine zbn6 (zbp3 ?_)
 rw [if_neg (by decide)]
 refine zbn6 (Tuple_ (thn (ha _ pins s σ H _ I h) fun us s1 ⟨vs,H1,I1,r1,q1⟩=>?_))
 obtain⟨v,w,e1,q1⟩:=q1
 subst e1
 obtain⟨u1,u2,rfl,rv,rw'⟩:∃u1 u2,us=[u1,u2]∧RelV v u1∧RelV w u2:=by
  cases r1 with
  |cons p q =>
   cases q with
   |cons p' q' =>
    cases q'
    exact⟨_,_,rfl,p,p'⟩
 refine wpAny_newObj_type ?_ (by show 2≤sizeLine;decide)
 have I2:Inv X pins σ H1 { s1 with heap:=s1.heap.push { cls:=.type "tuple",data:=.seq [u1,u2].toArray } }:=I1.kept (t':=s1.toks) fun b o e=>zbn8 _ e
 rw [hw]
 refine zbn6 (zbp3 ?_)
 show wpAny (model X.prog X.w) X.A (do rule "assign.swapped-stores";let items ← unpackItems (.ref s1.heap.objs.size) 2 none;assignInOrder [fun v=>bindName X.env y v,fun v=>bindName X.env x v] items.reverse;pure Flow.next) _ _ _
 refine zbn6 (wpAny_rule (zbn6 (unpackItems_tuple (items := #[u1,u2]) (I.ok.hd hc) (IsTup.new s1.heap _) fun h' hx'=>?_)))
 have I3:=I2.kept (h':=h') (t':=s1.toks) fun b o e=>hx' b o (zbp8 (zbo6 e)) e
 show wpAny _ _ (assignInOrder [fun v=>bindName X.env y v,fun v=>bindName X.env x v] [u2,u1] >>= fun _=>pure Flow.next) _ _ _
 refine zbn6 (assignInOrder_cons (wpAny_bindName (zy7 I3 hN hj (.inl hy) rw' (fun s2 I4=>?_) (.inr hy))))
 refine assignInOrder_cons (wpAny_bindName (zy7 I4 hN hi (.inl hx) rv (fun s3 I5=>assignInOrder_nil (zbp3 ?_)) (.inr hx)))
 rw [List.set_comm _ _ (Ne.symm hij)]at I5
 exact⟨_,H1,I5,q1⟩
end
section
variable {X:Cx}{pos:Pos}
noncomputable def tWhile (c:TT) (tb:TS):TS:=fun D σ H => ∃W:Nat→St→Hp→Prop,(∃m,W m σ H)∧∀m σ H,W m σ H →
 c σ H fun b H1=>if b=true then ∃N:St→Hp→Prop,(∀σ' H',N σ' H'→∃m',m' < m∧W m' σ' H')∧tb { D with nx:=N,ct:=N,bk:=D.nx } σ H1 else D.nx σ H1
theorem ps_while {c:Expr}{body:List Stmt}{tc:TT}{tb:TS} (hp:PassesOwn (model X.prog X.w) X.A X.env X.xe) (hc:PT X c tc) (hb:PSs X body tb):PS X (.While c body [] pos) (tWhile tc tb):=by
 intro pins s σ H D I h
 obtain⟨W,⟨m0,w0⟩,turn⟩:=h
 refine wpAny_While (codeAny_whileLoop (fun n s' => ∃σ' H',Inv X pins σ' H' s'∧W n σ' H') ?_ m0 ⟨σ,H,I,w0⟩)
 rintro n s1 ⟨σ1,H1,I1,w1⟩
 refine wpAny_passesOwn hp (thn (hc pins s1 σ1 H1 _ I1 (turn n σ1 H1 w1)) fun b s2 ⟨H2,I2,q2⟩=>?_)
 cases b with
 |true =>
  obtain⟨N,hN,q2⟩:=q2
  rw [if_pos rfl]
  refine wpAny_passesOwn hp (thn (hb pins s2 σ1 H2 _ I2 q2) fun f s3 q3=>?_)
  cases f with
  |next =>
   obtain⟨σ3,H3,I3,n3⟩:=q3
   obtain⟨m',hm,w3⟩:=hN σ3 H3 n3
   exact⟨m',hm,σ3,H3,I3,w3⟩
  |cont =>
   obtain⟨σ3,H3,I3,n3⟩:=q3
   obtain⟨m',hm,w3⟩:=hN σ3 H3 n3
   exact⟨m',hm,σ3,H3,I3,w3⟩
  |brk=>exact q3
  |ret v=>exact q3
 |false =>
  rw [if_neg zbp0]
  exact wpAny_execs_nil ⟨σ1,H2,I2,q2⟩
end
structure It where
 go:Nat→Hp→Prop
 yld:Nat→Hp→V→Hp→Prop
 stop:Nat→Hp→Prop
noncomputable def FpOk (X:Cx) (pins:List (Addr×Obj)) (H:Hp) (b:Addr):Prop :=
 H b=none∧b≠X.env.locals∧b∉X.fs∧(b∈X.ex∨X.s₀.heap.objs.size≤b)∧(∀x c,X.env.cells.lookup x=some c→c≠b)∧∀p∈X.pn++pins,p.1≠b
theorem Inv.fpOk {X:Cx}{pins:List (Addr×Obj)}{σ:St}{H H':Hp}{s:zbo3}{b:Addr} (I:Inv X pins σ H s) (hb:s.heap.objs.size≤b) (hn:H' b=none):FpOk X pins H' b:=by
 refine⟨hn,zbw0 (zbo7 I.lt hb),I.nofs hb,.inr (zbs6 I.sz hb),fun x c e z=>?_,fun p hp z=>?_⟩
 ·obtain⟨v,q⟩:=I.cell x c e
  exact absurd (zbo7 q.lt (by rw [z];exact hb)) (zbt0 _)
 ·exact absurd (zbo7 (zbo6 (I.pin p hp).1) (by rw [z];exact hb)) (zbt0 _)
structure Turn (P:Program) (w:World) (K:zbm7) (tg:Expr) (J:It) (fp:List Addr) (it:Addr) (tn:Nat→Heap→Prop):Prop where
 mem:it∈fp
 obj:∀i h,tn i h→∀b∈fp,∃o,h.get? b=some o∧∀v,o.data≠.cell v
 keep:∀i h h',tn i h→(∀b∈fp,∀o,h.get? b=some o→h'.get? b=some o)→tn i h'
 item:∀(X:Cx),X.prog=P→X.w=w→X.K=K→X.calm=true→∀(i:Nat) (pins:List (Addr×Obj)) (s:zbo3) (σ:St) (H:Hp) (E:Value→zbo3→Prop),Inv X pins σ H s→(∀b∈fp,FpOk X pins H b)→tn i s.heap→J.go i H →
  wpAny (model P w) X.A (pyNext (.ref it)) (fun r s1 => ∃u,r=some u ∧
   wpAny (model P w) X.A (letOwnedTupleGo tg (.ref it) u) (fun _ s2 => ∃x H',Inv X pins σ H' s2∧RelV x u∧J.yld i H x H'∧tn (i+1) s2.heap∧∀b∈fp,H' b=none) E s1) E s
 done:∀(X:Cx),X.prog=P→X.w=w→X.K=K→X.calm=true→∀(i:Nat) (pins:List (Addr×Obj)) (s:zbo3) (σ:St) (H:Hp) (E:Value→zbo3→Prop),Inv X pins σ H s→(∀b∈fp,FpOk X pins H b)→tn i s.heap→J.stop i H →
  wpAny (model P w) X.A (pyNext (.ref it)) (fun r s1=>r=none∧Inv X pins σ H s1) E s
 self:∀(A:Around) (i:Nat) (s:zbo3) (Q:Value→zbo3→Prop) (E:Value→zbo3→Prop),tn i s.heap→Q (.ref it) s→wpAny (model P w) A (pyIter (.ref it)) Q E s
noncomputable abbrev TI:=St→Hp→(It→Hp→Prop)→Prop
noncomputable def PIE (X:Cx) (pins:List (Addr×Obj)) (σ:St) (tg:Expr) (R:It→Hp→Prop) (itv:Value) (s2:zbo3):Prop :=
 ∃(it:Addr) (fp:List Addr) (tn:Nat→Heap→Prop) (J:It) (H':Hp),itv=.ref it∧Inv X pins σ H' s2∧Turn X.prog X.w X.K tg J fp it tn∧tn 0 s2.heap∧(∀b∈fp,FpOk X pins H' b)∧R J H'
noncomputable def PI (X:Cx) (tg iter:Expr) (wi:TI):Prop :=
 ∀(pins:List (Addr×Obj)) (s:zbo3) (σ:St) (H:Hp) (R:It→Hp→Prop),Inv X pins σ H s→wi σ H R →
  wpAny (model X.prog X.w) X.A (eval iter X.env) (fun v s1=>wpAny (model X.prog X.w) X.A (pyIter v) (PIE X pins σ tg R) X.xe s1) X.xe s
theorem go_of {M:Model}{A:Around}{E:Value→zbo3→Prop}{s:zbo3}{tg:Expr}{it:Addr}{u:Value}{o:Obj}{n:String}{vs:Array Value}{Q:Unit→zbo3→Prop} (ho:s.heap.get? it=some o) (hc:o.cls=.type n) (hd:o.data=.fields vs)
  (hn:["enumerate", "zip", "dict_itemiterator", "dict_reverseitemiterator", "odict_iterator", "itertools.zip_longest", "itertools.pairwise"].contains n=false) (hQ:Q () s):wpAny M A (letOwnedTupleGo tg (.ref it) u) Q E s:=by
 unfold letOwnedTupleGo
 cases tg<;>first
  |exact zbp3 hQ
  |(cases u<;>first
    |exact zbp3 hQ
    |(refine zbn6 (wpAny_load ho ?_)
      rw [hc,hd]
      show wpAny M A (if (["enumerate", "zip", "dict_itemiterator", "dict_reverseitemiterator", "odict_iterator", "itertools.zip_longest", "itertools.pairwise"].contains n&&vs[0]? == some (rawInt _))=true then _ else _) Q E s
      rw [if_neg (by intro h;rw [hn,Bool.false_and]at h;cases h)]
      exact zbp3 hQ))
noncomputable def Itl (K:zbm7) (a:Addr):It :=
 ⟨fun i H => ∃xs x,SqL K H a xs∧xs[i]?=some x,fun i H x H'=>H'=H∧∀xs,SqL K H a xs→xs[i]?=some x,fun i H => ∃xs,SqL K H a xs∧xs.length≤i⟩
noncomputable def Itt (K:zbm7) (a:Addr):It :=
 ⟨fun i H => ∃xs x,SqT K H a xs∧xs[i]?=some x,fun i H x H'=>H'=H∧∀xs,SqT K H a xs→xs[i]?=some x,fun i H => ∃xs,SqT K H a xs∧xs.length≤i⟩
noncomputable def Itr (lo:Int) (n:Nat):It:=⟨fun i _=>i<n,fun i H x H'=>H'=H∧x=.int (lo+i),fun i _=>n≤i⟩
theorem zbb8 {P:Program}{w:World}{K:zbm7}{tg:Expr} (a it:Addr):Turn P w K tg (Itl K a) [it] it (fun i h=>h.IsListIter it a i) where
 mem:=by simp
 obj:=fun i h st b hb=>by
  have e:b=it:=by simpa using hb
  subst e
  obtain⟨o,e,c,d⟩:=st
  exact⟨o,e,fun v z=>by rw [d]at z;cases z⟩
 keep:=fun i h h' st k=>st.at fun o e=>k it (by simp) o e
 item:=by
  intro X hP hw hK hc i pins s σ H E I hf st hg
  subst hP hw hK
  obtain⟨xs,x,hq,hx⟩:=hg
  obtain⟨its,rv,p,hz⟩:=I.list hq
  obtain⟨u,hu,ru⟩:=rv.get hx
  obtain⟨f0,f1,f2,f3,f4,f5⟩:=hf it (by simp)
  refine wpAny_pyNext_list_item st p.isList (x:=u) (by simpa using hu) fun h' st' sb=>?_
  have I1:Inv X pins σ H { s with heap:=h' }:=I.turned (t':=s.toks) (fun b o hb e=>(sb.2 b hb).trans e) f0 f1 f3 f4 f5
  obtain⟨o,e,c,d⟩:=id st'
  exact⟨u,rfl,go_of (s:={ s with heap:=h' }) e c d (by decide) ⟨x,H,I1,ru,⟨rfl,fun ys hy=>by rw [I.list_inj hy hq];exact hx⟩,st',fun b hb=>(hf b hb).1⟩⟩
 done:=by
  intro X hP hw hK hc i pins s σ H E I hf st hg
  subst hP hw hK
  obtain⟨xs,hq,hx⟩:=hg
  obtain⟨its,rv,p,hz⟩:=I.list hq
  obtain⟨f0,f1,f2,f3,f4,f5⟩:=hf it (by simp)
  have hl:=rv.length
  exact wpAny_pyNext_list_end (I.ok.hd hc) st p.isList (by simp;lia) fun h' eb=>⟨rfl,I.turned (t':=s.toks) (fun b o hb e=>eb b o hb e) f0 f1 f3 f4 f5⟩
 self:=fun _ _ _ _ _ st h=>wpAny_pyIter_listiter st h
theorem zay2 {P:Program}{w:World}{K:zbm7}{tg:Expr} (a it:Addr):Turn P w K tg (Itt K a) [it] it (fun i h=>h.IsTupleIter it a i) where
 mem:=by simp
 obj:=fun i h st b hb=>by
  have e:b=it:=by simpa using hb
  subst e
  obtain⟨o,e,c,d⟩:=st
  exact⟨o,e,fun v z=>by rw [d]at z;cases z⟩
 keep:=fun i h h' st k=>st.at fun o e=>k it (by simp) o e
 item:=by
  intro X hP hw hK hc i pins s σ H E I hf st hg
  subst hP hw hK
  obtain⟨xs,x,hq,hx⟩:=hg
  obtain⟨its,rv,p,hz⟩:=I.tuple hq
  obtain⟨u,hu,ru⟩:=rv.get hx
  obtain⟨f0,f1,f2,f3,f4,f5⟩:=hf it (by simp)
  refine wpAny_pyNext_tuple_item st (show s.heap.IsTuple a its.toArray from p) (x:=u) (by simpa using hu) fun h' st' sb=>?_
  have I1:Inv X pins σ H { s with heap:=h' }:=I.turned (t':=s.toks) (fun b o hb e=>(sb.2 b hb).trans e) f0 f1 f3 f4 f5
  obtain⟨o,e,c,d⟩:=id st'
  exact⟨u,rfl,go_of (s:={ s with heap:=h' }) e c d (by decide) ⟨x,H,I1,ru,⟨rfl,fun ys hy=>by rw [I.tuple_inj hy hq];exact hx⟩,st',fun b hb=>(hf b hb).1⟩⟩
 done:=by
  intro X hP hw hK hc i pins s σ H E I hf st hg
  subst hP hw hK
  obtain⟨xs,hq,hx⟩:=hg
  obtain⟨its,rv,p,hz⟩:=I.tuple hq
  obtain⟨f0,f1,f2,f3,f4,f5⟩:=hf it (by simp)
  have hl:=rv.length
  exact wpAny_pyNext_tuple_end (I.ok.hd hc) st (show s.heap.IsTuple a its.toArray from p) (by simp;lia) fun h' eb=>⟨rfl,I.turned (t':=s.toks) (fun b o hb e=>eb b o hb e) f0 f1 f3 f4 f5⟩
 self:=fun _ _ _ _ _ st h=>wpAny_pyIter_tupleiter st h
theorem zay3 {P:Program}{w:World}{K:zbm7}{tg:Expr} (it:Addr) (lo:Int) (n:Nat):Turn P w K tg (Itr lo n) [it] it (fun i h=>IsRangeIter h it (lo+(i:Nat)*1) ((n:Int) - (i:Nat)) 1) where
 mem:=by simp
 obj:=fun i h st b hb=>by
  have e:b=it:=by simpa using hb
  subst e
  exact⟨_,st,fun v z=>by
   have z':Data.fields _=Data.cell v:=z
   cases z'⟩
 keep:=fun i h h' st k=>k it (by simp) _ st
 item:=by
  intro X hP hw hK hc i pins s σ H E I hf st hg
  subst hP hw hK
  obtain⟨f0,f1,f2,f3,f4,f5⟩:=hf it (by simp)
  have W:=Walks.range (prog:=X.prog) (w:=X.w) (I.ok.hd hc) it lo 1 n
  refine W.item i s _ _ hg st fun v h' tk hv st' kk=>?_
  obtain⟨t,rfl⟩:=hv
  have I1:Inv X pins σ H { s with heap:=h',toks:=tk }:=I.turned (fun b o hb e=>kk b o (by simpa using hb) e) f0 f1 f3 f4 f5
  refine⟨_,rfl,go_of (s:={ s with heap:=h',toks:=tk }) (n := "range_iterator") st' rfl rfl (by decide) ⟨.int (lo+i),H,I1,⟨t,?_⟩,⟨rfl,rfl⟩,st',fun b hb=>(hf b hb).1⟩⟩
  rw [Int.mul_one]
 done:=by
  intro X hP hw hK hc i pins s σ H E I hf st hg
  subst hP hw hK
  obtain⟨f0,f1,f2,f3,f4,f5⟩:=hf it (by simp)
  exact wpAny_pyNext_range_end (I.ok.hd hc) st (by have:n≤i:=hg;lia) fun h' eb=>⟨rfl,I.turned (t':=s.toks) (fun b o hb e=>eb b o hb e) f0 f1 f3 f4 f5⟩
 self:=fun _ _ _ _ _ st h=>wpAny_pyIter_rangeiter st h
end L2
namespace L2
open PySem.Spec
section
variable {X:Cx}{tg:Expr}
noncomputable def iList (K:zbm7) (tl:TE):TI:=fun σ H R=>tl σ H fun x H1 => ∃a,x=.ref a∧(∃xs,SqL K H1 a xs)∧R (Itl K a) H1
noncomputable def iTup (K:zbm7) (tl:TE):TI:=fun σ H R=>tl σ H fun x H1 => ∃a,x=.ref a∧(∃xs,SqT K H1 a xs)∧R (Itt K a) H1
theorem zbe2 {l:Expr}{tl:TE} (hl:PE X l tl):PI X tg l (iList X.K tl):=by
 intro pins s σ H R I h
 refine thn (hl pins s σ H _ I h) fun v s1 ⟨x,H1,I1,r1,q1⟩=>?_
 obtain⟨a,e,⟨xs,hq⟩,q⟩:=q1
 subst e
 cases r1
 obtain⟨its,rv,p,hz⟩:=I1.list hq
 refine wpAny_pyIter_list p.isList ?_
 refine⟨s1.heap.objs.size,[s1.heap.objs.size],_,_,H1,rfl,I1.kept (t':=s1.toks) fun b o e=>zbn8 _ e,zbb8 a _,⟨_,zbp5 _ rfl,rfl,rfl⟩,fun b hb=>?_,q⟩
 have e:b=s1.heap.objs.size:=by simpa using hb
 subst e
 exact I1.fpOk (zbp4 _) (I1.hok.fresh (zbp4 _))
theorem pi_tup {l:Expr}{tl:TE} (hl:PE X l tl):PI X tg l (iTup X.K tl):=by
 intro pins s σ H R I h
 refine thn (hl pins s σ H _ I h) fun v s1 ⟨x,H1,I1,r1,q1⟩=>?_
 obtain⟨a,e,⟨xs,hq⟩,q⟩:=q1
 subst e
 cases r1
 obtain⟨its,rv,p,hz⟩:=I1.tuple hq
 refine wpAny_pyIter_tuple (show s1.heap.IsTuple a its.toArray from p) ?_
 refine⟨s1.heap.objs.size,[s1.heap.objs.size],_,_,H1,rfl,I1.kept (t':=s1.toks) fun b o e=>zbn8 _ e,zay2 a _,⟨_,zbp5 _ rfl,rfl,rfl⟩,fun b hb=>?_,q⟩
 have e:b=s1.heap.objs.size:=by simpa using hb
 subst e
 exact I1.fpOk (zbp4 _) (I1.hok.fresh (zbp4 _))
theorem zav1 {pins:List (Addr×Obj)}{σ:St}{H:Hp}{s:zbo3}{R:It→Hp→Prop}{E:Value→zbo3→Prop}{lo hi:Int}{t u v:Tok}{tk:Nat} (I:Inv X pins σ H s) (h1 : -(2 ^ 62)≤lo) (h2:lo<2 ^ 62) (h3 : -(2 ^ 62)≤hi) (h4:hi<2 ^ 62)
  (q:R (Itr lo (hi - lo).toNat) H):wpAny (model X.prog X.w) X.A (pyIter (.ref s.heap.objs.size)) (PIE X pins σ tg R) E { s with heap:=s.heap.push { cls:=.type "range",data:=.fields #[.int lo t,.int hi u,.int 1 v] },toks:=tk }:=by
 refine wpAny_pyIter_range (IsRange.new ..) (small_one h1 h2 h3 h4) ?_
 have I1:Inv X pins σ H { s with heap:=s.heap.push { cls:=.type "range",data:=.fields #[.int lo t,.int hi u,.int 1 v] },toks:=tk }:=I.kept fun b o e=>zbn8 _ e
 refine⟨(s.heap.push { cls:=.type "range",data:=.fields #[.int lo t,.int hi u,.int 1 v] }).objs.size,[(s.heap.push { cls:=.type "range",data:=.fields #[.int lo t,.int hi u,.int 1 v] }).objs.size],_,_,H,rfl,
  I1.kept (t':=tk) fun b o e=>zbn8 _ e,zay3 _ lo (hi - lo).toNat,?_,fun b hb=>?_,q⟩
 ·have e1:lo+((0:Nat):Int)*1=lo:=by simp
  have e2:(((hi - lo).toNat:Nat):Int) - ((0:Nat):Int)=Builtin.Range.rangeSize lo hi 1:=by rw [rangeSize_one];split<;>lia
  show IsRangeIter _ _ (lo+((0:Nat):Int)*1) ((((hi - lo).toNat:Nat):Int) - ((0:Nat):Int)) 1
  rw [e1,e2]
  exact zbp5 _ rfl
 ·have e:b=(s.heap.push { cls:=.type "range",data:=.fields #[.int lo t,.int hi u,.int 1 v] }).objs.size:=by simpa using hb
  subst e
  exact I1.fpOk (zbp4 _) (I1.hok.fresh (zbp4 _))
noncomputable def iRng1 (ta:TA):TI:=fun σ H R=>ta σ H fun vs H1 => ∃j:Int,vs=[.int j] ∧ -(2 ^ 62)≤j∧j<2 ^ 62∧R (Itr 0 j.toNat) H1
noncomputable def iRng2 (ta:TA):TI:=fun σ H R=>ta σ H fun vs H1 => ∃i j:Int,vs=[.int i,.int j]∧(-(2 ^ 62)≤i∧i<2 ^ 62 ∧ -(2 ^ 62)≤j∧j<2 ^ 62)∧R (Itr i (j - i).toNat) H1
theorem zak6 {a:Expr}{ta:TA}{p pos:Pos} (hg:Gl X "range") (hm:X.mg "range"=none) (ha:PA X [a] ta) (hs:zbo8 [a] X.env=[(false,eval a X.env)]:=by rfl):PI X tg (.Call (.Name "range" p) [a] [] pos) (iRng1 ta):=by
 intro pins s σ H R I h
 refine Call_ (zr5 I hg hm boot_range (PyProof.Rows.callWith_type1 (thn (ha pos pins s σ H _ I h) fun us s1 ⟨vs,H1,I1,r1,q1⟩=>?_) hs rfl))
 obtain⟨j,e,q1,q2,q⟩:=q1
 subst e
 cases r1 with
 |cons r rr =>
  cases rr
  obtain⟨t,rfl⟩:=r
  exact call_range_1 (zav1 I1 (by lia) (by lia) q1 q2 (by simpa using q))
theorem zak5 {a b:Expr}{ta:TA}{p pos:Pos} (hg:Gl X "range") (hm:X.mg "range"=none) (ha:PA X [a,b] ta) (hs:zbo8 [a,b] X.env=[(false,eval a X.env),(false,eval b X.env)]:=by rfl) (hs2:zbo8 [b] X.env=[(false,eval b X.env)]:=by rfl) :
  PI X tg (.Call (.Name "range" p) [a,b] [] pos) (iRng2 ta):=by
 intro pins s σ H R I h
 refine Call_ (zr5 I hg hm boot_range (PyProof.Rows.callWith_type1 (thn (ha pos pins s σ H _ I h) fun us s1 ⟨vs,H1,I1,r1,q1⟩=>?_) (by rw [hs,hs2]) (by rw [hs2];rfl)))
 obtain⟨i,j,e,⟨q1,q2,q3,q4⟩,q⟩:=q1
 subst e
 cases r1 with
 |cons r rr =>
  cases rr with
  |cons r' rr =>
   cases rr
   obtain⟨t,rfl⟩:=r
   obtain⟨t',rfl⟩:=r'
   exact call_range_2 (zav1 I1 q1 q2 q3 q4 q)
noncomputable def tFor (wi:TI) (g:TG) (tb:TS):TS:=fun D σ H=>wi σ H fun J H1 => ∃W:Nat→Nat→St→Hp→Prop,(∃m,W 0 m σ H1)∧∀i m σ H,W i m σ H →
 (J.stop i H∧D.nx σ H)∨(J.go i H∧∃N:St→Hp→Prop,(∀σ' H',N σ' H'→∃m',m' < m∧W (i+1) m' σ' H')∧∀x H',J.yld i H x H'→g x σ H' fun σ2 H2=>tb { D with nx:=N,ct:=N,bk:=D.nx } σ2 H2)
noncomputable def zr4 (fp:List Addr) (h:Heap):List (Addr×Obj):=fp.filterMap fun b=>(h.get? b).map fun o=>(b,o)
theorem zf7 {fp:List Addr}{h:Heap}{b:Addr}{o:Obj} (hb:b∈fp) (e:h.get? b=some o):(b,o)∈zr4 fp h:=zbx6.mpr ⟨b,hb,by rw [e];rfl⟩
theorem zbe8 {fp:List Addr}{h:Heap}{p:Addr×Obj} (hp:p∈zr4 fp h):p.1∈fp∧h.get? p.1=some p.2:=by
 obtain⟨b,hb,e⟩:=zbx6.mp hp
 cases q:h.get? b with
 |none=>rw [q]at e;cases e
 |some o =>
  rw [q]at e
  have e':(b,o)=p:=Option.some.inj e
  subst e'
  exact⟨hb,q⟩
theorem Inv.pinned {pins:List (Addr×Obj)}{σ:St}{H:Hp}{s:zbo3}{fp:List Addr} (I:Inv X pins σ H s) (hf:∀b∈fp,FpOk X pins H b) (ho:∀b∈fp,∃o,s.heap.get? b=some o∧∀v,o.data≠.cell v):Inv X (pins++zr4 fp s.heap) σ H s :=
 I.pins_of fun p hp=>(zbn2.mp hp).elim (fun z=>I.pin p (zbm6 _ z)) fun z=>by
  obtain⟨hb,e⟩:=zbe8 z
  obtain⟨f0,f1,f2,_⟩:=hf p.1 hb
  obtain⟨o,e',d⟩:=ho p.1 hb
  rw [e]at e';cases e'
  exact⟨e,f0,f1,f2,d⟩
theorem Inv.unpinned {pins pl:List (Addr×Obj)}{σ:St}{H:Hp}{s:zbo3} (I:Inv X (pins++pl) σ H s):Inv X pins σ H s:=I.pins_of fun p hp=>I.pin p (zbm6 _ (zbm8 _ hp))
theorem zbd6 {iter:Expr}{body:List Stmt}{wi:TI}{g:TG}{tb:TS}{pos:Pos} (hp:PassesOwn (model X.prog X.w) X.A X.env X.xe) (hc:X.calm=true) (hi:PI X tg iter wi) (hg:PG X tg g) (hb:PSs X body tb)
  (hs:∀x,foldedSetIterable iter X.env x=pure x:=by intro _;rfl):PS X (.For tg iter body [] pos) (tFor wi g tb):=by
 intro pins s σ H D I h
 refine wpAny_For (thn (hi pins s σ H _ I h) fun v s1 h1=>thn h1 fun itv s2 h2=>?_) hs
 obtain⟨it,fp,tn,J,H2,e,I2,T,st2,f2,W,⟨m0,w0⟩,turn⟩:=h2
 subst e
 -- what stays true of the iterator's objects through the loop
 have stat:∀ {H':Hp},(∀b∈fp,H' b=none)→∀b∈fp,FpOk X pins H' b:=fun hn b hb=>⟨hn b hb,(f2 b hb).2⟩
 refine codeAny_forLoop_any (fun n s' => ∃i σ' H',Inv X pins σ' H' s'∧tn i s'.heap∧(∀b∈fp,H' b=none)∧W i n σ' H') ?_ m0 ⟨0,σ,H2,I2,st2,fun b hb=>(f2 b hb).1,w0⟩
 rintro n s3 ⟨i,σ3,H3,I3,st3,fr3,w3⟩
 rcases turn i n σ3 H3 w3 with ⟨stop,qn⟩ | ⟨go,N,hN,step⟩
 ·refine wpAny_passesOwn hp (thn (T.done X rfl rfl rfl hc i pins s3 σ3 H3 X.xe I3 (stat fr3) st3 stop) fun r s4 ⟨hr,I4⟩=>?_)
  subst hr
  exact wpAny_execs_nil ⟨σ3,H3,I4,qn⟩
 ·refine wpAny_passesOwn hp (thn (T.item X rfl rfl rfl hc i pins s3 σ3 H3 X.xe I3 (stat fr3) st3 go) fun r s4 ⟨u,hr,h4⟩=>?_)
  subst hr
  refine wpAny_passesOwn hp (thn h4 fun _ s5 ⟨x,H5,I5,r5,y5,st5,fr5⟩=>?_)
  have I5':=I5.pinned (stat fr5) (T.obj _ _ st5)
  refine wpAny_passesOwn hp (thn (hg _ s5 σ3 H5 x u _ I5' r5 (step x H5 y5)) fun _ s6 ⟨σ6,H6,I6,q6⟩=>?_)
  refine wpAny_passesOwn hp (thn (hb _ s6 σ6 H6 _ I6 q6) fun f s7 q7=>?_)
  have again:∀ {σ7:St}{H7:Hp},Inv X (pins++zr4 fp s5.heap) σ7 H7 s7→N σ7 H7→∃m,m<n∧∃i σ' H',Inv X pins σ' H' s7∧tn i s7.heap∧(∀b∈fp,H' b=none)∧W i m σ' H':=fun {σ7 H7} I7 n7=>by
   obtain⟨m',hm,w7⟩:=hN σ7 H7 n7
   refine⟨m',hm,i+1,σ7,H7,I7.unpinned,T.keep _ _ _ st5 fun b hb o e=>(I7.pin (b,o) (zbm6 _ (zbm6 _ (zf7 hb e)))).1,fun b hb=>?_,w7⟩
   obtain⟨o,e,d⟩:=T.obj _ _ st5 b hb
   exact (I7.pin (b,o) (zbm6 _ (zbm6 _ (zf7 hb e)))).2.1
  cases f with
  |next=>obtain⟨σ7,H7,I7,n7⟩:=q7;exact again I7 n7
  |cont=>obtain⟨σ7,H7,I7,n7⟩:=q7;exact again I7 n7
  |brk=>obtain⟨σ7,H7,I7,q7⟩:=q7;exact⟨σ7,H7,I7.unpinned,q7⟩
  |ret v=>obtain⟨x7,σ7,H7,I7,r7,q7⟩:=q7;exact⟨x7,σ7,H7,I7.unpinned,r7,q7⟩
end
end L2
namespace L2
open PySem.Spec
noncomputable abbrev R2:=V→V→Hp→VK→Prop
noncomputable def OpR (X:Cx) (f:Value→Value→Sem Value) (r:R2):Prop :=
 ∀(pins:List (Addr×Obj)) (s:zbo3) (σ:St) (H:Hp) (x y:V) (v u:Value) (Q:VK),Inv X pins σ H s→RelV x v→RelV y u→r x y H Q →
  wpAny (model X.prog X.w) X.A (f v u) (EP X pins σ Q) X.xe s
noncomputable def UnR (X:Cx) (f:Value→Sem Value) (r:V→Hp→VK→Prop):Prop :=
 ∀(pins:List (Addr×Obj)) (s:zbo3) (σ:St) (H:Hp) (x:V) (v:Value) (Q:VK),Inv X pins σ H s→RelV x v→r x H Q →
  wpAny (model X.prog X.w) X.A (f v) (EP X pins σ Q) X.xe s
noncomputable def zp0 (X:Cx) (f:Value) (r:List V→Hp→VK→Prop):Prop :=
 ∀(pins:List (Addr×Obj)) (s:zbo3) (σ:St) (H:Hp) (xs:List V) (us:List Value) (Q:VK),Inv X pins σ H s→Vals xs us→r xs H Q →
  wpAny (model X.prog X.w) X.A (call f us) (EP X pins σ Q) X.xe s
noncomputable def TruR (X:Cx) (r:V→Hp→(Bool→Hp→Prop)→Prop):Prop :=
 ∀(pins:List (Addr×Obj)) (s:zbo3) (σ:St) (H:Hp) (x:V) (v:Value) (Q:Bool→Hp→Prop),Inv X pins σ H s→RelV x v→r x H Q →
  wpAny (model X.prog X.w) X.A (truthy v) (TP X pins σ Q) X.xe s
noncomputable def tOp (r:R2) (ta tb:TE):TE:=fun σ H Q=>ta σ H fun x H1=>tb σ H1 fun y H2=>r x y H2 Q
noncomputable def tUn (r:V→Hp→VK→Prop) (ta:TE):TE:=fun σ H Q=>ta σ H fun x H1=>r x H1 Q
noncomputable def rI (C:Int→Int→Prop) (g:Int→Int→V):R2:=fun x y H Q => ∃i j,x=.int i∧y=.int j∧C i j∧Q (g i j) H
noncomputable def rI0 (g:Int→Int→V):R2:=fun x y H Q => ∃i j,x=.int i∧y=.int j∧Q (g i j) H
noncomputable def rU (g:Int→V):V→Hp→VK→Prop:=fun x H Q => ∃i,x=.int i∧Q (g i) H
section
variable {X:Cx}{a b c:Expr}{ta tb tc:TE}{pos:Pos}
theorem binT (ha:PE X a ta) (hb:PE X b tb) {pins:List (Addr×Obj)}{s:zbo3}{σ:St}{H:Hp}{R:V→V→Hp→Prop} (I:Inv X pins σ H s)
  (h:ta σ H fun x H1=>tb σ H1 fun y H2=>R x y H2) {Q:Value→zbo3→Prop}{f:Value→Value→Sem Value}
  (hf:∀v u s2 x y H2,Inv X pins σ H2 s2→RelV x v→RelV y u→R x y H2→wpAny (model X.prog X.w) X.A (f v u) Q X.xe s2) :
  wpAny (model X.prog X.w) X.A (eval a X.env) (fun v s₁=>wpAny (model X.prog X.w) X.A (eval b X.env) (fun u s₂=>wpAny (model X.prog X.w) X.A (f v u) Q X.xe s₂) X.xe s₁) X.xe s:=by
 refine thn (ha pins s σ H _ I h) fun v s1 ⟨x,H1,I1,r1,q1⟩=>?_
 refine thn (hb pins s1 σ H1 _ I1 q1) fun u s2 ⟨y,H2,I2,r2,q2⟩=>?_
 exact hf v u s2 x y H2 I2 r1 r2 q2
theorem pe_un {op:UnaryOp}{r:V→Hp→VK→Prop} (ho:UnR X (unaryOp op) r) (ha:PE X a ta):PE X (.UnaryOp op a pos) (tUn r ta):=by
 intro pins s σ H Q I h
 exact UnaryOp_ (thn (ha pins s σ H _ I h) fun v s1 ⟨x,H1,I1,r1,q1⟩=>ho pins s1 σ H1 x v Q I1 r1 q1)
theorem opI {f:Value→Value→Sem Value}{C:Int→Int→Prop}{g:Int→Int→Int}
  (rule:∀(i j:Int) (t u:Tok) (s:zbo3) (Q:Value→zbo3→Prop) (E:Value→zbo3→Prop),C i j→Q (.int (g i j) s.toks) { s with toks:=s.toks+1 }→wpAny (model X.prog X.w) X.A (f (.int i t) (.int j u)) Q E s) :
  OpR X f (rI C fun i j=>.int (g i j)):=by
 intro pins s σ H x y v u Q I rx ry h
 obtain⟨i,j,rfl,rfl,hc,q⟩:=h
 obtain⟨t,rfl⟩:=rx
 obtain⟨t',rfl⟩:=ry
 exact rule i j t t' s _ _ hc ⟨.int (g i j),H,I.tok _,⟨_,rfl⟩,q⟩
theorem opI0 {f:Value→Value→Sem Value}{g:Int→Int→Int}
  (rule:∀(i j:Int) (t u:Tok) (s:zbo3) (Q:Value→zbo3→Prop) (E:Value→zbo3→Prop),Q (.int (g i j) s.toks) { s with toks:=s.toks+1 }→wpAny (model X.prog X.w) X.A (f (.int i t) (.int j u)) Q E s) :
  OpR X f (rI0 fun i j=>.int (g i j)):=by
 intro pins s σ H x y v u Q I rx ry h
 obtain⟨i,j,rfl,rfl,q⟩:=h
 obtain⟨t,rfl⟩:=rx
 obtain⟨t',rfl⟩:=ry
 exact rule i j t t' s _ _ ⟨.int (g i j),H,I.tok _,⟨_,rfl⟩,q⟩
theorem opB0 {f:Value→Value→Sem Value}{g:Int→Int→Bool}
  (rule:∀(i j:Int) (t u:Tok) (s:zbo3) (Q:Value→zbo3→Prop) (E:Value→zbo3→Prop),Q (.bool (g i j)) s→wpAny (model X.prog X.w) X.A (f (.int i t) (.int j u)) Q E s) :
  OpR X f (rI0 fun i j=>.bl (g i j)):=by
 intro pins s σ H x y v u Q I rx ry h
 obtain⟨i,j,rfl,rfl,q⟩:=h
 obtain⟨t,rfl⟩:=rx
 obtain⟨t',rfl⟩:=ry
 exact rule i j t t' s _ _ ⟨.bl (g i j),H,I,rfl,q⟩
noncomputable def CPow (i j:Int):Prop:=0≤j∧j≤1000000∧i.natAbs<2 ^ 64
theorem op_add:OpR X (binaryOp .Add) (rI0 fun i j=>.int (i+j)):=opI0 fun _ _ _ _ _ _ _ q=>add_int q
theorem op_sub:OpR X (binaryOp .Sub) (rI0 fun i j=>.int (i - j)):=opI0 fun _ _ _ _ _ _ _ q=>sub_int q
theorem op_modN:OpR X (binaryOp .Mod) (rI (fun _ j=>j≠0) fun i j=>.int (i.fmod j)):=opI fun _ _ _ _ _ _ _ hc q=>mod_int' hc q
theorem op_pow:OpR X (binaryOp .Pow) (rI CPow fun i j=>.int (i ^ j.toNat)):=opI fun _ _ _ _ _ _ _ hc q=>pow_int_small hc.1 hc.2.1 hc.2.2 q
theorem unI {f:Value→Sem Value}{g:Int→Int}
  (rule:∀(i:Int) (t:Tok) (s:zbo3) (Q:Value→zbo3→Prop) (E:Value→zbo3→Prop),Q (.int (g i) s.toks) { s with toks:=s.toks+1 }→wpAny (model X.prog X.w) X.A (f (.int i t)) Q E s) :
  UnR X f (rU fun i=>.int (g i)):=by
 intro pins s σ H x v Q I rx h
 obtain⟨i,rfl,q⟩:=h
 obtain⟨t,rfl⟩:=rx
 exact rule i t s _ _ ⟨.int (g i),H,I.tok _,⟨_,rfl⟩,q⟩
theorem un_neg:UnR X (unaryOp .USub) (rU fun i=>.int (-i)):=unI fun _ _ _ _ _ q=>neg_int q
end
noncomputable def scal:V→V→Bool
 |.non,.non=>true | .non,.int _=>true | .int _,.non=>true | .non,.bl _=>true | .bl _,.non=>true | .non,.str _=>true | .str _,.non=>true
 |.int _,.int _=>true | .bl _,.bl _=>true | .str _,.str _=>true | .byt _,.byt _=>true
 |.int _,.str _=>true | .str _,.int _=>true | .bl _,.str _=>true | .str _,.bl _=>true
 |_,_=>false
noncomputable def rEq:R2:=fun x y H Q=>scal x y=true∧Q (.bl (decide (x=y))) H
noncomputable def rNe:R2:=fun x y H Q=>scal x y=true∧Q (.bl (!decide (x=y))) H
theorem zbi6 {i j:Int}:decide (V.int i=V.int j)=(i == j):=by
 rw [zbt4]
 simp
theorem dec_bl {i j:Bool}:decide (V.bl i=V.bl j)=(i == j):=by
 rw [zbt4]
 simp
theorem zbi5 {i j:Str}:decide (V.str i=V.str j)=(i == j):=by
 rw [zbt4]
 simp
theorem zbi7 {i j:Array UInt8}:decide (V.byt i=V.byt j)=(i.toList == j.toList):=by
 rw [zbt4]
 cases i
 cases j
 simp
section
variable {X:Cx}{a b c:Expr}{ta tb tc:TE}{pos:Pos}
theorem zf2 {pins:List (Addr×Obj)}{σ:St}{H:Hp}{s:zbo3}{Q:VK}{k k':Bool} (I:Inv X pins σ H s) (q:Q (.bl k) H) (e:k=k'):EP X pins σ Q (.bool k') s:=by
 subst e
 exact⟨.bl k,H,I,rfl,q⟩
theorem op_eq:OpR X (compareOp .Eq) rEq:=by
 intro pins s σ H x y v u Q I rx ry h
 obtain⟨hs,q⟩:=h
 cases x with
 |non =>
  cases rx
  cases y with
  |non=>cases ry;exact PySem.EqNone.eq_none_none (zf2 I q (by simp))
  |bl j=>cases ry;exact PySem.EqNone.eq_none_bool (zf2 I q (by simp))
  |int j=>obtain⟨t',rfl⟩:=ry;exact PySem.EqNone.eq_none_int (zf2 I q (by simp))
  |str j=>obtain⟨t',rfl⟩:=ry;exact PySem.EqNone.eq_none_str (zf2 I q (by simp))
  |_=>exact absurd (show false=true from hs) zbp0
 |bl i =>
  cases rx
  cases y with
  |non=>cases ry;exact PySem.EqNone.eq_bool_none (zf2 I q (by simp))
  |bl j=>cases ry;exact eq_bool (zf2 I q dec_bl)
  |str j=>obtain⟨t',rfl⟩:=ry;exact PySem.EqMixed.eq_bool_str (zf2 I q (by simp))
  |_=>exact absurd (show false=true from hs) zbp0
 |int i =>
  obtain⟨t,rfl⟩:=rx
  cases y with
  |non=>cases ry;exact PySem.EqNone.eq_int_none (zf2 I q (by simp))
  |int j=>obtain⟨t',rfl⟩:=ry;exact eq_int (zf2 I q zbi6)
  |str j=>obtain⟨t',rfl⟩:=ry;exact PySem.EqMixed.eq_int_str (zf2 I q (by simp))
  |_=>exact absurd (show false=true from hs) zbp0
 |str i =>
  obtain⟨t,rfl⟩:=rx
  cases y with
  |non=>cases ry;exact PySem.EqNone.eq_str_none (zf2 I q (by simp))
  |bl j=>cases ry;exact PySem.EqMixed.eq_str_bool (zf2 I q (by simp))
  |int j=>obtain⟨t',rfl⟩:=ry;exact PySem.EqMixed.eq_str_int (zf2 I q (by simp))
  |str j=>obtain⟨t',rfl⟩:=ry;exact eq_str (zf2 I q zbi5)
  |_=>exact absurd (show false=true from hs) zbp0
 |byt i =>
  obtain⟨t,rfl⟩:=rx
  cases y with
  |byt j=>obtain⟨t',rfl⟩:=ry;exact PySem.W.eq_bytes (zf2 I q zbi7)
  |_=>exact absurd (show false=true from hs) zbp0
 |_=>cases y<;>exact absurd (show false=true from hs) zbp0
theorem op_ne:OpR X (compareOp .NotEq) rNe:=by
 intro pins s σ H x y v u Q I rx ry h
 obtain⟨hs,q⟩:=h
 cases x with
 |non =>
  cases rx
  cases y with
  |non=>cases ry;exact PySem.EqNone.ne_none_none (zf2 I q (by simp))
  |bl j=>cases ry;exact PySem.EqNone.ne_none_bool (zf2 I q (by simp))
  |int j=>obtain⟨t',rfl⟩:=ry;exact PySem.EqNone.ne_none_int (zf2 I q (by simp))
  |str j=>obtain⟨t',rfl⟩:=ry;exact PySem.EqNone.ne_none_str (zf2 I q (by simp))
  |_=>exact absurd (show false=true from hs) zbp0
 |bl i =>
  cases rx
  cases y with
  |non=>cases ry;exact PySem.EqNone.ne_bool_none (zf2 I q (by simp))
  |bl j=>cases ry;exact ne_bool (zf2 I q (congrArg not dec_bl))
  |str j=>obtain⟨t',rfl⟩:=ry;exact PySem.EqMixed.ne_bool_str (zf2 I q (by simp))
  |_=>exact absurd (show false=true from hs) zbp0
 |int i =>
  obtain⟨t,rfl⟩:=rx
  cases y with
  |non=>cases ry;exact PySem.EqNone.ne_int_none (zf2 I q (by simp))
  |int j=>obtain⟨t',rfl⟩:=ry;exact ne_int (zf2 I q (congrArg not zbi6))
  |str j=>obtain⟨t',rfl⟩:=ry;exact PySem.EqMixed.ne_int_str (zf2 I q (by simp))
  |_=>exact absurd (show false=true from hs) zbp0
 |str i =>
  obtain⟨t,rfl⟩:=rx
  cases y with
  |non=>cases ry;exact PySem.EqNone.ne_str_none (zf2 I q (by simp))
  |bl j=>cases ry;exact PySem.EqMixed.ne_str_bool (zf2 I q (by simp))
  |int j=>obtain⟨t',rfl⟩:=ry;exact PySem.EqMixed.ne_str_int (zf2 I q (by simp))
  |str j=>obtain⟨t',rfl⟩:=ry;exact ne_str (zf2 I q (congrArg not zbi5))
  |_=>exact absurd (show false=true from hs) zbp0
 |byt i =>
  obtain⟨t,rfl⟩:=rx
  cases y with
  |byt j=>obtain⟨t',rfl⟩:=ry;exact PySem.W.ne_bytes (zf2 I q (congrArg not zbi7))
  |_=>exact absurd (show false=true from hs) zbp0
 |_=>cases y<;>exact absurd (show false=true from hs) zbp0
theorem op_lt:OpR X (compareOp .Lt) (rI0 fun i j=>.bl (decide (i<j))):=opB0 fun _ _ _ _ _ _ _ q=>lt_int q
theorem op_le:OpR X (compareOp .LtE) (rI0 fun i j=>.bl (decide (i≤j))):=opB0 fun _ _ _ _ _ _ _ q=>le_int q
theorem op_gt:OpR X (compareOp .Gt) (rI0 fun i j=>.bl (decide (j<i))):=opB0 fun _ _ _ _ _ _ _ q=>gt_int q
theorem op_ge:OpR X (compareOp .GtE) (rI0 fun i j=>.bl (decide (j≤i))):=opB0 fun _ _ _ _ _ _ _ q=>ge_int q
theorem nomark (b:Expr) {op:CmpOp} (h:op≠.In:=by decide) (h2:op≠.NotIn:=by decide):behindInMarks op b=false:=by
 have e1:(op == CmpOp.In)=false:=by cases op<;>first | rfl | exact absurd rfl h
 have e2:(op == CmpOp.NotIn)=false:=by cases op<;>first | rfl | exact absurd rfl h2
 cases b<;>simp [behindInMarks,e1,e2]
noncomputable def tChain (r r':R2) (ta tb tc:TE):TE:=fun σ H Q=>ta σ H fun x H1=>tb σ H1 fun y H2=>r x y H2 fun z H3 => ∃k,z=.bl k ∧
 (if k=true then tc σ H3 fun w' H4=>r' y w' H4 Q else Q (.bl false) H3)
theorem pe_chain {op op':CmpOp}{r r':R2} (ho:OpR X (compareOp op) r) (ho':OpR X (compareOp op') r') (ha:PE X a ta) (hb:PE X b tb) (hc:PE X c tc)
  (hm:lastMarks [op,op'] [b,c]=false:=by with_unfolding_all rfl):PE X (.Compare a [op,op'] [b,c] pos) (tChain r r' ta tb tc):=by
 intro pins s σ H Q I h
 refine Compare_chain (thn (ha pins s σ H _ I h) fun v s1 ⟨x,H1,I1,r1,q1⟩=>chain_link (thn (hb pins s1 σ H1 _ I1 q1) fun u s2 ⟨y,H2,I2,r2,q2⟩ =>
  thn (ho pins s2 σ H2 x y v u _ I2 r1 r2 q2) fun d s3 ⟨z,H3,I3,r3,k,e,q3⟩=>?_)) hm
 subst e
 cases r3
 refine wpAny_truthy_bool ?_
 cases k with
 |false=>exact ite_ff ⟨.bl false,H3,I3,rfl,q3⟩
 |true=>exact ite_tt (chain_last (thn (hc pins s3 σ H3 _ I3 q3) fun w' s4 ⟨z',H4,I4,r4,q4⟩=>ho' pins s4 σ H4 y z' u w' Q I4 r2 r4 q4))
noncomputable def TruV (K:zbm7) (x:V) (H:Hp) (k:Bool):Prop :=
 match x with
 |.non=>k=false
 |.bl b=>k=b
 |.int i=>k=(i != 0)
 |.str y=>y.length≤sizeLine∧k=((y.length:Int) != 0)
 |.byt y=>y.size≤sizeLine∧k=((y.size:Int) != 0)
 |.ref p=>(∃xs,SqL K H p xs∧k=!xs.isEmpty)∨(∃xs,SqT K H p xs∧k=!xs.isEmpty)∨∃kvs,H p=some (.dK kvs)∧k=!kvs.isEmpty
 |_=>False
theorem zba2 {κ:Type}{kvs:List (κ×V)}{vs:List (κ×Value)} (r:KV kvs vs):(!vs.isEmpty)=!kvs.isEmpty:=by
 cases r<;>rfl
theorem zae5 {xs:List V}{its:List Value} (r:Vals xs its):(!its.toArray.isEmpty)=!xs.isEmpty:=by
 cases r<;>simp
theorem zam5:(sizeLine:Nat)<2 ^ 63:=by rw [sizeLine_eq];decide
theorem tru_ok:TruR X (fun x H Q => ∃k,TruV X.K x H k∧Q k H):=by
 intro pins s σ H x v Q I rx h
 obtain⟨k,e,q⟩:=h
 have hl:=zam5
 have hs:sizeLine=16777216:=sizeLine_eq
 cases x with
 |non =>
  cases rx
  have e':k=false:=e
  subst e'
  exact truthy_none ⟨H,I,q⟩
 |bl b =>
  cases rx
  have e':k=b:=e
  subst e'
  exact wpAny_truthy_bool ⟨H,I,q⟩
 |int i =>
  obtain⟨t,rfl⟩:=rx
  have e':k=(i != 0):=e
  subst e'
  exact PySem.P.truthy_int ⟨H,I,q⟩
 |str y =>
  obtain⟨t,rfl⟩:=rx
  obtain⟨hy,e'⟩:y.length≤sizeLine∧k=((y.length:Int) != 0):=e
  subst e'
  exact PySem.P.truthy_str (by lia) ⟨H,I.tok _,q⟩
 |byt y =>
  obtain⟨t,rfl⟩:=rx
  obtain⟨hy,e'⟩:y.size≤sizeLine∧k=((y.size:Int) != 0):=e
  subst e'
  exact PySem.W.truthy_bytes (by lia) ⟨H,I.tok _,q⟩
 |ref p =>
  cases rx
  have e':(∃xs,SqL X.K H p xs∧k=!xs.isEmpty)∨(∃xs,SqT X.K H p xs∧k=!xs.isEmpty)∨∃kvs,H p=some (.dK kvs)∧k=!kvs.isEmpty:=e
  rcases e' with ⟨xs,hx,e'⟩ | ⟨xs,hx,e'⟩ | ⟨kvs,hx,e'⟩
  ·subst e'
   obtain⟨its,r,pl,hz⟩:=I.list hx
   have hlen:=r.length
   exact wpAny_truthy_list pl.isList (by simp only [zbo4];lia) ⟨H,I.tok _,by rw [zae5 r];exact q⟩
  ·subst e'
   obtain⟨its,r,pl,hz⟩:=I.tuple hx
   have hlen:=r.length
   exact truthy_tuple pl (by simp only [zbo4];lia) ⟨H,I.tok _,by rw [zae5 r];exact q⟩
  ·subst e'
   obtain⟨hz,hS,vs,r,m⟩:kvs.length≤sizeLine∧(p == sysModules)=false∧∃vs,KV kvs vs∧s.heap.DictOf (zh1 X.prog X.w) p vs:=I.hok p _ hx
   have hlen:kvs.length=vs.length:=Paired.length r
   exact wpAny_truthy_dict hS m (by lia) ⟨H,I.tok _,by rw [zba2 r];exact q⟩
 |_=>exact (show False from e).elim
theorem pt_truth (ha:PE X a ta) (he:∀whole,isTrue a X.env whole=(do let v ← whole;standAt a.pos;holding [v] (truthy v))) :
  PT X a (fun σ H Q=>ta σ H fun x H' => ∃k,TruV X.K x H' k∧Q k H'):=by
 intro pins s σ H Q I h
 exact isTrue_plain (thn (ha pins s σ H _ I h) fun v s1 ⟨x,H1,I1,r1,q1⟩=>tru_ok pins s1 σ H1 x v Q I1 r1 q1) (he _)
theorem zy3 {x:V}{us:List Value} (r:Vals [x] us):∃u,us=[u]∧RelV x u:=by
 cases r with
 |cons r1 r2=>cases r2;exact⟨_,rfl,r1⟩
theorem vals2 {x y:V}{us:List Value} (r:Vals [x,y] us):∃u w',us=[u,w']∧RelV x u∧RelV y w':=by
 cases r with
 |cons r1 r2 =>
  cases r2 with
  |cons r3 r4=>cases r4;exact⟨_,_,rfl,r1,r3⟩
theorem call_abs:zp0 X (.builtin "abs") (fun xs H Q => ∃i,xs=[.int i]∧Q (.int (if i<0 then -i else i)) H):=by
 intro pins s σ H xs us Q I r h
 obtain⟨i,rfl,q⟩:=h
 obtain⟨u,rfl,t,rfl⟩:=zy3 r
 exact call_abs_int fun u tk=>⟨.int (if i<0 then -i else i),H,I.tok _,⟨_,rfl⟩,q⟩
theorem zbl1 (hc:X.calm=true):zp0 X (.builtin "max") (fun xs H Q => ∃i j,xs=[.int i,.int j]∧Q (.int (if j > i then j else i)) H):=by
 intro pins s σ H xs us Q I r h
 obtain⟨i,j,rfl,q⟩:=h
 obtain⟨u,w',rfl,⟨t,rfl⟩,⟨t',rfl⟩⟩:=vals2 r
 refine max_two_ints (I.ok.hd hc) fun h' tk k=>⟨_,H,I.kept k,?_,q⟩
 by_cases hj:j > i
 ·rw [if_pos hj,if_pos hj];exact⟨_,rfl⟩
 ·rw [if_neg hj,if_neg hj];exact⟨_,rfl⟩
theorem zbk9 (hc:X.calm=true):zp0 X (.builtin "min") (fun xs H Q => ∃i j,xs=[.int i,.int j]∧Q (.int (if j<i then j else i)) H):=by
 intro pins s σ H xs us Q I r h
 obtain⟨i,j,rfl,q⟩:=h
 obtain⟨u,w',rfl,⟨t,rfl⟩,⟨t',rfl⟩⟩:=vals2 r
 refine min_two_ints (I.ok.hd hc) fun h' tk k=>⟨_,H,I.kept k,?_,q⟩
 by_cases hj:j<i
 ·rw [if_pos hj,if_pos hj];exact⟨_,rfl⟩
 ·rw [if_neg hj,if_neg hj];exact⟨_,rfl⟩
end
end L2
namespace L2
open PySem.Spec
structure ObjM (h:Heap) (x dx C:Addr) (mA:Str→Option Value):Prop where
 obj:h.get? x=some (zca4 C dx)
 ns:h.Ns1 dx mA
 ne:dx≠x
theorem zbg1 {h:Heap}{dx:Addr}{mA:Str→Option Value} (n:h.Ns1 dx mA):∃od,h.get? dx=some od∧∀name,zcb9 name od=some (mA name):=by
 obtain⟨o,es,ep,ho,hd,hk,_,hm⟩:=n
 refine⟨o,ho,fun name=>?_⟩
 have e:=hm name
 unfold nsFind findBy at e
 rw [← Array.find?_toList]at e
 unfold zcb9
 rw [hd]
 dsimp only
 split
 ·rename_i y q
  rw [q]at e
  exact congrArg some e
 ·rename_i q
  rw [q]at e
  have a:es.toList.any (·.refKey)=false:=by
   rw [zcc8]
   intro y hy
   obtain⟨z,t,hkey⟩:=hk y (Array.mem_toList_iff.mp hy)
   simp [DictEntry.refKey,hkey]
  have a' : ¬ es.toList.any (·.refKey)=true:=by rw [a];exact zbp0
  rw [if_neg a']
  exact congrArg some e
theorem ObjM.look {h:Heap}{x dx C:Addr}{mA:Str→Option Value} (I:ObjM h x dx C mA):∃od,PySem.W.InstAt h x (zca4 C dx) C (some od)∧∀name,zcb9 name od=some (mA name) :=
 let ⟨od,ho,hl⟩:=zbg1 I.ns
 ⟨od,⟨I.obj,rfl,rfl,ho⟩,hl⟩
section
variable {prog:Program}{w:World}{A:Around}{E:Value→zbo3→Prop}{s:zbo3}{K:zbm7}{x dx C f:Addr}{mA:Str→Option Value}{name:Str}{v:Value}
theorem get_map {expr:Bool}{Q:Value→zbo3→Prop} (X:K.In s.heap) (I:ObjM s.heap x dx C mA) (hg:zcd6 K C name=true) (hh:zcc9 K C=true)
  (ha:zbw3 K (.ref C) name=some none) (hv:mA name=some v) (hv':PySem.W.handedIn v=true) (h:Q v { s with toks:=s.toks+1 }) :
  wpAny (model prog w) A (getAttr (.ref x) name expr) Q E s:=by
 obtain⟨od,J,hl⟩:=I.look
 exact PySem.W.get_value X J (PySem.W.plainGet_of hg).1 (PySem.W.findObj_own hh ha rfl (by rw [hl,hv])) hv' h
end
theorem RelO.some_of {v:V}{o:Option Value} (r:RelO (some v) o):∃u,o=some u∧RelV v u:=by
 cases o with
 |none=>exact (show False from r).elim
 |some u=>exact⟨u,rfl,r⟩
structure Cls (K:zbm7) (C:Addr):Prop where
 pg:zcd6 K C Str.empty=true
 hd:zcc9 K C=true
 po:PySem.W.plainOver K C=true
 sa:zbw3 K (.ref C) "__setattr__"=some (some (.builtin "object.__setattr__"))
structure Con (K:zbm7) (C:Addr) (f:Str) (v:V) (u:Value):Prop where
 at_:zbw3 K (.ref C) f=some (some u)
 rel:RelV v u
 get:zcd0 K u "__get__"=some none
 cp:PySem.W.copiedNames.contains f=false
structure Meth (K:zbm7) (C:Addr) (m:Str) (f:Addr):Prop where
 at_:zbw3 K (.ref C) m=some (some (.ref f))
 fn:PySem.W.isFn K (.ref f)=true
 kp:zbs0 K (.ref f)=true
section
variable {X:Cx}{pins:List (Addr×Obj)}{σ:St}{H:Hp}{s:zbo3}{A:Around}{E:Value→zbo3→Prop}{Q:Value→zbo3→Prop}{c:Value}{b:Bool}
inductive TyOf (K:zbm7) (H:Hp):V→Value→Prop where
 |non:TyOf K H .non (.type "NoneType")
 |bl (x:Bool):TyOf K H (.bl x) (.type "bool")
 |int (i:Int):TyOf K H (.int i) (.type "int")
 |str (x:Str):TyOf K H (.str x) (.type "str")
 |flt (x:UInt64):TyOf K H (.flt x) (.type "float")
 |lst {a:Addr}{xs:List V} (e:H a=some (.lst xs)):TyOf K H (.ref a) (.type "list")
 |frz {a:Addr}{o:Obj}{xs:List V} (e:H a=some (.frz o (.lst xs))):TyOf K H (.ref a) (.type "list")
 |tup {a:Addr}{xs:List V} (e:H a=some (.tup xs)):TyOf K H (.ref a) (.type "tuple")
 |dK {a:Addr}{kvs:List (Key×V)} (e:H a=some (.dK kvs)):TyOf K H (.ref a) (.type "dict")
 |dT {a:Addr}{kvs:List (List Key×V)} (e:H a=some (.dT kvs)):TyOf K H (.ref a) (.type "dict")
 |ins {a C dx:Addr}{fs:List (Str×V)} (e:H a=some (.ins C dx fs)) (cl:Cls K C) (ha:zbw3 K (.ref C) "__class__"=some (some (.builtin "object.__class__")))
   (hn:zcd0 K (.builtin "object.__class__") "__get__"=some (some (.builtin "getset_descriptor.__get__"))) (htk:PySem.W.takesIn K (.builtin "object.__class__")=some true)
   (hm:PySem.W.mroIn K C (.type "object")=some true):TyOf K H (.ref a) (.ref C)
end
end L2
namespace L2
open PySem.Spec
structure Room (k:Nat) (A:Around):Prop where
 hd:A.handled=none
 dp:A.depth+3*k+5<recursionLimit
 un:A.units+16*k+200<cLine
theorem Room.mono {j k:Nat}{A:Around} (r:Room k A) (h:j≤k):Room j A:=⟨r.hd,by have:=r.dp;lia,by have:=r.un;lia⟩
theorem Room.deeper {k:Nat}{A:Around} (r:Room (k+1) A) (env:Env):Room k (A.deeper env) :=
 ⟨r.hd,by have:=r.dp;show A.depth+1+3*k+5<_;lia,by have:=r.un;show A.units+3+16*k+200<_;lia⟩
theorem Room.depth {k:Nat}{A:Around} (r:Room k A):A.depth<recursionLimit:=by have:=r.dp;lia
theorem Room.units {k:Nat}{A:Around} (r:Room k A):A.units+64<cLine:=by have:=r.un;lia
noncomputable def tNil:TA:=fun _ H Q=>Q [] H
noncomputable def tCons (ta:TE) (tr:TA):TA:=fun σ H Q=>ta σ H fun x H1=>tr σ H1 fun xs H2=>Q (x::xs) H2
section
variable {X:Cx}{e:Expr}{es:List Expr}{te:TE}{t:TA}{pos:Pos}
theorem zm1:PA X [] tNil:=fun _ _ _ _ H Q I h=>Calls.spliced_nil ⟨[],H,I,.nil,h⟩
theorem zh0 (ha:PE X e te) (hr:PA X es t) (hs:zbo8 (e::es) X.env=(false,eval e X.env)::zbo8 es X.env:=by rfl):PA X (e::es) (tCons te t):=by
 intro pos pins s σ H Q I h
 rw [hs]
 show wpAny _ _ (spliced ((false,eval e X.env)::zbu1 pos (zbo8 es X.env))) _ _ s
 refine Calls.spliced_cons (thn (ha pins s σ H _ I h) fun u s1 ⟨x,H1,I1,r1,q1⟩=>?_)
 exact thn (hr pos pins s1 σ H1 _ I1 q1) fun us s2 ⟨xs,H2,I2,r2,q2⟩=>⟨x::xs,H2,I2,.cons r1 r2,q2⟩
noncomputable def tTup (t:TA):TE:=fun σ H Q=>t σ H fun xs H1=>xs.length≤sizeLine∧∀p,H1 p=none→Q (.ref p) (upd H1 p (.tup xs))
noncomputable def tLst (t:TA):TE:=fun σ H Q=>t σ H fun xs H1=>xs.length≤sizeLine∧∀p,H1 p=none→Q (.ref p) (upd H1 p (.lst xs))
theorem pe_tup {x1} (h:PA X es t):PE X (.Tuple es x1 pos) (tTup t):=by
 intro pins s σ H Q I hq
 refine wpAny_Tuple_spliced (thn (h pos pins s σ H _ I hq) fun us s1 ⟨xs,H1,I1,r,z,q⟩=>⟨by rw [← r.length];exact z,?_⟩)
 have hf:H1 s1.heap.objs.size=none:=I1.hok.fresh (zbp4 _)
 refine⟨.ref s1.heap.objs.size,upd H1 s1.heap.objs.size (.tup xs),I1.laid (t':=s1.toks) (fun b u e=>zbn8 _ e) (zbp4 _) ?_,rfl,q _ hf⟩
 exact⟨z,us,r,⟨_,zbp5 _ rfl,rfl,_,rfl⟩⟩
theorem pe_lst (h:PA X es t):PE X (.List es pos) (tLst t):=by
 intro pins s σ H Q I hq
 refine wpAny_List_spliced (thn (h pos pins s σ H _ I hq) fun us s1 ⟨xs,H1,I1,r,z,q⟩=>⟨by rw [← r.length];exact z,?_⟩)
 have hf:H1 s1.heap.objs.size=none:=I1.hok.fresh (zbp4 _)
 refine⟨.ref s1.heap.objs.size,upd H1 s1.heap.objs.size (.lst xs),I1.laid (t':=s1.toks) (fun b u e=>zbn8 _ e) (zbp4 _) ?_,rfl,q _ hf⟩
 exact⟨z,us,0,r,zbp5 _ rfl⟩
end
noncomputable abbrev Sp:=List V→Hp→VK→XK→Prop
noncomputable abbrev CXT:=List Env→Hp→zbo3→XK→Value→zbo3→Prop
structure Env0 (P:Program) (w:World) (K:zbm7) (mg:Str→Option Value) (base:BHeap) (A:Around) (outer:List Env) (s:zbo3) (H:Hp):Prop where
 frames:A.frames=some outer
 mod:Mod K mg base
 bs:∀b o,base.get? b=some o→s.heap.get? b=some o∧H b=none
 bsz:base.objs.size≤s.heap.objs.size
 funs:s.heap.FunFrames base outer
 frf:∀b∈frs outer,H b=none
 hok:HOk P w H s.heap
 bare:AllBare s.gens
 tabs:∀p∈base.tabs,H p.1=some (.tbl p.2)
noncomputable def CE (outer:List Env) (P:Program) (w:World) (H:Hp) (s:zbo3) (Q:VK) (u:Value) (s':zbo3):Prop :=
 ∃v H',s'.os=s.os∧AllBare s'.gens∧Un (frs outer) [] H H' s.heap s'.heap∧HOk P w H' s'.heap∧RelV v u∧Q v H'
noncomputable def CR (CX:CXT) (outer:List Env) (P:Program) (w:World) (H:Hp) (s:zbo3) (Q:VK) (E:XK) (r:Result) (s':zbo3):Prop :=
 match r with
 |.ok (.ret u)=>CE outer P w H s Q u s'
 |.ok _=>False
 |.error e=>CX outer H s E e s'
structure FnOk (P:Program) (w:World) (K:zbm7) (mg:Str→Option Value) (base:BHeap) (CX:CXT) (k:Nat) (f:Addr) (fd:FuncData) (ps:List Str) (sp:Sp):Prop where
 len:∀vs H Q E,sp vs H Q E→vs.length=ps.length
 run:∀(A:Around) (outer:List Env) (s:zbo3) (H:Hp) (args:Args) (us:List Value) (vs:List V) (Q:VK) (E:XK),Room k A→Env0 P w K mg base A outer s H→BindsTo s fd args (ps.zip us)→Vals vs us→sp vs H Q E →
  codeAny (model P w) A (.call (.ref f) args) (CR CX outer P w H s Q E) s
section
variable {X:Cx}{pins:List (Addr×Obj)}{σ:St}{H:Hp}{s s':zbo3}
theorem Inv.env0 (I:Inv X pins σ H s):Env0 X.prog X.w X.K X.mg X.base X.A X.stack s H :=
 ⟨I.ok.frames,I.ok.mod,I.bs,zbs6 I.ok.bsz I.sz,I.stack,I.stkFree,I.hok,I.bare,fun p hp=>I.base.tbls _ _ (I.ok.tabs p hp)⟩
theorem Inv.after {Q:VK}{u:Value} (I:Inv X pins σ H s) (h:CE X.stack X.prog X.w H s Q u s'):EP X pins σ Q u s':=by
 obtain⟨v,H',os,bare,un,hok,r,q⟩:=h
 obtain⟨hh,g,d,t,os'⟩:=s'
 obtain rfl:os'=s.os:=os
 exact⟨v,H',I.call (h':=hh) (g':=g) (d':=d) (t':=t) (ch:=[]) un hok bare (fun b z=>absurd z (by simp)),r,q⟩
end
noncomputable def tCall (sp:Sp) (dvs:List V) (E:XK) (t:TA):TE:=fun σ H Q=>t σ H fun vs H1=>sp (vs++dvs) H1 Q E
noncomputable def Binds (K:zbm7) (fd:FuncData) (ps:List Str) (ds:List Value):Prop :=
 ∀(s:zbo3) (us:List Value),K.In s.heap→(us++ds).length=ps.length→BindsTo s fd ⟨us,[]⟩ (ps.zip (us++ds))
theorem Binds.all {K:zbm7}{fd:FuncData}{ps:List Str} (h:∀us:List Value,us.length=ps.length→bindArgs fd ⟨us,[]⟩=pure (ps.zip us)):Binds K fd ps []:=fun s us _ hl=>by
 rw [zbr4]at hl ⊢
 exact .of_eq (h us hl)
noncomputable def zbm5 (CX:CXT) (X:Cx) (E:XK):Prop := ∀(pins:List (Addr×Obj)) (σ:St) (H:Hp) (s:zbo3) (e:Value) (s':zbo3),Inv X pins σ H s→CX X.stack H s E e s'→X.xe e s'
section
variable {X:Cx}{CX:CXT}{k:Nat}{f C:Addr}{fd:FuncData}{ps:List Str}{sp:Sp}{dvs:List V}{ds:List Value}{E:XK}{x m:Str}{p pos apos:Pos}{e o:Expr}{es:List Expr}{ta:TE}{t:TA}
theorem run_fn {pins:List (Addr×Obj)}{σ:St}{H:Hp}{s:zbo3}{Q:VK}{us:List Value}{vs:List V} (F:FnOk X.prog X.w X.K X.mg X.base CX k f fd ps sp) (hr:Room k X.A) (hb:Binds X.K fd ps ds) (hd:Vals dvs ds) (hx:zbm5 CX X E)
  (I:Inv X pins σ H s) (r:Vals vs us) (h:sp (vs++dvs) H Q E):wpAny (model X.prog X.w) X.A (call (.ref f) us) (EP X pins σ Q) X.xe s:=by
 have r2:Vals (vs++dvs) (us++ds):=r.append hd
 have hl:(us++ds).length=ps.length:=by rw [← r2.length];exact F.len _ _ _ _ h
 refine wpAny_call (codeAny_mono (F.run X.A X.stack s H ⟨us,[]⟩ (us++ds) (vs++dvs) Q E hr I.env0 (hb s us I.kIn hl) r2 h) fun r s' hq=>?_)
 cases r with
 |error e=>exact hx pins σ H s e s' I hq
 |ok fl =>
  cases fl with
  |ret u=>exact I.after hq
  |next=>exact False.elim hq
  |brk=>exact False.elim hq
  |cont=>exact False.elim hq
theorem pe_call (F:FnOk X.prog X.w X.K X.mg X.base CX k f fd ps sp) (hr:Room k X.A) (hg:Gl X x) (hm:X.mg x=some (.ref f)) (hk:zbs0 X.K (.ref f)=true) (hb:Binds X.K fd ps ds) (hd:Vals dvs ds) (hx:zbm5 CX X E)
  (ha:PA X (e::es) t) (hdb:(x ==("__debug__":Str))=false:=by decide) (he:zbo8 (e::es) X.env=(false,eval e X.env)::zbo8 es X.env:=by rfl) (hpl:(zbu1 pos (zbo8 es X.env)).any (·.1)=false:=by rfl) :
  PE X (.Call (.Name x p) (e::es) [] pos) (tCall sp dvs E t):=by
 intro pins s σ H Q I h
 refine wpAny_Call_Name_kw (ld_glob I hg hm ?_ hdb)
 refine PySem.W.callWith_K (h₀:=X.base) I.ok.mod.kin hk (thn (ha pos pins s σ H _ I h) fun us s1 ⟨vs,H1,I1,r,q⟩=>⟨I1.kIn,?_⟩) he hpl
 exact run_fn F hr hb hd hx I1 r q
structure Mk (K:zbm7) (C f:Addr):Prop where
 makes:PySem.W.makesIn K C=true
 init:zbw3 K (.ref C) "__init__"=some (some (.ref f))
 fn:PySem.W.isFn K (.ref f)=true
 kp:zbs0 K (.ref C)=true
end
section
variable {X:Cx}{CX:CXT}{k:Nat}{f C:Addr}{fd:FuncData}{ps ks:List Str}{sp:Sp}{E:XK}{x m:Str}{p pos apos kpos:Pos}{e o:Expr}{es:List Expr}{kws:List Keyword}{te ta:TE}{t tk:TA}{nm:Option Str}
structure KBinds (K:zbm7) (fd:FuncData) (ps ks:List Str) (g:List Value→List Value→List Value) (gV:List V→List V→List V):Prop where
 to:∀(s:zbo3) (us ws:List Value),K.In s.heap→(g us ws).length=ps.length→BindsTo s fd ⟨us,ks.zip ws⟩ (ps.zip (g us ws))
 rel:∀ {vs:List V}{us:List Value}{zs:List V}{ws:List Value},Vals vs us→Vals zs ws→Vals (gV vs zs) (g us ws)
variable {g:List Value→List Value→List Value}{gV:List V→List V→List V}
end
structure FnScope (N P:List Str) (sc:Scope):Prop where
 kind:sc.kind=.function
 co:sc.isCoroutine=false
 gen:sc.isGenerator=false
 nd:N.Nodup
 pre:N.take P.length=P
 par:∀x∈P,sc.names.lookup x=some .local∨sc.names.lookup x=some .cell
 nofree:∀y∈sc.names,y.2≠.free
theorem zao3 {kindOf:Str→Option NameKind}{x:Str}:∀ {binds:List (Str×Value)}{m:Str→Option Value},(∀v,(x,v)∉binds)→bindL kindOf binds m x=m x
 |[],_,_=>rfl
 |(n,v)::r,m,h=>by
  unfold bindL
  rw [zao3 fun w hw=>h w (zbm9 _ hw)]
  split
  ·have:x≠n:=by rintro rfl;exact h v zbn1
   simp [this]
  ·rfl
theorem zao5 {kindOf:Str→Option NameKind}{x:Str}:∀ {binds:List (Str×Value)}{m:Str→Option Value},(∀v,(x,v)∉binds)→bindC kindOf binds m x=m x
 |[],_,_=>rfl
 |(n,v)::r,m,h=>by
  unfold bindC
  rw [zao5 fun w hw=>h w (zbm9 _ hw)]
  split
  ·rfl
  ·have:x≠n:=by rintro rfl;exact h v zbn1
   simp [this]
theorem zao4 {kindOf:Str→Option NameKind}{x:Str}{v:Value}:∀ {P:List Str}{vs:List Value}{i:Nat}{m:Str→Option Value},P.Nodup→P[i]?=some x→vs[i]?=some v→kindOf x=some .local →
  bindL kindOf (P.zip vs) m x=some v
 |[],_,_,_,_,h,_,_=>by simp at h
 |_::_,[],_,_,_,_,h,_=>by simp at h
 |p::P,w::vs,0,m,nd,h1,h2,hk=>by
  simp at h1 h2;subst h1;subst h2
  show bindL kindOf ((p,w)::P.zip vs) m p=_
  unfold bindL
  rw [zao3 fun v hv=>(zbo9.mp nd).1 (zca5 hv).1,if_pos hk]
  simp
 |p::P,w::vs,i+1,m,nd,h1,h2,hk=>by
  show bindL kindOf ((p,w)::P.zip vs) m x=_
  unfold bindL
  exact zao4 (i:=i) (zbo9.mp nd).2 (by simpa using h1) (by simpa using h2) hk
theorem zao6 {kindOf:Str→Option NameKind}{x:Str}{v:Value}:∀ {P:List Str}{vs:List Value}{i:Nat}{m:Str→Option Value},P.Nodup→P[i]?=some x→vs[i]?=some v→kindOf x≠some .local →
  bindC kindOf (P.zip vs) m x=some v
 |[],_,_,_,_,h,_,_=>by simp at h
 |_::_,[],_,_,_,_,h,_=>by simp at h
 |p::P,w::vs,0,m,nd,h1,h2,hk=>by
  simp at h1 h2;subst h1;subst h2
  show bindC kindOf ((p,w)::P.zip vs) m p=_
  unfold bindC
  rw [zao5 fun v hv=>(zbo9.mp nd).1 (zca5 hv).1,if_neg hk]
  simp
 |p::P,w::vs,i+1,m,nd,h1,h2,hk=>by
  show bindC kindOf ((p,w)::P.zip vs) m x=_
  unfold bindC
  exact zao6 (i:=i) (zbo9.mp nd).2 (by simpa using h1) (by simpa using h2) hk
noncomputable def start (N:List Str) (vs:List V):St:=vs.map some++zbn4 (N.length - vs.length) none
noncomputable def cxOf (CX:CXT) (P:Program) (w:World) (K:zbm7) (mg:Str→Option Value) (base:BHeap) (N:List Str) (qual:Str) (scope:Scope) (f:Addr) (cd:Value) (A:Around) (outer:List Env) (s:zbo3) (H:Hp) (E:XK):Cx where
 prog:=P
 w:=w
 K:=K
 mg:=mg
 base:=base
 A:=A.deeper (envOfC qual scope s.heap.objs.size f cd)
 N:=N
 s₀:=s
 H₀:=H
 env:=envOfC qual scope s.heap.objs.size f cd
 outer:=outer
 stack:=envOfC qual scope s.heap.objs.size f cd::outer
 ex:=[]
 calm:=true
 fn:=fun _=>true
 pn:=[]
 xe:=fun e s'=>wpAny (model P w) (A.deeper (envOfC qual scope s.heap.objs.size f cd)) (leaving (envOfC qual scope s.heap.objs.size f cd) e) (fun _ s''=>CX outer H s E e s'') (fun e' s''=>CX outer H s E e' s'') s'
theorem zax6 {sc:Scope}{n:Nat}{x:Str} (h:sc.names.lookup x=some .cell):∃c,(cellsFrom n sc.names []).lookup x=some c:=by
 have q:=zbz1 sc.names n [] (.inl h)
 exact Option.isSome_iff_exists.mp q
theorem zbh5 {CX:CXT}{P:Program}{w:World}{K:zbm7}{mg:Str→Option Value}{base:BHeap}{N ps:List Str}{qual:Str}{scope:Scope}{f:Addr}{cd:Value}{A:Around}{outer:List Env}{s s1:zbo3}{H:Hp}{E:XK}{us:List Value}{vs:List V}
  (S:FnScope N ps scope) (hd:A.handled=none) (e0:Env0 P w K mg base A outer s H) (hl:vs.length=ps.length) (r:Vals vs us)
  (x:InCallC s s.heap.objs.size (bindL (envOfC qual scope s.heap.objs.size f cd).kindOf (ps.zip us) fun _=>none) (cellsFrom (s.heap.objs.size+1) scope.names []) (bindC (envOfC qual scope s.heap.objs.size f cd).kindOf (ps.zip us) fun _=>none) s1) :
  Inv (cxOf CX P w K mg base N qual scope f cd A outer s H E) [] (start N vs) H s1:=by
 have hpl:ps.length≤N.length:=by have:=congrArg List.length S.pre;rw [zbu9]at this;lia
 obtain⟨h1,tk,rfl,hk⟩:=x.done
 have noA:∀b:Addr,b∉(cxOf CX P w K mg base N qual scope f cd A outer s H E).ex:=fun b z=>absurd (show b∈([]:List Addr) from z) (by simp)
 refine⟨⟨e0.mod,S.kind,rfl,rfl,zbp4 _,fun y z c h1 h2=>?_,fun y hy=>?_,fun y c _ h=>?_,fun _=>hd,Around.frames_deeper e0.frames,.inr ⟨rfl,rfl⟩,fun b z=>absurd z (noA b),e0.bs,e0.bsz,fun b _ _=>noA b,fun b z=>absurd z (noA b),e0.funs,e0.frf,e0.tabs⟩,
  rfl,e0.bare,Un.kept hk,⟨_,x.toInCall.ns,fun i y v h1 h2 h3=>?_⟩,fun y c h=>⟨_,x.cell y c h⟩,e0.hok.fresh (zbp4 _),fun y c h=>?_,fun p hp=>absurd (show p∈([]:List (Addr×Obj)) from hp) (by simp),e0.hok.kept hk,?_⟩
 ·exact name_of_addr x.apart (PySem.mem_of_lookup h1) (PySem.mem_of_lookup h2)
 ·have hy:scope.names.lookup y=some .cell∨scope.names.lookup y=some .free:=hy
  rcases hy with hy | hy
  ·exact zax6 hy
  ·exact absurd rfl (S.nofree _ (PySem.mem_of_lookup hy))
 ·exact zby1 (x.above y c (PySem.mem_of_lookup h))
 ·have hi:i<vs.length:=by
   unfold start at h2
   by_cases hi:i<vs.length
   ·exact hi
   ·rw [zbt5 (by simpa using hi)]at h2
    rw [zbq1]at h2
    split at h2<;>cases h2
  have ha:vs[i]?=some v:=by
   unfold start at h2
   rw [zbt8 (by simpa using hi),zbp7]at h2
   cases e:vs[i]? with
   |none=>rw [e]at h2;cases h2
   |some a=>rw [e]at h2;cases h2;rfl
  obtain⟨u,hu,rv⟩:=r.get ha
  have hp:ps[i]?=some y:=by
   rw [← S.pre,List.getElem?_take_of_lt (by lia)];exact h1
  have ndP:ps.Nodup:=by rw [← S.pre];exact S.nd.sublist (List.take_sublist _ _)
  refine⟨u,rv,?_⟩
  rcases S.par y (zcb2 hp) with k | k
  ·exact .inl ⟨k,zao4 ndP hp hu k⟩
  ·obtain⟨c,e⟩:=zax6 (n:=s.heap.objs.size+1) k
   refine .inr ⟨.inl k,c,e,?_⟩
   have q:=x.cell y c e
   rw [zao6 ndP hp hu (by show scope.names.lookup y≠_;rw [k];decide)]at q
   exact q
 ·exact e0.hok.fresh (zby1 (x.above y c (PySem.mem_of_lookup h)))
 ·unfold start
  show _=N.length
  rw [zbp6,zbo0,zbr1]
  lia
theorem fn_of {CX:CXT}{P:Program}{w:World}{K:zbm7}{mg:Str→Option Value}{base:BHeap}{k:Nat}{f:Addr}{name qual:Str}{params:Arguments}{body:List Stmt}{scope:Scope}{dV kV doc pm cdv ct oc:Value}{an od:Option Addr}
  {osl:Array (Option Value)}{N ps:List Str}{sp:Sp} (lk:K.lookup f=some ⟨oc,od,.func (zbs7 name qual params body scope dV kV doc pm an cdv ct),osl⟩) (hcd:zby2 K cdv qual=true) (S:FnScope N ps scope)
  (len:∀vs H Q E,sp vs H Q E→vs.length=ps.length)
  (hbody:∀(A:Around) (outer:List Env) (s:zbo3) (H:Hp) (vs:List V) (Q:VK) (E:XK),Room k (A.deeper (envOfC qual scope s.heap.objs.size f cdv))→sp vs H Q E →
   ∃t,PSs (cxOf CX P w K mg base N qual scope f cdv A outer s H E) body t∧t { nx:=fun _ H'=>Q .non H',rt:=Q } (start N vs) H) :
  FnOk P w K mg base CX (k+1) f (zbs7 name qual params body scope dV kV doc pm an cdv ct) ps sp:=by
 refine⟨len,fun A outer s H args us vs Q E hr e0 hb r hsp=>?_⟩
 have hl:=len _ _ _ _ hsp
 have KX:K.In s.heap:=e0.mod.kin.keeps fun b o e=>(e0.bs b o e).1
 have lim:s.heap.NoLimit:=e0.mod.nolimit.keeps fun b o e=>(e0.bs b o e).1
 have hkind:∀y∈ps.zip us,scope.names.lookup y.1=some .local∨(scope.names.lookup y.1=some .cell∧((cellsFrom (s.heap.objs.size+1) scope.names []).lookup y.1).isSome=true):=fun ⟨n,v⟩ hy=>by
  rcases S.par n (zca5 hy).1 with q | q
  ·exact .inl q
  ·exact .inr ⟨q,zbz1 _ _ _ (.inl q)⟩
 refine codeAny_call_function hr.depth (KX _ _ lk) rfl S.co S.gen rfl (PySem.W.codeRec_of KX hcd) (hb _ _ _ _ ?_)
 refine wpAny_newFunctionEnv_cells S.kind hkind fun env he s1 x=>?_
 subst he
 refine⟨lim.keeps x.toInCall.keep,codeAny_func ?_⟩
 obtain⟨t,ht,hq⟩:=hbody A outer s H vs Q E (hr.deeper _) hsp
 have I:Inv (cxOf CX P w K mg base N qual scope f cdv A outer s H E) [] (start N vs) H s1:=zbh5 S hr.hd e0 hl r x
 refine wpAny_mono (ht [] s1 (start N vs) H _ I hq) (fun fl s' hs=>?_) fun e s' hs=>hs
 have fin:∀ {σ':St}{H':Hp}{v:V}{u:Value},Inv (cxOf CX P w K mg base N qual scope f cdv A outer s H E) [] σ' H' s'→RelV v u→Q v H'→CE outer P w H s Q u s' :=
  fun {σ' H' v u} J rv q=>⟨v,H',J.os,J.bare,J.base,J.hok,rv,q⟩
 cases fl with
 |ret u =>
  obtain⟨v,σ',H',J,rv,q⟩:=hs
  exact fin J rv q
 |next =>
  obtain⟨σ',H',J,q⟩:=hs
  exact fin (v:=V.non) (u:=Value.none) J rfl q
 |brk =>
  obtain⟨_,_,_,q⟩:=hs
  exact False.elim q
 |cont =>
  obtain⟨_,_,_,q⟩:=hs
  exact False.elim q
end L2
namespace L2
open PySem.Spec
section
variable {X:Cx}{x:Str}{p pos:Pos}{e:Expr}{es:List Expr}{t:TA}{id T:String}{r:List V→Hp→VK→Prop}
noncomputable def tCB (r:List V→Hp→VK→Prop) (t:TA):TE:=fun σ H Q=>t σ H fun vs H1=>r vs H1 Q
theorem pe_callB (hc:zp0 X (.builtin id) r) (hg:Gl X x) (hm:X.mg x=none) (hv:bootBuiltins x=some (.builtin id)) (ha:PA X (e::es) t) (hn:x≠"__name__":=by decide) (hdb:(x ==("__debug__":Str))=false:=by decide)
  (he:zbo8 (e::es) X.env=(false,eval e X.env)::zbo8 es X.env:=by rfl) (hpl:(zbu1 pos (zbo8 es X.env)).any (·.1)=false:=by rfl):PE X (.Call (.Name x p) (e::es) [] pos) (tCB r t):=by
 intro pins s σ H Q I h
 refine wpAny_Call_Name_kw (zr5 I hg hm hv ?_ hn hdb)
 exact PyProof.Rows.callWith_builtin1 (thn (ha pos pins s σ H _ I h) fun us s1 ⟨vs,H1,I1,r1,q1⟩=>hc pins s1 σ H1 vs us Q I1 r1 q1) he hpl
end
end L2
namespace HT
section
variable {prog:Program}{w:World}{A:Around}{E:Value→zbo3→Prop}{s:zbo3}
noncomputable def sIx (n d:Nat):Option Int→Nat
 |none=>d
 |some v=>if v<0 then (v+(n:Int)).toNat else min v.toNat n
theorem sIx_none (n d:Nat):sIx n d none=d:=rfl
theorem sIx_nat (n d k:Nat):sIx n d (some (k:Int))=min k n:=by
 show (if (k:Int)<0 then ((k:Int)+(n:Int)).toNat else min (k:Int).toNat n)=min k n
 rw [if_neg (by lia),zbs8]
theorem sIx_le (n d:Nat) (hd:d≤n) (o:Option Int):sIx n d o≤n:=by
 cases o with
 |none=>exact hd
 |some v =>
  show (if v<0 then (v+(n:Int)).toNat else min v.toNat n)≤n
  by_cases hv:v<0
  ·rw [if_pos hv];lia
  ·rw [if_neg hv];exact Nat.min_le_right _ _
end
end HT
namespace L2
open PySem.Spec
noncomputable abbrev TO:=St→Hp→(Option Int→Hp→Prop)→Prop
noncomputable def PO (X:Cx) (e:Option Expr) (t:TO):Prop :=
 ∀(pins:List (Addr×Obj)) (s:zbo3) (σ:St) (H:Hp) (Q:Option Int→Hp→Prop),Inv X pins σ H s→t σ H Q →
  wpAny (model X.prog X.w) X.A (evalPart e X.env) (fun u s' => ∃o H',Inv X pins σ H' s'∧IsPart u o∧Q o H') X.xe s
noncomputable def tNoPart:TO:=fun _ H Q=>Q none H
noncomputable def tPart (t:TE):TO:=fun σ H Q=>t σ H fun x H1 => ∃i,x=.int i∧Q (some i) H1
theorem zl8 {ns:List Int}:∀ {us:List Value},Vals (ns.map V.int) us→IntsAre us ns:=by
 induction ns with
 |nil=>intro us r;rw [zby3]at r;cases r;exact .nil
 |cons n ns ih =>
  intro us r
  rw [zbn7]at r
  cases r with
  |cons r1 r2 =>
   obtain⟨t,e⟩:=r1
   subst e
   exact .cons n t (ih r2)
section
variable {X:Cx}{e:Expr}{te:TE}{lo hi:Option Expr}{tl th:TO}{pos p2:Pos}
theorem zbd9:PO X none tNoPart:=by
 intro pins s σ H Q I h
 rw [evalPart_none]
 exact zbp3 ⟨none,H,I,.none,h⟩
theorem zbd8 (h:PE X e te):PO X (some e) (tPart te):=by
 intro pins s σ H Q I hw
 rw [evalPart_some]
 refine thn (h pins s σ H _ I hw) fun u s1 ⟨x,H1,I1,r1,q1⟩=>?_
 obtain⟨i,rfl,q⟩:=q1
 obtain⟨t,rfl⟩:=r1
 exact⟨some i,H1,I1,.int i t,q⟩
noncomputable def SlR (X:Cx) (r:V→Option Int→Option Int→Hp→VK→Prop):Prop :=
 ∀(pins:List (Addr×Obj)) (s:zbo3) (σ:St) (H:Hp) (x:V) (v vl vu:Value) (lo hi:Option Int) (sl:Addr) (Q:VK),Inv X pins σ H s→RelV x v→s.heap.IsSliceOf sl vl vu .none→IsPart vl lo→IsPart vu hi→r x lo hi H Q →
  ∃T id,typeLookup (.type T) "__getitem__"=pure (some (.builtin id))∧s.TypeIs v T∧wpAny (model X.prog X.w) X.A (getItem v (.ref sl)) (EP X pins σ Q) X.xe s
noncomputable def tSl (r:V→Option Int→Option Int→Hp→VK→Prop) (te:TE) (tl th:TO):TE:=fun σ H Q=>te σ H fun x H1=>tl σ H1 fun l H2=>th σ H2 fun u H3=>r x l u H3 Q
theorem zav6 {r:V→Option Int→Option Int→Hp→VK→Prop} (hr:SlR X r) (he:PE X e te) (hl:PO X lo tl) (hu:PO X hi th):PE X (.Subscript e (.Slice lo hi none p2) pos) (tSl r te tl th):=by
 intro pins s σ H Q I h
 refine Subscript_ (thn (he pins s σ H _ I h) fun v s1 ⟨x,H1,I1,r1,q1⟩=>?_)
 refine wpAny_Slice (thn (hl pins s1 σ H1 _ I1 q1) fun vl s2 ⟨l,H2,I2,pl,q2⟩=>thn (hu pins s2 σ H2 _ I2 q2) fun vu s3 ⟨u,H3,I3,pu,q3⟩=>?_)
 rw [evalPart_none]
 refine zbp3 ?_
 have I4:Inv X pins σ H3 { s3 with heap:=s3.heap.push { cls:=.type "slice",data:=.fields #[vl,vu,.none] } }:=I3.kept (t':=s3.toks) fun b ob q=>zbn8 _ q
 obtain⟨T,id,hT,ht,hg⟩:=hr pins { s3 with heap:=s3.heap.push { cls:=.type "slice",data:=.fields #[vl,vu,.none] } } σ H3 x v vl vu l u s3.heap.objs.size Q I4 r1 (Heap.IsSliceOf.new ..) pl pu q3
 show wpAny (model X.prog X.w) X.A (subscriptTail e (.Slice lo hi none p2) v (.ref s3.heap.objs.size)) (EP X pins σ Q) X.xe { s3 with heap:=s3.heap.push { cls:=.type "slice",data:=.fields #[vl,vu,.none] } }
 exact tail_any (ops:=[.ref s3.heap.objs.size,v]) ht hT hg (by with_unfolding_all rfl)
noncomputable def cutV (xs:List V) (lo hi:Option Int):List V:=(xs.drop (HT.sIx xs.length 0 lo)).take (HT.sIx xs.length xs.length hi - HT.sIx xs.length 0 lo)
theorem zas6 (xs:List V) (lo hi:Option Int):(cutV xs lo hi).length≤xs.length:=by
 unfold cutV
 rw [zbu9,zcd7]
 lia
end
end L2
namespace L2
open PySem.Spec
noncomputable def ixN (n:Nat) (i:Int):Option Nat:=if 0≤i then (if i<n then some i.toNat else none) else if -(n:Int)≤i then some (i+n).toNat else none
noncomputable def atI {α:Type} (xs:List α) (i:Int):Option α:=(ixN xs.length i).bind fun j=>xs[j]?
theorem zas0 {n:Nat}{i:Int}{j:Nat} (h:ixN n i=some j):seqIndex? i n=some j∧j<n ∧ -(n:Int)≤i∧i<n:=by
 unfold ixN at h
 by_cases h0:0≤i
 ·rw [if_pos h0]at h
  by_cases h1:i<n
  ·rw [if_pos h1]at h
   have e:i.toNat=j:=Option.some.inj h
   exact⟨by rw [seqIndex_of h0 h1,e],by lia,by lia,h1⟩
  ·rw [if_neg h1]at h;cases h
 ·rw [if_neg h0]at h
  by_cases h1 : -(n:Int)≤i
  ·rw [if_pos h1]at h
   have e:(i+n).toNat=j:=Option.some.inj h
   exact⟨by rw [seqIndex_neg (by lia) h1,e],by lia,h1,by lia⟩
  ·rw [if_neg h1]at h;cases h
theorem zbl9 {α:Type}{xs:List α}{i:Int}{v:α} (h:atI xs i=some v):∃j,seqIndex? i xs.length=some j∧xs[j]?=some v∧j<xs.length ∧ -(xs.length:Int)≤i∧i<xs.length:=by
 unfold atI at h
 cases e:ixN xs.length i with
 |none=>rw [e]at h;cases h
 |some j =>
  rw [e]at h
  obtain⟨h1,h2,h3,h4⟩:=zas0 e
  exact⟨j,h1,h,h2,h3,h4⟩
noncomputable def zat6 (b:Expr):Prop := ∀o i,subscripted b false o i=operate [o,i] (getItem o i)
noncomputable def IxR (X:Cx) (r:R2):Prop :=
 ∀(value slice:Expr) (pins:List (Addr×Obj)) (s:zbo3) (σ:St) (H:Hp) (x y:V) (v u:Value) (Q:VK),Inv X pins σ H s→RelV x v→RelV y u→r x y H Q →
  subscripted slice false v u=operate [v,u] (getItem v u)→wpAny (model X.prog X.w) X.A (subscriptTail value slice v u) (EP X pins σ Q) X.xe s
noncomputable def MtR (X:Cx) (id:String) (r:V→List V→Hp→VK→Prop):Prop :=
 ∀(pins:List (Addr×Obj)) (s:zbo3) (σ:St) (H:Hp) (x:V) (xs:List V) (v:Value) (us:List Value) (Q:VK),Inv X pins σ H s→RelV x v→Vals xs us→r x xs H Q →
  wpAny (model X.prog X.w) X.A (call (.builtin id) (v::us)) (EP X pins σ Q) X.xe s
section
variable {X:Cx}{a b:Expr}{ta tb:TE}{pos:Pos}
theorem IxR.or {r r':R2} (h:IxR X r) (h':IxR X r'):IxR X (fun x y H Q=>r x y H Q∨r' x y H Q):=by
 intro value slice pins s σ H x y v u Q I rx ry q hs
 rcases q with q | q
 ·exact h value slice pins s σ H x y v u Q I rx ry q hs
 ·exact h' value slice pins s σ H x y v u Q I rx ry q hs
theorem pe_ix {r:R2} (hr:IxR X r) (ha:PE X a ta) (hb:PE X b tb) (hs:zat6 b):PE X (.Subscript a b pos) (tOp r ta tb):=by
 intro pins s σ H Q I h
 exact Subscript_ (binT ha hb I h fun v u s2 x y H2 I2 rx ry q=>hr a b pins s2 σ H2 x y v u Q I2 rx ry q (hs _ _))
noncomputable def rIxL (K:zbm7):R2:=fun x y H Q => ∃p xs i v,x=.ref p∧y=.int i∧SqL K H p xs∧atI xs i=some v∧Q v H
noncomputable def rIxT (K:zbm7):R2:=fun x y H Q => ∃p xs i v,x=.ref p∧y=.int i∧SqT K H p xs∧atI xs i=some v∧Q v H
theorem ix_list:IxR X (rIxL X.K):=by
 intro value slice pins s σ H x y v u Q I rx ry h hs
 obtain⟨p,xs,i,z,rfl,rfl,hq,he,q⟩:=h
 cases rx
 obtain⟨t,rfl⟩:=ry
 obtain⟨its,r,pl,hz⟩:=I.list hq
 obtain⟨j,h1,h2,h3,h4,h5⟩:=zbl9 he
 obtain⟨w,ew,rw'⟩:=r.get h2
 have hl:=r.length
 have hn:=zam5
 have fin:EP X pins σ Q w s:=⟨z,H,I,rw',q⟩
 by_cases h0:0≤i
 ·have hj:i.toNat=j:=by
   rw [seqIndex_of h0 h5]at h1
   exact Option.some.inj h1
  exact item_listR pl.isList h0 (by lia) (by rw [hj];simpa using ew) fin hs
 ·have hj:(i+(its.toArray.size:Int)).toNat=j:=by
   rw [seqIndex_neg (by lia) h4]at h1
   rw [zbo4, ← hl]
   exact Option.some.inj h1
  exact subscriptTail_builtinR (x:=w) pl.isList.typeIs slot_list_getitem.lookup
   (wpAny_getItem_list_neg (Q:=fun r s'=>r=w∧EP X pins σ Q r s') pl.isList (by lia) (by rw [zbo4]<;>lia) (by lia) (by rw [hj];simpa using ew) ⟨rfl,fin⟩) hs
theorem ix_tup:IxR X (rIxT X.K):=by
 intro value slice pins s σ H x y v u Q I rx ry h hs
 obtain⟨p,xs,i,z,rfl,rfl,hq,he,q⟩:=h
 cases rx
 obtain⟨t,rfl⟩:=ry
 obtain⟨its,r,pl,hz⟩:=I.tuple hq
 obtain⟨j,h1,h2,h3,h4,h5⟩:=zbl9 he
 obtain⟨w,ew,rw'⟩:=r.get h2
 have hl:=r.length
 have hn:=zam5
 have fin:EP X pins σ Q w s:=⟨z,H,I,rw',q⟩
 exact subscriptTail_builtinR (x:=w) pl.typeIs slot_tuple_getitem.lookup
  (getItem_tuple (j:=j) (Q:=fun r s'=>r=w∧EP X pins σ Q r s') pl (by lia) (by lia) (by rw [zbo4, ← hl];exact h1) (by simpa using ew) ⟨rfl,fin⟩) hs
theorem zaz8 (its:List Value) (n j:Nat) (u:Value):Obj.mapSeq (·.setIfInBounds j u) { cls:=.type "list",data:=.seq its.toArray n }={ cls:=.type "list",data:=.seq (its.set j u).toArray n }:=by
 simp [Obj.mapSeq]
theorem Inv.lst {pins:List (Addr×Obj)}{σ:St}{H:Hp}{s:zbo3}{p:Addr}{xs:List V} (I:Inv X pins σ H s) (h:H p=some (.lst xs)) :
  ∃(its:List Value) (n:Nat),Vals xs its∧s.heap.get? p=some { cls:=.type "list",data:=.seq its.toArray n }∧xs.length≤sizeLine:=by
 obtain⟨z,its,n,r,e⟩:=I.hok p _ h
 exact⟨its,n,r,e,z⟩
theorem Inv.lstUpd {pins:List (Addr×Obj)}{σ:St}{H:Hp}{s:zbo3}{p:Addr}{xs ys:List V}{its its':List Value}{n n':Nat}{f:Obj→Obj} (I:Inv X pins σ H s) (h:H p=some (.lst xs))
  (ho:s.heap.get? p=some { cls:=.type "list",data:=.seq its.toArray n }) (hf:f { cls:=.type "list",data:=.seq its.toArray n }={ cls:=.type "list",data:=.seq its'.toArray n' }) (r:Vals ys its') (hz:ys.length≤sizeLine) (t:Nat) :
  Inv X pins σ (upd H p (.lst ys)) { s with heap:=s.heap.update p f,toks:=t }:=by
 have e:(s.heap.update p f).get? p=some { cls:=.type "list",data:=.seq its'.toArray n' }:=by
  rw [zbz7 f ho (by rw [hf]<;>rfl),hf]
 refine I.write (x:=p) (e:=p) (by rw [h];trivial) (.inl rfl) (fun b u hb q=>(zbr0 _ _ (Ne.symm hb)).trans q) ⟨_,e⟩ ?_
 exact⟨hz,its',n',r,e⟩
noncomputable def rSetL:V→V→V→Hp→(Hp→Prop)→Prop:=fun o i v H Q => ∃p xs k j,o=.ref p∧i=.int k∧H p=some (.lst xs)∧ixN xs.length k=some j∧Q (upd H p (.lst (xs.set j v)))
theorem zau4:PSet X rSetL:=by
 intro pins s σ H o i v ov iv u Q I ro ri rv h
 obtain⟨p,xs,k,j,rfl,rfl,hp,hj,q⟩:=h
 cases ro
 obtain⟨t,rfl⟩:=ri
 obtain⟨its,n,r,ho,hz⟩:=I.lst hp
 obtain⟨h1,h2,h3,h4⟩:=zas0 hj
 have hl:=r.length
 have hn:=zam5
 have I':Inv X pins σ (upd H p (.lst (xs.set j v))) { s with heap:=s.heap.update p (Obj.mapSeq (·.setIfInBounds j u)) } :=
  I.lstUpd hp ho (zaz8 its n j u) (r.set rv j) (by rw [zbx0];exact hz) s.toks
 by_cases h0:0≤k
 ·have hk:k.toNat=j:=by
   rw [seqIndex_of h0 h4]at h1
   exact Option.some.inj h1
  exact PySem.W.ki_setAt ho h0 (by lia) (by rw [zbo4, ← hl];exact h4) (by rw [hk];exact⟨_,I',q⟩)
 ·have hk:(k+(its.toArray.size:Int)).toNat=j:=by
   rw [seqIndex_neg (by lia) h3]at h1
   rw [zbo4, ← hl]
   exact Option.some.inj h1
  exact PySem.W.ki_setBack ho (by lia) (by rw [zbo4, ← hl];exact h3) (by lia) (by rw [hk];exact⟨_,I',q⟩)
theorem zaj3 (lo hi:Option Int) (n:Nat):(sliceBounds lo hi none n).1=((HT.sIx n 0 lo:Nat):Int)∧(sliceBounds lo hi none n).2.1=((HT.sIx n n hi:Nat):Int)∧(sliceBounds lo hi none n).2.2=1:=by
 refine⟨?_,?_,rfl⟩
 ·cases lo with
  |none=>simp [sliceBounds,HT.sIx]
  |some i =>
   simp only [sliceBounds,HT.sIx,zcd8,show (1:Int) > 0 by decide,if_true]
   by_cases h:i<0
   ·simp only [h,if_true]<;>lia
   ·simp only [h,if_false]<;>lia
 ·cases hi with
  |none=>simp [sliceBounds,HT.sIx]
  |some i =>
   simp only [sliceBounds,HT.sIx,zcd8,show (1:Int) > 0 by decide,if_true]
   by_cases h:i<0
   ·simp only [h,if_true]<;>lia
   ·simp only [h,if_false]<;>lia
theorem zaf6 (its:List Value) (lo hi:Option Int):slicePick its.toArray lo hi none=((its.drop (HT.sIx its.length 0 lo)).take (HT.sIx its.length its.length hi - HT.sIx its.length 0 lo)).toArray:=by
 obtain⟨h1,h2,h3⟩:=zaj3 lo hi its.toArray.size
 unfold slicePick
 rw [h1,h2,h3]
 simp only [sliceRange_one,pick_run,zbo4]<;>rfl
noncomputable def rSlL (K:zbm7):V→Option Int→Option Int→Hp→VK→Prop:=fun x lo hi H Q => ∃a xs,x=.ref a∧SqL K H a xs∧∀p,H p=none→Q (.ref p) (upd H p (.lst (cutV xs lo hi)))
theorem zbc9:SlR X (rSlL X.K):=by
 intro pins s σ H x v vl vu lo hi sl Q I rx hs pl pu h
 obtain⟨a,xs,rfl,hx,q⟩:=h
 cases rx
 obtain⟨its,r,ht,hz⟩:=I.list hx
 have hlen:=r.length
 refine⟨"list",_,slot_list_getitem.lookup,ht.isList.typeIs,?_⟩
 refine wpAny_getItem_list_slice ht.isList hs pl pu .none (by simp) ?_ (by rw [zbo4]<;>lia)
 rw [zaf6, ← hlen]
 refine⟨.ref s.heap.objs.size,_,I.laid (t':=s.toks) (o:=.lst (cutV xs lo hi)) (fun b ob q=>zbn8 _ q) (zbp4 _) ?_,rfl,q _ (I.hok.fresh (zbp4 _))⟩
 exact⟨zbs6 (zas6 xs lo hi) hz,_,0,(r.drop (HT.sIx xs.length 0 lo)).take (HT.sIx xs.length xs.length hi - HT.sIx xs.length 0 lo),zbp5 _ rfl⟩
noncomputable def zbi0:V→Bool
 |.non=>true
 |.bl _=>true
 |.int _=>true
 |.str _=>true
 |_=>false
noncomputable def eqV:V→V→Bool
 |.non,.non=>true
 |.bl a,.bl b=>a == b
 |.bl a,.int b=>(if a then 1 else 0) == b
 |.int a,.bl b=>a ==(if b then 1 else 0)
 |.int a,.int b=>a == b
 |.str a,.str b=>a == b
 |_,_=>false
theorem eqAt_V {A:Around}{s:zbo3}{y x:V}{u v:Value} (ry:RelV y u) (rx:RelV x v) (fy:zbi0 y=true) (fx:zbi0 x=true):SeqAt.EqAt A s u v (eqV y x):=by
 cases y with
 |non =>
  cases ry
  cases x with
  |non=>cases rx;exact SeqAt.EqAt.same _
  |bl b=>cases rx;exact SeqAt.EqAt.none_bool b
  |int b=>obtain⟨t,rfl⟩:=rx;exact SeqAt.EqAt.none_int b t
  |str b=>obtain⟨t,rfl⟩:=rx;exact SeqAt.EqAt.none_str b t
  |_=>exact absurd (show false=true from fx) zbp0
 |bl a =>
  cases ry
  cases x with
  |non=>cases rx;exact SeqAt.EqAt.bool_none a
  |bl b=>cases rx;exact SeqAt.EqAt.bool_bool a b
  |int b=>obtain⟨t,rfl⟩:=rx;exact SeqAt.EqAt.bool_int a b t
  |str b=>obtain⟨t,rfl⟩:=rx;exact SeqAt.EqAt.bool_str a b t
  |_=>exact absurd (show false=true from fx) zbp0
 |int a =>
  obtain⟨t',rfl⟩:=ry
  cases x with
  |non=>cases rx;exact SeqAt.EqAt.int_none a t'
  |bl b=>cases rx;exact SeqAt.EqAt.int_bool a t' b
  |int b=>obtain⟨t,rfl⟩:=rx;exact SeqAt.EqAt.int_int a t' b t
  |str b=>obtain⟨t,rfl⟩:=rx;exact SeqAt.EqAt.int_str a t' b t
  |_=>exact absurd (show false=true from fx) zbp0
 |str a =>
  obtain⟨t',rfl⟩:=ry
  cases x with
  |non=>cases rx;exact SeqAt.EqAt.str_none a t'
  |bl b=>cases rx;exact SeqAt.EqAt.str_bool a t' b
  |int b=>obtain⟨t,rfl⟩:=rx;exact SeqAt.EqAt.str_int a t' b t
  |str b=>obtain⟨t,rfl⟩:=rx;exact SeqAt.EqAt.str_str a t' b t
  |_=>exact absurd (show false=true from fx) zbp0
 |_=>exact absurd (show false=true from fy) zbp0
theorem zao1:zp0 X (.builtin "len") (fun xs H Q => ∃p ys,xs=[.ref p]∧(SqL X.K H p ys∨SqT X.K H p ys)∧Q (.int ys.length) H):=by
 intro pins s σ H xs us Q I r h
 obtain⟨p,ys,rfl,hq,q⟩:=h
 obtain⟨u,rfl,rx⟩:=zy3 r
 cases rx
 have hn:=zam5
 rcases hq with hq | hq
 ·obtain⟨its,r',pl,hz⟩:=I.list hq
  have hlen:=r'.length
  exact Calls.call_len_list pl.isList (by simp only [zbo4]<;>lia) ⟨.int ys.length,H,I.tok _,⟨s.toks+1,by rw [zbo4,hlen]⟩,q⟩
 ·obtain⟨its,r',pl,hz⟩:=I.tuple hq
  have hlen:=r'.length
  exact len_tuple pl (by simp only [zbo4]<;>lia) ⟨.int ys.length,H,I.tok _,⟨s.toks+1,by rw [zbo4,hlen]⟩,q⟩
theorem zao0:zp0 X (.type "list") (fun xs H Q => ∃p ys,xs=[.ref p]∧(SqL X.K H p ys∨SqT X.K H p ys)∧∀l,H l=none→Q (.ref l) (upd H l (.lst ys))):=by
 intro pins s σ H xs us Q I r h
 obtain⟨p,ys,rfl,hq,q⟩:=h
 obtain⟨u,rfl,rx⟩:=zy3 r
 cases rx
 have fin:∀(its:List Value),Vals ys its→ys.length≤sizeLine→∀(h':Heap) (c':Nat),(∀b o',s.heap.get? b=some o'→h'.get? b=some o') →
   h'.get? s.heap.objs.size=some { cls:=.type "list",dict:=none,data:=.seq its.toArray c',slots := #[] }→EP X pins σ Q (.ref s.heap.objs.size) { s with heap:=h' }:=fun its r' hz h' c' kp e =>
  ⟨.ref s.heap.objs.size,_,I.laid (t':=s.toks) kp (zbp4 _) (show ObjOk X.prog X.w _ h' _ (.lst ys) from ⟨hz,its,c',r',e⟩),rfl,q _ (I.hok.fresh (zbp4 _))⟩
 rcases hq with hq | hq
 ·obtain⟨its,r',pl,hz⟩:=I.list hq
  have hlen:=r'.length
  obtain⟨o,ho,hc,n,hd⟩:=pl.isList
  exact call_list_seq p (.inl rfl) ho hc hd (fun h' c' kp e=>fin its r' hz h' c' kp e) (by simp only [zbo4]<;>lia)
 ·obtain⟨its,r',pl,hz⟩:=I.tuple hq
  have hlen:=r'.length
  obtain⟨o,ho,hc,n,hd⟩:=pl
  exact call_list_seq p (.inr rfl) ho hc hd (fun h' c' kp e=>fin its r' hz h' c' kp e) (by simp only [zbo4]<;>lia)
noncomputable def tyV (K:zbm7) (T:String) (x:V) (H:Hp):Prop:=match x with
 |.str _=>T = "str"
 |.int _=>T = "int"
 |.ref p=>(T = "list"∧∃xs,SqL K H p xs)∨(T = "tuple"∧∃o,K.lookup p=some o∧o.cls=.type "tuple"∧o.dict=none) ∨
   (T = "dict"∧((∃kvs,H p=some (.dK kvs))∨∃kvs,H p=some (.dT kvs)))∨(T = "set"∧∃S n,H p=some (.set S n))
 |_=>False
theorem tyV_is {pins:List (Addr×Obj)}{σ:St}{H:Hp}{s:zbo3}{T:String}{x:V}{v:Value} (I:Inv X pins σ H s) (r:RelV x v) (ty:tyV X.K T x H) :
  s.TypeIs v T∧∀a,v=.ref a→∃ob,s.heap.get? a=some ob∧ob.dict=none:=by
 cases x with
 |str z =>
  obtain⟨t,rfl⟩:=r
  cases (show T = "str" from ty)
  exact⟨typeIs_str s z t,fun _ e=>nomatch e⟩
 |int i =>
  obtain⟨t,rfl⟩:=r
  cases (show T = "int" from ty)
  exact⟨typeIs_int s i t,fun _ e=>nomatch e⟩
 |ref p =>
  cases r
  rcases ty with ⟨rfl,xs,hq⟩ | ⟨rfl,o,hk,hc,hd⟩ | ⟨rfl,hk⟩ | ⟨rfl,S,n,hk⟩
  ·obtain⟨its,_,pl,_⟩:=I.list hq
   refine⟨pl.isList.typeIs,fun a e=>?_⟩
   cases e
   obtain⟨o,n,e,c,hd,_⟩:=pl
   exact⟨o,e,hd⟩
  ·refine⟨⟨o,I.kIn p o hk,hc⟩,fun a e=>?_⟩
   cases e
   exact⟨o,I.kIn _ o hk,hd⟩
  ·have z:∃o,s.heap.get? p=some o∧o.ExactDict:=by
    rcases hk with ⟨kvs,hk⟩ | ⟨kvs,hk⟩
    ·obtain⟨_,_,_,_,o,_,_,e,ex,_⟩:=I.hok p _ hk
     exact⟨o,e,ex⟩
    ·obtain⟨_,_,_,_,o,_,_,e,ex,_⟩:=I.hok p _ hk
     exact⟨o,e,ex⟩
   obtain⟨o,e,ex⟩:=z
   refine⟨⟨o,e,ex.1⟩,fun a e2=>?_⟩
   cases e2
   exact⟨o,e,ex.2.1⟩
  ·obtain⟨o,_,_,_,e,ex,_⟩:=I.hok p _ hk
   refine⟨⟨o,e,ex.1⟩,fun a e2=>?_⟩
   cases e2
   exact⟨o,e,ex.2.1⟩
 |_=>exact False.elim ty
noncomputable def tBM0 (K:zbm7) (T:String) (r:V→List V→Hp→VK→Prop) (to:TE):TE:=fun σ H Q=>to σ H fun x H1=>tyV K T x H1∧r x [] H1 Q
noncomputable def tBM (K:zbm7) (T:String) (r:V→List V→Hp→VK→Prop) (to:TE) (t:TA):TE:=fun σ H Q=>to σ H fun x H1=>tyV K T x H1∧t σ H1 fun xs H2=>r x xs H2 Q
variable {o e:Expr}{es:List Expr}{to:TE}{t:TA}{name:Str}{apos cpos:Pos}{T id:String}{r:V→List V→Hp→VK→Prop}
theorem pe_bm0 (pa:PlainAttrs T) (slot:Slot T name id) (hty:typeOf (.builtin id)=pure (.type "method_descriptor")) (hm:MtR X id r) (ho:PE X o to)
  (hbase:attributeBase o name X.env (eval o X.env)=eval o X.env:=by rfl) (hline:(apos.endLine == cpos.line)=true:=by rfl):PE X (.Call (.Attribute o name apos) [] [] cpos) (tBM0 X.K T r to):=by
 intro pins s σ H Q I h
 refine wpAny_Call_method0_late hbase hline (thn (ho pins s σ H _ I h) fun v s1 ⟨x,H1,I1,r1,ty,q1⟩=>?_)
 obtain⟨h1,h2⟩:=tyV_is I1 r1 ty
 exact⟨T,id,pa,slot,hty,h1,h2,Calls.callWith_builtin rfl (PySem.evalArgs_none (hm pins s1 σ H1 x [] v [] Q I1 r1 .nil q1))⟩
theorem zaz5 (pa:PlainAttrs T) (slot:Slot T name id) (hty:typeOf (.builtin id)=pure (.type "method_descriptor")) (hm:MtR X id r) (ho:PE X o to) (ha:PA X (e::es) t)
  (hbase:attributeBase o name X.env (eval o X.env)=eval o X.env:=by rfl)
  (hfew:((zbu1 cpos (zbo8 (e::es) X.env)).all (fun x=>!x.1)&&(backToKw cpos (keywordEach [] X.env)).all (fun x=>x.1.isSome)
   && decide ((e::es).length+([]:List Keyword).length+(if ([]:List Keyword).isEmpty then 0 else 1)<30))=true:=by rfl)
  (hline:(apos.endLine == cpos.line)=true:=by rfl) (hs:zbo8 (e::es) X.env=(false,eval e X.env)::zbo8 es X.env:=by rfl) (hplain:(zbu1 cpos (zbo8 es X.env)).any (·.1)=false:=by rfl) :
  PE X (.Call (.Attribute o name apos) (e::es) [] cpos) (tBM X.K T r to t):=by
 intro pins s σ H Q I h
 refine wpAny_Call_method_late hbase hfew hline rfl (thn (ho pins s σ H _ I h) fun v s1 ⟨x,H1,I1,r1,ty,q1⟩=>?_)
 obtain⟨h1,h2⟩:=tyV_is I1 r1 ty
 refine⟨T,id,pa,slot,hty,h1,h2,?_⟩
 have hA:=ha cpos pins s1 σ H1 _ I1 q1
 rw [hs]at hA ⊢
 refine Calls.callWith_builtin (by show (false||(zbu1 cpos (zbo8 es X.env)).any (·.1))=false;rw [hplain]<;>rfl) (Calls.evalArgs_plain ?_)
 exact thn hA fun us s2 ⟨vs,H2,I2,r2,q2⟩=>hm pins s2 σ H2 x vs v us Q I2 r1 r2 q2
end
end L2
namespace L2
open PySem.Spec
noncomputable def MtM (X:Cx) (id:String) (r:V→List V→Hp→VK→Prop):Prop :=
 ∀(pins:List (Addr×Obj)) (s:zbo3) (σ:St) (H:Hp) (x:V) (xs:List V) (v:Value) (us:List Value) (Q:VK),Inv X pins σ H s→RelV x v→Vals xs us→r x xs H Q →
  wpAny (model X.prog X.w) X.A (call (.builtin id) (v::us)) (EP X pins σ Q) X.xe s
theorem Vals.one:∀ {x:V}{us:List Value},Vals [x] us→∃u,us=[u]∧RelV x u
 |_,_,.cons r .nil=>⟨_,rfl,r⟩
theorem Vals.two:∀ {x y:V}{us:List Value},Vals [x,y] us→∃u v,us=[u,v]∧RelV x u∧RelV y v
 |_,_,_,.cons r (.cons q .nil)=>⟨_,_,rfl,r,q⟩
theorem Vals.zero:∀ {us:List Value},Vals [] us→us=[]
 |_,.nil=>rfl
theorem Vals.dropLast {xs:List V}{us:List Value} (h:Vals xs us):Vals xs.dropLast us.dropLast:=by
 induction h with
 |nil=>exact .nil
 |cons r t ih =>
  cases t with
  |nil=>exact .nil
  |cons q t'=>exact .cons r ih
theorem Vals.eraseIdx:∀ {xs:List V}{us:List Value} (i:Nat),Vals xs us→Vals (xs.eraseIdx i) (us.eraseIdx i)
 |_,_,_,.nil=>.nil
 |_,_,0,.cons _ t=>t
 |_,_,i+1,.cons r t=>.cons r (Vals.eraseIdx i t)
theorem Vals.reverse {xs:List V}{us:List Value} (h:Vals xs us):Vals xs.reverse us.reverse:=by
 induction h with
 |nil=>exact .nil
 |cons r t ih=>rw [zbv7,zbv7];exact Vals.append ih (.cons r .nil)
theorem Vals.rep {xs:List V}{us:List Value} (h:Vals xs us):∀k:Nat,Vals (zbn4 k xs).flatten (zbn4 k us).flatten
 |0=>.nil
 |k+1=>by
  rw [zbq9,zbq9,zbv8,zbv8]
  exact Vals.append h (Vals.rep h k)
theorem zba3 {α:Type} (l:List α):l.eraseIdx (l.length - 1)=l.dropLast:=by
 induction l with
 |nil=>rfl
 |cons a r ih =>
  cases r with
  |nil=>rfl
  |cons b r =>
   have e:(a::b::r).length - 1=((b::r).length - 1)+1:=by
    have h1:(a::b::r).length=r.length+2:=rfl
    have h2:(b::r).length=r.length+1:=rfl
    lia
   rw [e,List.eraseIdx_cons_succ,ih]
   all_goals rfl
theorem zam6 {α:Type}:∀(l:List α) (i:Nat),(l.eraseIdx i).length≤l.length
 |[],_=>zbp4 _
 |_::_,0=>zcc2 _
 |_::r,i+1=>Nat.succ_le_succ (zam6 r i)
theorem zan1 (its:List Value):∀(k:Nat) (acc:List Value),
  zch1 (fun x1 x2=>x1++x2) acc.toArray (zbn4 k its.toArray)=(acc++(zbn4 k its).flatten).toArray
 |0,acc=>by simp
 |k+1,acc=>by
  have e:acc.toArray++its.toArray=(acc++its).toArray:=by simp
  have e2:(acc++its)++(zbn4 k its).flatten=acc++(zbn4 (k+1) its).flatten:=by
   rw [zbq9,zbv8,zbv9]
  rw [← e2, ← zan1 its k (acc++its), ← e,zbq9,zca6]
section
variable {X:Cx}{pins:List (Addr×Obj)}{σ:St}{H:Hp}{s:zbo3}{l b:Addr}{xs ys zs:List V}
theorem Inv.lset {its its':List Value}{n:Nat}{f:Array Value→Array Value}{t':Nat} (I:Inv X pins σ H s) (hH:H l=some (.lst xs))
  (e:s.heap.get? l=some { cls:=.type "list",data:=.seq its.toArray n }) (hf:f its.toArray=its'.toArray) (hv:Vals ys its') (hz:ys.length≤sizeLine) :
  Inv X pins σ (upd H l (.lst ys)) { s with heap:=s.heap.update l (Obj.mapSeq f),toks:=t' }:=by
 have q:=PySem.IsL.update e f
 rw [hf]at q
 refine I.write (x:=l) (e:=l) (by rw [hH];exact trivial) (.inl rfl) (fun b' u hb hu=>(zbr0 s.heap (Obj.mapSeq f) (Ne.symm hb)).trans hu) ⟨_,q⟩ ?_
 exact⟨hz,its',_,hv,q⟩
theorem Inv.lnew {its:List Value}{t':Nat} (I:Inv X pins σ H s) (hv:Vals ys its) (hz:ys.length≤sizeLine) :
  Inv X pins σ (upd H s.heap.objs.size (.lst ys)) { s with heap:=s.heap.push { cls:=.type "list",data:=.seq its.toArray },toks:=t' } :=
 I.laid (fun _ _ q=>zbn8 _ q) (zbp4 _) ⟨hz,its,0,hv,zbp5 _ rfl⟩
theorem Inv.fresh (I:Inv X pins σ H s):H s.heap.objs.size=none:=I.hok.fresh (zbp4 _)
theorem Inv.lstM (I:Inv X pins σ H s) (hH:H l=some (.lst xs)):xs.length≤sizeLine∧∃(its:List Value) (n:Nat),Vals xs its∧xs.length=its.length∧s.heap.get? l=some { cls:=.type "list",data:=.seq its.toArray n }:=by
 obtain⟨z,its,n,r,e⟩:=I.hok l _ hH
 exact⟨z,its,n,r,r.length,e⟩
theorem zav8 {n:Nat} (h:n≤sizeLine):Builtin.List.listTooLong n=false:=by
 unfold Builtin.List.listTooLong
 exact decide_eq_false (by lia)
end
section
variable {X:Cx}
noncomputable def rAppend:V→List V→Hp→VK→Prop:=fun x vs H Q => ∃l xs y,x=.ref l∧vs=[y]∧H l=some (.lst xs)∧xs.length<sizeLine∧Q .non (upd H l (.lst (xs++[y])))
theorem zo7:MtM X "list.append" rAppend:=by
 intro pins s σ H x vs v us Q I rx rv h
 obtain⟨l,xs,y,rfl,rfl,hH,hz,q⟩:=h
 cases rx
 obtain⟨u,rfl,ru⟩:=rv.one
 obtain⟨z,its,n,r,hl,e⟩:=I.lstM hH
 refine call_meets F.slot_list_append ⟨_,e,rfl⟩ F.entry_list_append (F.args_list_append_2 _ _) (PySem.list_append l its.toArray n u (by rw [zbo4];lia)) ⟨e,?_⟩
 refine⟨.non,_,I.lset (its':=its++[u]) hH e (by simp) (r.append (.cons ru .nil)) ?_,rfl,q⟩
 rw [zbp6,zbr2]
 lia
noncomputable def rExtend:V→List V→Hp→VK→Prop:=fun x vs H Q => ∃l b xs zs,x=.ref l∧vs=[.ref b]∧H l=some (.lst xs)∧H b=some (.lst zs)∧xs.length+zs.length≤sizeLine∧Q .non (upd H l (.lst (xs++zs)))
theorem zbf4:MtM X "list.extend" rExtend:=by
 intro pins s σ H x vs v us Q I rx rv h
 obtain⟨l,b,xs,zs,rfl,rfl,hH,hB,hz,q⟩:=h
 cases rx
 obtain⟨u,rfl,ru⟩:=rv.one
 cases ru
 obtain⟨z,its,n,r,hl,e⟩:=I.lstM hH
 obtain⟨z2,its2,n2,r2,hl2,e2⟩:=I.lstM hB
 have hsz:its.toArray.size+its2.toArray.size≤sizeLine:=by rw [zbo4,zbo4];lia
 have hlong : ¬ (!its.toArray.isEmpty&&Builtin.List.listTooLong (its.toArray.size+its2.toArray.size))=true:=by
  rw [zav8 hsz,Bool.and_false]
  exact zbp0
 refine call_meets F.slot_list_extend ⟨_,e,rfl⟩ F.entry_list_extend (F.args_list_extend_2 _ _)
  (AutoSeq1.list_extend_list_list_0 l its.toArray n b its2.toArray n2 hlong (by rw [zbo4];lia) (by lia)) ⟨e,e2,?_⟩
 refine⟨.non,_,I.lset (its':=its++its2) hH e (by simp) (r.append r2) ?_,rfl,q⟩
 rw [zbp6]
 lia
noncomputable def rPop:V→List V→Hp→VK→Prop:=fun x vs H Q => ∃l xs y,x=.ref l∧vs=[]∧H l=some (.lst xs)∧xs[xs.length - 1]?=some y∧Q y (upd H l (.lst xs.dropLast))
theorem mt_pop:MtM X "list.pop" rPop:=by
 intro pins s σ H x vs v us Q I rx rv h
 obtain⟨l,xs,y,rfl,rfl,hH,hy,q⟩:=h
 cases rx
 have hus:=rv.zero
 subst hus
 obtain⟨z,its,n,r,hl,e⟩:=I.lstM hH
 obtain⟨u,hu,ru⟩:=r.get hy
 have hy':its.toArray[its.toArray.size - 1]?=some u:=by
  show its.toArray[its.length - 1]?=some u
  rw [← zbz8, ← hl]
  exact hu
 refine call_meets F.slot_list_pop ⟨_,e,rfl⟩ F.entry_list_pop (F.args_list_pop_1 _) (MeetsSeq.list_pop_last l its.toArray n u hy' (by rw [zbo4];lia)) ⟨e,?_⟩
 refine⟨y,_,I.lset (its':=its.dropLast) hH e ?_ r.dropLast ?_,ru,q⟩
 ·show its.toArray.eraseIdxIfInBounds (its.toArray.size - 1)=its.dropLast.toArray
  rw [zbo4,zbu2,zba3]
 ·rw [List.length_dropLast]
  lia
noncomputable def rPopAt:V→List V→Hp→VK→Prop:=fun x vs H Q => ∃l xs i k y,x=.ref l∧vs=[.int i]∧H l=some (.lst xs) ∧ -(2 ^ 63)≤i∧i<2 ^ 63∧seqIndex? i xs.length=some k∧xs[k]?=some y∧Q y (upd H l (.lst (xs.eraseIdx k)))
theorem mt_popAt:MtM X "list.pop" rPopAt:=by
 intro pins s σ H x vs v us Q I rx rv h
 obtain⟨l,xs,i,k,y,rfl,rfl,hH,h1,h2,hk,hy,q⟩:=h
 cases rx
 obtain⟨u,rfl,ru⟩:=rv.one
 obtain⟨t,rfl⟩:=ru
 obtain⟨z,its,n,r,hl,e⟩:=I.lstM hH
 obtain⟨w,hw,rw'⟩:=r.get hy
 refine call_meets F.slot_list_pop ⟨_,e,rfl⟩ F.entry_list_pop (F.args_list_pop_2 _ _)
  (MeetsSeq.list_pop_at l its.toArray n i t k w (fitsIndex_both h1 h2) (by rw [zbo4, ← hl];exact hk) (by rw [← zbz8];exact hw) (by rw [zbo4];lia)) ⟨e,?_⟩
 refine⟨y,_,I.lset (its':=its.eraseIdx k) hH e ?_ (r.eraseIdx k) ?_,rw',q⟩
 ·show its.toArray.eraseIdxIfInBounds k=(its.eraseIdx k).toArray
  rw [zbu2]
 ·have:=zam6 xs k
  lia
noncomputable def rRep:R2:=fun x y H Q => ∃l k xs,x=.ref l∧y=.int k∧H l=some (.lst xs) ∧ -(2 ^ 63)≤k∧k<2 ^ 63∧xs.length*k.toNat≤sizeLine ∧
 ∀p,H p=none→Q (.ref p) (upd H p (.lst (zbn4 k.toNat xs).flatten))
theorem len_rep {α:Type} (xs:List α) (k:Nat):(zbn4 k xs).flatten.length=k*xs.length:=by
 induction k with
 |zero=>simp
 |succ k ih=>rw [zbq9,zbv8,zbp6,ih,Nat.succ_mul,Nat.add_comm]
theorem op_rep:OpR X (binaryOp .Mult) rRep:=by
 intro pins s σ H x y v u Q I rx ry h
 obtain⟨l,k,xs,rfl,rfl,hH,h1,h2,hz,q⟩:=h
 cases rx
 obtain⟨t,rfl⟩:=ry
 obtain⟨z,its,n,r,hl,e⟩:=I.lstM hH
 have hlen:its.toArray.size*k.toNat≤sizeLine:=by rw [zbo4, ← hl];exact hz
 have hcap : ¬ its.toArray.size*k.toNat >(2 ^ 63 - 1) / 8:=by
  have:(sizeLine:Nat)≤(2 ^ 63 - 1) / 8:=by decide
  lia
 have hfit : ¬ (!Builtin.List.listFitsIndex k)=true:=by
  rw [fitsIndex_both h1 h2]
  exact zbp0
 have hlong : ¬ Builtin.List.listTooLong (its.toArray.size*k.toNat)=true:=by
  rw [zav8 hlen]
  exact zbp0
 have hnew:zch1 (fun x1 x2=>x1++x2) #[] (zbn4 (if its.toArray.isEmpty=true then 0 else k.toNat) its.toArray)=(zbn4 k.toNat its).flatten.toArray:=by
  have f0:∀m:Nat,zch1 (fun x1 x2=>x1++x2) #[] (zbn4 m its.toArray)=(zbn4 m its).flatten.toArray:=fun m=>by
   have:=zan1 its m []
   rw [zca7]at this
   exact this
  rw [f0]
  cases its with
  |nil=>simp
  |cons a r'=>rw [if_neg (by simp)]
 refine wpAny_binaryOp_repeat_ref (T := "list") (U := "int") (by decide) ⟨_,e,rfl⟩ (fun s'=>typeIs_int s' k t) noFill_list_mul F.fills_int_mul F.slot_int_rmul repeat_list F.slot_int_index.lookup
  (call_meets F.slot_int_rmul (typeIs_int s k t) F.entry_int_rmul (F.args_int_rmul_2 _ _) (int___rmul___int_list k t l its.toArray n)
   ⟨e,rfl,⟨_,e,rfl⟩,call_meets F.slot_list_mul ⟨_,e,rfl⟩ F.entry_list_mul (F.args_list_mul_2 _ _) (AutoListH.list___mul___list_int_3 l its.toArray n k t hfit hcap hlong) ⟨e,?_⟩⟩)
 rw [hnew]
 exact⟨.ref _,_,I.lnew (t':=s.toks) (r.rep k.toNat) (by rw [len_rep,Nat.mul_comm];exact hz),rfl,q _ I.fresh⟩
end
end L2
namespace Att
open PySem.W PySem.Calls
theorem zab5 {P:Params}{h:Heap}:∀(ns:List Int) (vs:List Value),WellAll P h vs (ns.map WData.int)→IntsAre vs ns:=by
 intro ns
 induction ns with
 |nil =>
  intro vs w
  rw [zby3]at w
  cases w
  exact .nil
 |cons n ns ih =>
  intro vs w
  rw [zbn7]at w
  cases w with
  |cons a b =>
   cases a
   exact .cons _ _ (ih _ b)
theorem script_of {l:OpenLaw}{n:Nat} (hn:l.most=some n) {P:Params}{h:Heap}{args:List WData}{vals:List Value}
  (hpre:l.row.toRowW.claim.pre args=true) (hwl:WellAll P h vals args) :
  ∃a vs ns,vals=[Value.ref a]∧args=[WData.list (ns.map WData.int)]∧h.get? a=some { cls:=.type "list",data:=.seq vs.toArray }∧IntsAre vs ns∧ns.length≤n:=by
 have hsh:WShape.hasAll [] args [.list .int]=true:=(pre_splitW hpre).1
 have hc:l.pre.holds [] { args:=args }=true:=(pre_splitW hpre).2
 obtain⟨d,r,rfl,h1,h2⟩:=hasAllW_cons hsh
 obtain rfl:=hasAllW_nil h2
 obtain⟨xs,rfl,h3⟩:=hasW_list h1
 obtain⟨ns,rfl⟩:=items_int h3
 have hlen:ns.length≤n:=by
  unfold OpenLaw.pre at hc
  have h4:(WTm.not (.lt (.lit (.int (n:Int))) (.len (.arg 0)))).holds [] { args:=[.list (ns.map .int)] }=true:=by
   have h4:=(holds_andW hc).1
   rw [hn]at h4
   exact h4
  have h5:=condW_of h4 (w_not (w_lt w_lit (w_len_list (w_arg rfl))))
  rw [zbo0]at h5
  refine Nat.le_of_not_lt fun q=>?_
  have q':(n:Int)<((ns.length:Nat):Int):=by lia
  first
   |(rw [decide_eq_true q']at h5;exact absurd h5 (by decide))
   |(simp at h5;lia)
 cases hwl with
 |cons w1 w2 =>
  cases w2
  cases w1 with
  |list ho hall=>exact⟨_,_,ns,rfl,rfl,ho,zab5 ns _ hall,hlen⟩
theorem post_true (l:OpenLaw) (args:List WData):l.row.toRowW.claim.post args (.bool true) args=true :=
 postW_of (r:=l.row.toRowW) (X:=(true == true))
  (show WShape.has [] (.bool true) .bool=true by first | rfl | decide | simp [WShape.has,WShape.arms,WShape.armsAll])
  (show (WTm.eq .res (.lit (.bool true))).value [] { args:=args,res:=some (.bool true),after:=args }=some (.bool (true == true)) from w_eq_bool (w_res rfl) w_lit) rfl
end Att
namespace L2
open PySem.Spec
theorem zv1:∀ {vs:List Value}{ns:List Int},IntsAre vs ns→Vals (ns.map V.int) vs
 |_,_,.nil=>.nil
 |_,_,.cons n t h=>.cons ⟨t,rfl⟩ (zv1 h)
noncomputable def zo5 (s:Stmt):Arguments:=match s with
 |.FunctionDef _ a _ _ _ _ _ _ _ _=>a
 |_=>{ posonlyargs:=[],args:=[],vararg:=none,kwonlyargs:=[],kw_defaults:=[],kwarg:=none,defaults:=[] }
noncomputable def zk7 (s:Stmt):List Stmt:=match s with
 |.FunctionDef _ _ b _ _ _ _ _ _ _=>b
 |_=>[]
noncomputable def zc4 (s:Stmt):Scope:=match s with
 |.FunctionDef _ _ _ _ _ _ sc _ _ _=>sc
 |_=>{ kind:=.function,names:=[],isGenerator:=false,isCoroutine:=false }
noncomputable abbrev CX0:CXT:=fun _ _ _ _ _ _=>False
noncomputable abbrev E0:XK:=fun _ _ _=>False
theorem pass0 {X:Cx}:zbm5 CX0 X E0:=fun _ _ _ _ _ _ _ h=>h.elim
structure Fun (K:zbm7) (x qual:Str) (st:Stmt) (f:Addr) (fd:FuncData):Prop where
 ex:∃(oc:Value) (od:Option Addr) (kV doc pm:Value) (an:Option Addr) (cdv ct:Value) (osl:Array (Option Value)),
  fd=zbs7 x qual (zo5 st) (zk7 st) (zc4 st) .none kV doc pm an cdv ct∧K.lookup f=some ⟨oc,od,.func fd,osl⟩∧zby2 K cdv qual=true
 kp:zbs0 K (.ref f)=true
section
variable {P:Program}{w:World}{K:zbm7}{mg:Str→Option Value}{base:BHeap}
theorem Fun.ok {x qual:Str}{st:Stmt}{f:Addr}{fd:FuncData}{N ps:List Str}{k:Nat}{sp:Sp} (F:Fun K x qual st f fd) (S:FnScope N ps (zc4 st)) (len:∀vs H Q E,sp vs H Q E→vs.length=ps.length)
  (hbody:∀(cdv:Value) (A:Around) (outer:List Env) (s:zbo3) (H:Hp) (vs:List V) (Q:VK) (E:XK),Room k (A.deeper (envOfC qual (zc4 st) s.heap.objs.size f cdv))→sp vs H Q E →
   ∃t,PSs (cxOf CX0 P w K mg base N qual (zc4 st) f cdv A outer s H E).nox (zk7 st) t∧t { nx:=fun _ H'=>Q .non H',rt:=Q } (start N vs) H):FnOk P w K mg base CX0 (k+1) f fd ps sp:=by
 obtain⟨oc,od,kV,doc,pm,an,cdv,ct,osl,rfl,lk,hcd⟩:=F.ex
 refine fn_of lk hcd S len fun A outer s H vs Q E hr hsp=>?_
 obtain⟨t,h,q⟩:=hbody cdv A outer s H vs Q E hr hsp
 exact⟨t,h.nox,q⟩
theorem Fun.binds {x qual:Str}{st:Stmt}{f:Addr}{fd:FuncData}{ps:List Str} (F:Fun K x qual st f fd)
  (h:∀(kV doc pm:Value) (an:Option Addr) (cdv ct:Value) (us:List Value),us.length=ps.length→bindArgs (zbs7 x qual (zo5 st) (zk7 st) (zc4 st) .none kV doc pm an cdv ct) ⟨us,[]⟩=pure (ps.zip us)):Binds K fd ps []:=by
 obtain⟨oc,od,kV,doc,pm,an,cdv,ct,osl,rfl,lk,hcd⟩:=F.ex
 exact .all (h kV doc pm an cdv ct)
theorem fun_mk {x qual:Str}{st:Stmt}{f:Addr}{oc:Value}{od an:Option Addr}{osl:Array (Option Value)}{kV doc pm cdv ct:Value} (l:K.lookup f=some ⟨oc,od,.func (zbs7 x qual (zo5 st) (zk7 st) (zc4 st) .none kV doc pm an cdv ct),osl⟩)
  (c:zby2 K cdv qual=true) (k:zbs0 K (.ref f)=true):Fun K x qual st f (zbs7 x qual (zo5 st) (zk7 st) (zc4 st) .none kV doc pm an cdv ct):=⟨⟨oc,od,kV,doc,pm,an,cdv,ct,osl,rfl,l,c⟩,k⟩
end
theorem iteF {A B:Prop} (h:B):if false=true then A else B:=by
 rw [if_neg zbp0]
 exact h
theorem iteT {A B:Prop} (h:A):if true=true then A else B:=by
 rw [if_pos rfl]
 exact h
noncomputable def Same (H H':Hp):Prop := ∀b o,H b=some o→H' b=some o
theorem Same.refl (H:Hp):Same H H:=fun _ _ h=>h
theorem Same.trans {H H1 H2:Hp} (a:Same H H1) (b:Same H1 H2):Same H H2:=fun c o h=>b c o (a c o h)
theorem Same.free {H H':Hp} (e:Same H H') {l:Addr} (h:H' l=Option.none):H l=Option.none:=by
 cases q:H l with
 |none=>rfl
 |some o =>
  rw [e l o q]at h
  cases h
theorem Same.seq {K:zbm7}{H H':Hp}{a:Addr}{xs:List V} (e:Same H H') (h:SqL K H a xs):SqL K H' a xs:=by
 rcases h with (h | ⟨o,h⟩) |h
 ·exact .inl (.inl (e _ _ h))
 ·exact .inl (.inr ⟨o,e _ _ h⟩)
 ·exact .inr h
end L2
set_option maxHeartbeats 4000000
namespace L2
open PySem.Spec
section
variable {κ:Type} [DecidableEq κ]
noncomputable def valV (kvs:List (κ×V)) (k:κ):Option V:=(kvs.find? fun kv=>decide (kv.1=k)).map (·.2)
noncomputable def putK (kvs:List (κ×V)) (k:κ) (v:V):List (κ×V) :=
 if (kvs.any fun kv=>decide (kv.1=k))=true then kvs.map (fun kv=>if kv.1=k then (kv.1,v) else kv) else kvs++[(k,v)]
noncomputable def dropK (kvs:List (κ×V)) (k:κ):List (κ×V):=kvs.filter fun kv=>decide (kv.1≠k)
theorem zv2 {p:κ×V}{r:List (κ×V)}{k:κ} (e:p.1=k):valV (p::r) k=some p.2:=by simp [valV,zbv5,e]
theorem zv3 {p:κ×V}{r:List (κ×V)}{k:κ} (e : ¬ p.1=k):valV (p::r) k=valV r k:=by simp [valV,zbv5,e]
theorem zaf5 (k:κ):∀kvs:List (κ×V),(kvs.any fun kv=>decide (kv.1=k))=(valV kvs k).isSome
 |[]=>rfl
 |p::r=>by
  rw [zbx1]
  by_cases e:p.1=k
  ·simp only [zv2 e,decide_eq_true e,zcb3,zcc3]
  ·rw [zv3 e,decide_eq_false e,Bool.false_or];exact zaf5 k r
theorem zt9 (kvs:List (κ×V)) (k:κ) (v:V):(putK kvs k v).length≤kvs.length+1:=by
 unfold putK
 split
 ·rw [zbo0];lia
 ·rw [zbp6,zbp9,zca8];lia
theorem RelO.isSome_eq {o:Option V}{u:Option Value} (r:RelO o u):o.isSome=u.isSome:=by
 cases o with
 |none=>cases u with
  |none=>rfl
  |some _=>exact (show False from r).elim
 |some _=>cases u with
  |none=>exact (show False from r).elim
  |some _=>rfl
theorem KV.val {kvs:List (κ×V)}{vs:List (κ×Value)} (r:KV kvs vs) (k:κ):RelO (valV kvs k) (valueAt vs k):=by
 unfold KV at r
 induction r with
 |nil=>exact True.intro
 |@cons p q ps qs h t ih =>
  obtain⟨h1,h2⟩:=h
  by_cases e:p.1=k
  ·have e':q.1=k:=h1.symm.trans e
   have b:valueAt (q::qs) k=some q.2:=by simp [valueAt,zbv5,e']
   rw [zv2 e,b];exact h2
  ·have e' : ¬ q.1=k:=fun z=>e (h1.trans z)
   have b:valueAt (q::qs) k=valueAt qs k:=by simp [valueAt,zbv5,e']
   rw [zv3 e,b];exact ih
theorem KV.any {kvs:List (κ×V)}{vs:List (κ×Value)} (r:KV kvs vs) (k:κ):(kvs.any fun kv=>decide (kv.1=k))=vs.any fun kv=>decide (kv.1=k):=by
 unfold KV at r
 induction r with
 |nil=>rfl
 |cons h t ih=>rw [zbx1,zbx1,ih,h.1]
theorem KV.repl {kvs:List (κ×V)}{vs:List (κ×Value)} (r:KV kvs vs) (k:κ) {y:V}{u:Value} (ry:RelV y u) :
  KV (kvs.map fun kv=>if kv.1=k then (kv.1,y) else kv) (vs.map fun kv=>if kv.1=k then (kv.1,u) else kv):=by
 unfold KV at r ⊢
 induction r with
 |nil=>exact .nil
 |@cons p q ps qs h t ih =>
  rw [zbn7,zbn7]
  refine .cons ?_ ih
  obtain⟨h1,h2⟩:=h
  by_cases e:p.1=k
  ·rw [if_pos e,if_pos (h1.symm.trans e)];exact⟨h1,ry⟩
  ·rw [if_neg e,if_neg (fun z=>e (h1.trans z))];exact⟨h1,h2⟩
theorem KV.put {kvs:List (κ×V)}{vs:List (κ×Value)} (r:KV kvs vs) (k:κ) {y:V}{u:Value} (ry:RelV y u):KV (putK kvs k y) (stored vs k u):=by
 unfold putK stored
 rw [r.any k]
 by_cases e:(vs.any fun kv=>decide (kv.1=k))=true
 ·rw [if_pos e,if_pos e];exact r.repl k ry
 ·rw [if_neg e,if_neg e];exact Paired.snoc r ⟨rfl,ry⟩
theorem KV.drop {kvs:List (κ×V)}{vs:List (κ×Value)} (r:KV kvs vs) (k:κ):KV (dropK kvs k) (without vs k):=by
 unfold KV at r ⊢
 unfold dropK without
 induction r with
 |nil=>exact .nil
 |@cons p q ps qs h t ih =>
  obtain⟨h1,h2⟩:=h
  rw [zcd9,zcd9]
  by_cases e:p.1=k
  ·have a : ¬ decide (p.1≠k)=true:=by simp [e]
   have b : ¬ decide (q.1≠k)=true:=by simp [h1.symm.trans e]
   rw [if_neg a,if_neg b];exact ih
  ·have e' : ¬ q.1=k:=fun z=>e (h1.trans z)
   have a:decide (p.1≠k)=true:=by simp [e]
   have b:decide (q.1≠k)=true:=by simp [e']
   rw [if_pos a,if_pos b];exact .cons ⟨h1,h2⟩ ih
theorem KV.length {kvs:List (κ×V)}{vs:List (κ×Value)} (r:KV kvs vs):kvs.length=vs.length:=Paired.length r
end
theorem zbh0 {P:Program}{w:World}{k:Key}{u:Value} (r:RelV (kV k) u):(zh1 P w).is k u=true:=by
 cases k with
 |inl i=>obtain⟨t,e⟩:=(show ∃t,u=Value.int i t from r);subst e;exact zar2 P w i t
 |inr x=>obtain⟨t,e⟩:=(show ∃t,u=Value.str x t from r);subst e;exact zar1 P w x t
theorem zam8 {P:Program}{w:World}:∀ {ks:List Key}{us:List Value},Vals (ks.map kV) us→ItemsAre (zh1 P w) ks us
 |[],_,r=>by rw [zby3]at r;cases r;exact .nil
 |k::ks,_,r=>by
  rw [zbn7]at r
  cases r with
  |cons h t=>exact .cons (zbh0 h) (zam8 t)
noncomputable abbrev KT (H:Hp):List (List Key×V)→List (List Key×Addr×Value)→Prop:=Paired fun p q=>p.1=q.1∧H q.2.1=some (.tup (p.1.map kV))∧RelV p.2 q.2.2
theorem KT.val {H:Hp}{kvs:List (List Key×V)}{xs:List (List Key×Addr×Value)} (r:KT H kvs xs) (k:List Key):RelO (valV kvs k) ((atKey xs k).map (·.2)):=by
 induction r with
 |nil=>exact True.intro
 |@cons p q ps qs h t ih =>
  obtain⟨h1,_,h2⟩:=h
  by_cases e:p.1=k
  ·have e':q.1=k:=h1.symm.trans e
   have b:atKey (q::qs) k=some q.2:=by simp [atKey,zbv5,e']
   rw [zv2 e,b];exact h2
  ·have e' : ¬ q.1=k:=fun z=>e (h1.trans z)
   have b:atKey (q::qs) k=atKey qs k:=by simp [atKey,zbv5,e']
   rw [zv3 e,b];exact ih
theorem KT.repl {H:Hp}{kvs:List (List Key×V)}{xs:List (List Key×Addr×Value)} (r:KT H kvs xs) (k:List Key) {y:V}{u:Value} (ry:RelV y u) :
  KT H (kvs.map fun kv=>if kv.1=k then (kv.1,y) else kv) (xs.map (putAt k u)):=by
 induction r with
 |nil=>exact .nil
 |@cons p q ps qs h t ih =>
  rw [zbn7,zbn7]
  refine .cons ?_ ih
  obtain⟨h1,h2,h3⟩:=h
  unfold putAt
  by_cases e:p.1=k
  ·rw [if_pos e,if_pos (h1.symm.trans e)];exact⟨h1,h2,ry⟩
  ·rw [if_neg e,if_neg (fun z=>e (h1.trans z))];exact⟨h1,h2,h3⟩
theorem KT.put {H:Hp}{kvs:List (List Key×V)}{xs:List (List Key×Addr×Value)} (r:KT H kvs xs) (k:List Key) {b:Addr}{y:V}{u:Value} (hb:H b=some (.tup (k.map kV))) (ry:RelV y u) :
  KT H (putK kvs k y) (storedH xs k b u):=by
 have e:(kvs.any fun kv=>decide (kv.1=k))=(atKey xs k).isSome:=by
  rw [zaf5,(r.val k).isSome_eq,zcd1]
 unfold putK storedH
 rw [e]
 by_cases q:(atKey xs k).isSome=true
 ·rw [if_pos q,if_pos q];exact r.repl k ry
 ·rw [if_neg q,if_neg q];exact Paired.snoc r ⟨rfl,hb,ry⟩
theorem KT.keeps {H H':Hp}{kvs:List (List Key×V)}{xs:List (List Key×Addr×Value)} (r:KT H kvs xs) (ht:∀b ys,H b=some (.tup ys)→H' b=some (.tup ys)):KT H' kvs xs :=
 Paired.mapP r fun _ _ z=>⟨z.1,ht _ _ z.2.1,z.2.2⟩
section
variable {P:Program}{w:World}{H:Hp}{h:Heap}{a:Addr}
theorem rd_of {u:HO} (ok:HOk P w H h) (e:Rd H a u):ObjOk P w H h a u:=e.ok ok
theorem zbi4 {kvs:List (Key×V)} (ok:HOk P w H h) (e:Rd H a (.dK kvs)):kvs.length≤sizeLine∧(a == sysModules)=false∧∃vs,KV kvs vs∧h.DictOf (zh1 P w) a vs :=
 show ObjOk P w H h a (.dK kvs) from rd_of ok e
theorem dk_of {kvs:List (Key×V)} (ok:HOk P w H h) (e:H a=some (.dK kvs)):kvs.length≤sizeLine∧(a == sysModules)=false∧∃vs,KV kvs vs∧h.DictOf (zh1 P w) a vs:=zbi4 ok (.inl e)
theorem key_of {ks:List Key} (ok:HOk P w H h) (e:H a=some (.tup (ks.map kV))):(tupleKind (zh1 P w)).is h ks a:=by
 obtain⟨_,its,r,o,h1,h2,n,h3⟩:=(show ObjOk P w H h a (.tup (ks.map kV)) from ok a _ e)
 exact⟨o,its.toArray,n,h1,h2,h3,by simpa using zam8 r⟩
theorem dt_rd {kvs:List (List Key×V)} (ok:HOk P w H h) (e:Rd H a (.dT kvs)):kvs.length≤sizeLine∧(a == sysModules)=false ∧
  ∃xs,KT H kvs xs∧h.DictOfH (tupleKind (zh1 P w)) a xs:=by
 obtain⟨z,y,xs,r,o,es,ep,h1,h2,h3,h4,h5⟩:=(show ObjOk P w H h a (.dT kvs) from rd_of ok e)
 refine⟨z,y,xs,r,o,es,ep,h1,h2,h3,h4,fun x hx=>?_,h5⟩
 have all:∀ {l:List (List Key×V)}{m:List (List Key×Addr×Value)},KT H l m→∀x∈m,(tupleKind (zh1 P w)).is h x.1 x.2.1:=by
  intro l m q
  induction q with
  |nil=>intro x hx;exact nomatch hx
  |@cons p q ps qs hq t ih =>
   intro x hx
   rcases zbn5.mp hx with e | hx
   ·subst e
    exact key_of ok (by rw [← hq.1];exact hq.2.1)
   ·exact ih x hx
 exact all r x hx
theorem dt_of {kvs:List (List Key×V)} (ok:HOk P w H h) (e:H a=some (.dT kvs)):kvs.length≤sizeLine∧(a == sysModules)=false ∧
  ∃xs,KT H kvs xs∧h.DictOfH (tupleKind (zh1 P w)) a xs:=dt_rd ok (.inl e)
end
noncomputable def DGet (H:Hp) (a:Addr) (y:V) (r:Option V):Prop :=
 (∃kvs k,Rd H a (.dK kvs)∧y=kV k∧r=valV kvs k)∨∃kvs k b,Rd H a (.dT kvs)∧y=.ref b∧H b=some (.tup (k.map kV))∧r=valV kvs k
noncomputable def DPut (H:Hp) (a:Addr) (y v:V) (H':Hp):Prop :=
 (∃kvs k,H a=some (.dK kvs)∧y=kV k∧kvs.length<sizeLine∧H'=upd H a (.dK (putK kvs k v))) ∨
 ∃kvs k b,H a=some (.dT kvs)∧y=.ref b∧H b=some (.tup (k.map kV))∧kvs.length<sizeLine∧H'=upd H a (.dT (putK kvs k v))
theorem DGet.k {H:Hp}{a:Addr}{kvs:List (Key×V)}{k:Key} (e:H a=some (.dK kvs)):DGet H a (kV k) (valV kvs k):=.inl ⟨kvs,k,.inl e,rfl,rfl⟩
theorem DPut.k {H:Hp}{a:Addr}{kvs:List (Key×V)}{k:Key}{v:V} (e:H a=some (.dK kvs)) (hl:kvs.length<sizeLine):DPut H a (kV k) v (upd H a (.dK (putK kvs k v))):=.inl ⟨kvs,k,e,rfl,hl,rfl⟩
section
variable {X:Cx}{pins:List (Addr×Obj)}{σ:St}{H:Hp}{s:zbo3}{a:Addr}{y v:V}{u r:Value}{o:Option V}{A:Around}{E:Value→zbo3→Prop}
theorem Inv.big (I:Inv X pins σ H s):sysModules<s.heap.objs.size:=by
 have h:mainGlobals<s.heap.objs.size:=(I.mod.glob.keeps I.bk).lt
 exact zby4 (by decide) h
theorem zbi9 {Q:Value→zbo3→Prop} (hu:A.units+1<cLine) (I:Inv X pins σ H s) (g:DGet H a y (some v)) (ry:RelV y u) (h:∀w' s',Inv X pins σ H s'→RelV v w'→Q w' s') :
  wpAny (model X.prog X.w) A (getItem (.ref a) u) Q E s:=by
 rcases g with ⟨kvs,k,e,ey,l⟩ | ⟨kvs,k,b,e,ey,eb,l⟩
 ·subst ey
  obtain⟨z,hd,vs,rel,dd⟩:=zbi4 I.hok e
  obtain⟨w',hw,rw'⟩:=RelO.some_of (v:=v) (o:=valueAt vs k) (by rw [l];exact rel.val k)
  exact wpAny_getItem_of (zbh0 ry) dd.mapOf hw (h w' _ (I.tok _) rw')
 ·subst ey
  cases (show u=Value.ref b from ry)
  obtain⟨z,hd,xs,rel,dd⟩:=dt_rd I.hok e
  obtain⟨w',hw,rw'⟩:=RelO.some_of (v:=v) (o:=(atKey xs k).map (·.2)) (by rw [l];exact rel.val k)
  obtain⟨p,hp,hp2⟩:=Option.map_eq_some_iff.mp hw
  refine wpAny_getItem_heap (tupleKind_room_in1 hu) (key_of I.hok eb) dd hp ?_
  rw [hp2]
  exact h w' _ (I.tok _) rw'
theorem d_notIn {Q:Value→zbo3→Prop} (hu:A.units+1<cLine) (I:Inv X pins σ H s) (g:DGet H a y o) (ry:RelV y u) (h:∀s',Inv X pins σ H s'→Q (.bool (!o.isSome)) s') :
  wpAny (model X.prog X.w) A (compareOp .NotIn u (.ref a)) Q E s:=by
 rcases g with ⟨kvs,k,e,ey,l⟩ | ⟨kvs,k,b,e,ey,eb,l⟩
 ·subst ey
  obtain⟨z,hd,vs,rel,dd⟩:=zbi4 I.hok e
  refine wpAny_notIn_of (zbh0 ry) hd dd.mapOf ?_
  rw [← (rel.val k).isSome_eq, ← l]
  exact h _ (I.tok _)
 ·subst ey
  cases (show u=Value.ref b from ry)
  obtain⟨z,hd,xs,rel,dd⟩:=dt_rd I.hok e
  refine wpAny_notIn_heap (tupleKind_room_in1 hu) (key_of I.hok eb) hd dd ?_
  have q:=(rel.val k).isSome_eq
  rw [zcd1]at q
  rw [← q, ← l]
  exact h _ (I.tok _)
theorem zas4 {h':Heap}{t':Nat}{ob:HO} (I:Inv X pins σ H s) (mu:Mut (H a)) (hs:Heap.SameBut a s.heap h') (he:∃q,h'.get? a=some q) (new:ObjOk X.prog X.w (upd H a ob) h' a ob) :
  Inv X pins σ (upd H a ob) { s with heap:=h',toks:=t' } :=
 I.write (x:=a) (e:=a) mu (.inl rfl) (fun b q hb z=>(hs.2 b hb).trans z) he new
theorem dk_new {P:Program}{w:World}{H':Hp}{h':Heap}{kvs:List (Key×V)}{vs:List (Key×Value)} (z:kvs.length≤sizeLine) (hd:(a == sysModules)=false) (rel:KV kvs vs) (dd:h'.DictOf (zh1 P w) a vs) :
  ObjOk P w H' h' a (.dK kvs):=⟨z,hd,vs,rel,dd⟩
theorem zbi8 {H':Hp}{Q:Unit→zbo3→Prop} (hu:A.units+1<cLine) (I:Inv X pins σ H s) (g:DPut H a y v H') (ry:RelV y u) (rv:RelV v r) (h:∀s',Inv X pins σ H' s'→Q () s') :
  wpAny (model X.prog X.w) A (setItem (.ref a) u r) Q E s:=by
 rcases g with ⟨kvs,k,e,ey,l,eH⟩ | ⟨kvs,k,b,e,ey,eb,l,eH⟩
 ·subst ey eH
  obtain⟨z,hd,vs,rel,dd⟩:=dk_of I.hok e
  have hz:vs.length≤sizeLine:=by rw [← rel.length];exact z
  have hl:(putK kvs k v).length≤sizeLine:=by have:=zt9 kvs k v;lia
  refine wpAny_setItem_pairs (hsz:=hz) (zbh0 ry) dd fun h' dd' hs=>h _ ?_
  have he:∃q,h'.get? a=some q:=let ⟨q,_,_,hq,_⟩:=dd';⟨q,hq⟩
  exact zas4 I (by rw [e];exact True.intro) hs he (dk_new hl hd (rel.put k rv) dd')
 ·subst ey eH
  cases (show u=Value.ref b from ry)
  obtain⟨z,hd,xs,rel,dd⟩:=dt_of I.hok e
  have hz:xs.length≤sizeLine:=by rw [← Paired.length rel];exact z
  have hl:(putK kvs k v).length≤sizeLine:=by have:=zt9 kvs k v;lia
  refine wpAny_setItem_heap (hsz:=hz) (tupleKind_room_in1 hu) (key_of I.hok eb) dd fun h' dd' hs=>h _ ?_
  obtain⟨q,es,ep,hq,h2,h3,h4,_,h5⟩:=dd'
  refine zas4 I (by rw [e];exact True.intro) hs ⟨q,hq⟩ ⟨hl,hd,_,(rel.put k eb rv).keeps fun c ys ec=>?_,q,es,ep,hq,h2,h3,h4,h5⟩
  rw [zc8 (ne_of ec e (fun z=>nomatch z))]
  exact ec
end
section
variable {X:Cx}{pins:List (Addr×Obj)}{σ:St}{H:Hp}{s:zbo3}{a:Addr}{kvs:List (Key×V)}{k:Key}{u:Value}{A:Around}{E:Value→zbo3→Prop}
theorem d_len {Q:Value→zbo3→Prop} (I:Inv X pins σ H s) (e:Rd H a (.dK kvs)) (h:∀t s',Inv X pins σ H s'→Q (.int kvs.length t) s'):wpAny (model X.prog X.w) A (call (.builtin "len") [.ref a]) Q E s:=by
 obtain⟨z,hd,vs,rel,dd⟩:=zbi4 I.hok e
 refine call_len_dict hd dd (by rw [← rel.length];rw [sizeLine_eq]at z;lia) ?_
 rw [← rel.length]
 exact h _ _ (I.tok _)
end
noncomputable def NoSl (i:Expr):Prop := ∀ov iv,subscripted i false ov iv=operate [ov,iv] (getItem ov iv)
theorem subD_of {prog:Program}{w:World}{A:Around}{E:Value→zbo3→Prop}{s:zbo3}{env:Env}{value slice:Expr}{pos:Pos}{T id:String}{Q:Value→zbo3→Prop}
  (hl:typeLookup (.type T) "__getitem__"=pure (some (.builtin id))) (hs:NoSl slice)
  (h:wpAny (model prog w) A (eval value env) (fun o s₁=>wpAny (model prog w) A (eval slice env) (fun i s₂=>s₂.TypeIs o T∧wpAny (model prog w) A (getItem o i) Q E s₂) E s₁) E s) :
  wpAny (model prog w) A (eval (.Subscript value slice pos) env) Q E s:=by
 refine Subscript_ (wpAny_mono h (fun o s₁ h₁=>wpAny_mono h₁ (fun i s₂ h₂=>?_) fun _ _ x=>x) fun _ _ x=>x)
 obtain⟨hT,h₂⟩:=h₂
 unfold subscriptTail
 refine zbn6 ?_
 rw [getitemInPython_of_ne hT.not_modules]
 refine zbn6 (wpAny_specialOf hT hl ?_)
 have fin:wpAny (model prog w) A (subscripted slice false o i) (fun r s₃=>wpAny (model prog w) A (letTemporaryGo value o r >>= fun _=>pure r) Q E s₃) E s₂:=by
  rw [hs o i]
  exact wpAny_operating (wpAny_mono h₂ (fun r s₃ h₃=>zbn6 (wpAny_letTemporaryGo (zbp3 h₃))) fun _ _ x=>x)
 first
  |exact zbp3 (zbn6 fin)
  |exact zbn6 (zbp3 (zbn6 fin))
  |exact zbn6 fin
theorem zas3 {X:Cx}{pins:List (Addr×Obj)}{σ:St}{H:Hp}{s:zbo3}{a:Addr}{y:V}{o:Option V} (I:Inv X pins σ H s) (g:DGet H a y o):s.TypeIs (.ref a) "dict":=by
 rcases g with ⟨kvs,k,e,_,_⟩ | ⟨kvs,k,b,e,_,_,_⟩
 ·obtain⟨_,_,vs,_,dd⟩:=zbi4 I.hok e
  exact dd.typeIs
 ·obtain⟨_,_,xs,_,dd⟩:=dt_rd I.hok e
  exact dd.typeIs
noncomputable def tDGet (td ty:TE):TE:=fun σ H Q=>td σ H fun x H1=>ty σ H1 fun y H2 => ∃a v,x=.ref a∧DGet H2 a y (some v)∧Q v H2
noncomputable def sDPut (td ty tv:TE):TS:=fun D σ H=>tv σ H fun v H1=>td σ H1 fun x H2=>ty σ H2 fun y H3 => ∃a H4,x=.ref a∧DPut H3 a y v H4∧D.nx σ H4
section
variable {X:Cx}{o i e value:Expr}{pos pos' tpos:Pos}{td ty tv:TE}
theorem pe_dget (hu:X.A.units+1<cLine) (ho:PE X o td) (hi:PE X i ty) (hs:NoSl i):PE X (.Subscript o i pos) (tDGet td ty):=by
 intro pins s σ H Q I h
 refine subD_of PySem.F.slot_dict_getitem.lookup hs (thn (ho pins s σ H _ I h) fun u s1 ⟨x,H1,I1,rx,q1⟩=>thn (hi pins s1 σ H1 _ I1 q1) fun iv s2 ⟨y,H2,I2,ry,a,v,ex,g,q2⟩=>?_)
 subst ex
 obtain rfl:u=Value.ref a:=rx
 exact⟨zas3 I2 g,zbi9 hu I2 g ry fun w' s3 I3 rw'=>⟨v,H2,I3,rw',q2⟩⟩
theorem ps_dput (hu:X.A.units+1<cLine) (ho:PE X o td) (hi:PE X i ty) (hv:PE X value tv) (hs:swapsWith value (some (.Subscript o i pos')) pos.line X.env=pure false) :
  PS X (.Assign [.Subscript o i pos'] value pos) (sDPut td ty tv):=by
 intro pins s σ H D I h
 refine wpAny_Assign_Subscript (thn (hv pins s σ H _ I h) fun r s1 ⟨v,H1,I1,rv,q1⟩=>thn (ho pins s1 σ H1 _ I1 q1) fun u s2 ⟨x,H2,I2,rx,q2⟩=>thn (hi pins s2 σ H2 _ I2 q2) fun iv s3 ⟨y,H3,I3,ry,a,H4,ex,g,q3⟩=>?_) hs
 subst ex
 obtain rfl:u=Value.ref a:=rx
 exact zbi8 hu I3 g ry rv fun s4 I4=>⟨σ,H4,I4,q3⟩
end
theorem dk_empty {P:Program}{w:World}{H:Hp} (h:Heap) (hb:sysModules<h.objs.size):ObjOk P w H (h.push { cls:=.type "dict",data:=.dict #[] }) h.objs.size (.dK []) :=
 ⟨zbz6 _,beq_eq_false_iff_ne.mpr (Ne.symm (zbp8 hb)),[],.nil,Heap.DictOf.new h⟩
noncomputable def zbc2:List (TE×TE)→St→Hp→(List (V×V)→Hp→Prop)→Prop
 |[],_,H,Q=>Q [] H
 |(tk,tv)::r,σ,H,Q=>tk σ H fun x H1=>tv σ H1 fun y H2=>zbc2 r σ H2 fun ps H3=>Q ((x,y)::ps) H3
noncomputable abbrev VV:List (V×V)→List (Value×Value)→Prop:=Paired fun p q=>RelV p.1 q.1∧RelV p.2 q.2
noncomputable def PPs (X:Cx) (pos:Pos) (keys:List (Option Expr)) (values:List Expr) (trs:List (TE×TE)):Prop :=
 ∀(pins:List (Addr×Obj)) (s:zbo3) (σ:St) (H:Hp) (Q:List (V×V)→Hp→Prop),Inv X pins σ H s→zbc2 trs σ H Q →
  wpAny (model X.prog X.w) X.A (evalPairs (pairTrees keys values X.env pos)) (fun vs s' => ∃ps H',Inv X pins σ H' s'∧VV ps vs∧Q ps H') X.xe s
theorem pps_nil {X:Cx}{pos:Pos}:PPs X pos [] [] []:=fun pins s σ H Q I h=>pairTrees_nil_walk ⟨[],H,I,.nil,h⟩
theorem pps_cons {X:Cx}{pos:Pos}{k v:Expr}{ks:List (Option Expr)}{vs:List Expr}{tk tv:TE}{trs:List (TE×TE)} (hk:PE X k tk) (hv:PE X v tv) (hr:PPs X pos ks vs trs) :
  PPs X pos (some k::ks) (v::vs) ((tk,tv)::trs):=fun pins s σ H Q I h =>
 pairTrees_cons_walk (thn (hk pins s σ H _ I h) fun u s1 ⟨x,H1,I1,rx,q1⟩=>thn (hv pins s1 σ H1 _ I1 q1) fun w2 s2 ⟨y,H2,I2,ry,q2⟩ =>
  thn (hr pins s2 σ H2 _ I2 q2) fun ws s3 ⟨ps,H3,I3,rel,q3⟩=>⟨(x,y)::ps,H3,I3,.cons ⟨rx,ry⟩ rel,q3⟩)
noncomputable def zam2 (kvs more:List (Key×V)):List (Key×V):=more.foldl (fun acc kv=>putK acc kv.1 kv.2) kvs
theorem KV.merge:∀ {more:List (Key×V)}{rs:List (Key×Value)}{kvs:List (Key×V)}{vs:List (Key×Value)},KV more rs→KV kvs vs→KV (zam2 kvs more) (merged vs rs):=by
 intro more rs kvs vs r
 unfold KV at r
 induction r generalizing kvs vs with
 |nil=>intro q;exact q
 |@cons p q ps qs h t ih =>
  intro r0
  have e:KV (putK kvs p.1 p.2) (stored vs q.1 q.2):=by
   have:=r0.put p.1 h.2
   rw [← h.1];exact this
  exact ih e
theorem zw0:∀(more kvs:List (Key×V)),(zam2 kvs more).length≤kvs.length+more.length
 |[],kvs=>by show kvs.length≤kvs.length+0;lia
 |p::r,kvs=>by
  have h1:=zw0 r (putK kvs p.1 p.2)
  have h2:=zt9 kvs p.1 p.2
  show (zam2 (putK kvs p.1 p.2) r).length≤_
  rw [zbp9];lia
theorem zaf2 {P:Program}{w:World}:∀ {kvs:List (Key×V)}{ws:List (Value×Value)},VV (kvs.map fun kv=>(kV kv.1,kv.2)) ws→∃rs,Carries (zh1 P w) ws rs∧KV kvs rs
 |[],_,r=>by rw [zby3]at r;cases r;exact⟨[],True.intro,.nil⟩
 |p::kvs,_,r=>by
  rw [zbn7]at r
  cases r with
  |@cons a b as bs h t =>
   obtain⟨rs,c,q⟩:=zaf2 (P:=P) (w:=w) t
   obtain⟨b1,b2⟩:=b
   exact⟨(p.1,b2)::rs,⟨zbh0 h.1,rfl,c⟩,.cons ⟨rfl,h.2⟩ q⟩
noncomputable def tDisp (trs:List (TE×TE)):TE:=fun σ H Q => ∀p,H p=none→zbc2 trs σ (upd H p (.dK [])) fun ps H2=>H2 p=some (.dK [])∧∃kvs:List (Key×V),ps=kvs.map (fun kv=>(kV kv.1,kv.2))∧kvs.length≤15∧Q (.ref p) (upd H2 p (.dK (zam2 [] kvs)))
theorem pe_disp {X:Cx}{pos:Pos}{keys:List (Option Expr)}{values:List Expr}{trs:List (TE×TE)} (h:PPs X pos keys values trs) (hall:keys.all (·.isSome)=true) (hl:keys.length=values.length) (h0:keys≠[])
  (h15:keys.length≤15):PE X (.Dict keys values pos) (tDisp trs):=by
 intro pins s σ H Q I q
 have hn:=I.hok.fresh (zbp4 s.heap.objs.size)
 have I1:=I.laid (a:=s.heap.objs.size) (o:=.dK []) (h':=s.heap.push { cls:=.type "dict",data:=.dict #[] }) (t':=s.toks) (fun _ _ q=>zbn8 _ q) (zbp4 _) (dk_empty s.heap I.big)
 refine wpAny_Dict_walk (knd:=zh1 X.prog X.w) hall hl h0 h15 (thn (h pins _ σ _ _ I1 (q _ hn)) fun ws s2 ⟨ps,H2,I2,rel,e,kvs,ep,lk,q2⟩=>?_)
 subst ep
 obtain⟨rs,c,rk⟩:=zaf2 (P:=X.prog) (w:=X.w) rel
 obtain⟨z,hd,vs0,r0,dd⟩:=dk_of I2.hok e
 cases r0
 refine⟨rs,c,dd,fun h' dd' hs=>⟨.ref s.heap.objs.size,_,?_,rfl,q2⟩⟩
 have hz:(zam2 [] kvs).length≤sizeLine:=by
  have h1:=zw0 kvs []
  rw [zca8]at h1
  rw [sizeLine_eq];lia
 have he:∃q,h'.get? s.heap.objs.size=some q:=let ⟨q,_,_,hq,_⟩:=dd';⟨q,hq⟩
 exact zas4 I2 (by rw [e];exact True.intro) hs he (dk_new hz hd (rk.merge .nil) dd')
structure M1 (X:Cx) (o:Expr) (m:Str) (apos:Pos) (e:Expr) (cpos:Pos):Prop where
 base:attributeBase o m X.env (eval o X.env)=eval o X.env
 few:((zbu1 cpos (zbo8 [e] X.env)).all (fun x=>!x.1)&&(backToKw cpos (keywordEach [] X.env)).all (fun x=>x.1.isSome)
  && decide (([e]:List Expr).length+([]:List Keyword).length+(if ([]:List Keyword).isEmpty then 0 else 1)<30))=true
 line:(apos.endLine == cpos.line)=true
 trees:zbu1 cpos (zbo8 [e] X.env)=[(false,eval e X.env)]
structure M2 (X:Cx) (o:Expr) (m:Str) (apos:Pos) (e f:Expr) (cpos:Pos):Prop where
 base:attributeBase o m X.env (eval o X.env)=eval o X.env
 few:((zbu1 cpos (zbo8 [e,f] X.env)).all (fun x=>!x.1)&&(backToKw cpos (keywordEach [] X.env)).all (fun x=>x.1.isSome)
  && decide (([e,f]:List Expr).length+([]:List Keyword).length+(if ([]:List Keyword).isEmpty then 0 else 1)<30))=true
 line:(apos.endLine == cpos.line)=true
 trees:zbu1 cpos (zbo8 [e,f] X.env)=[(false,eval e X.env),(false,eval f X.env)]
end L2
namespace L2
open PySem.Spec
section
variable {X:Cx}
theorem zbl2:zp0 X (.builtin "len") (fun xs H Q => ∃a kvs,xs=[V.ref a]∧H a=some (.dK kvs)∧Q (.int kvs.length) H):=by
 intro pins s σ H xs us Q I r h
 obtain⟨a,kvs,rfl,ha,q⟩:=h
 obtain⟨u,rfl,ru⟩:=zy3 r
 cases ru
 exact d_len I (.inl ha) fun t s' I'=>⟨.int kvs.length,H,I',⟨t,rfl⟩,q⟩
end
end L2
namespace DL
open PySem.Spec L2
inductive D where
 |non | bl (b:Bool) |int (i:Int) |str (x:Str) |tup (xs:List D) |lst (xs:List D) |dct (ks:List Key) (ds:List D) |pdc (ps:List (Int×Int))
noncomputable def mkKV (ks:List Key) (vs:List V):List (Key×V):=ks.zip vs
noncomputable def pkv (ps:List (Int×Int)):List (List Key×V):=ps.map fun q=>([Sum.inl q.1,Sum.inl q.2],V.bl true)
mutual
inductive Rep (K:zbm7) (H:Hp):D→V→Prop
 |non:Rep K H .non .non
 |bl (b:Bool):Rep K H (.bl b) (.bl b)
 |int (i:Int):Rep K H (.int i) (.int i)
 |str (x:Str):Rep K H (.str x) (.str x)
 |tup {ds:List D}{p:Addr}{vs:List V}:SqT K H p vs→Reps K H ds vs→Rep K H (.tup ds) (.ref p)
 |lst {ds:List D}{p:Addr}{vs:List V}:SqL K H p vs→Reps K H ds vs→Rep K H (.lst ds) (.ref p)
 |dct {ks:List Key}{ds:List D}{p:Addr}{vs:List V}:ks.length=vs.length→H p=some (.dK (mkKV ks vs))→Reps K H ds vs→Rep K H (.dct ks ds) (.ref p)
 |pdc {ps:List (Int×Int)}{p:Addr}:H p=some (.dT (pkv ps))→Rep K H (.pdc ps) (.ref p)
inductive Reps (K:zbm7) (H:Hp):List D→List V→Prop
 |nil:Reps K H [] []
 |cons {d:D}{v:V}{ds:List D}{vs:List V}:Rep K H d v→Reps K H ds vs→Reps K H (d::ds) (v::vs)
end
theorem SqL.mono {K:zbm7}{H H':Hp}{a:Addr}{xs:List V} (e:Same H H') (h:SqL K H a xs):SqL K H' a xs:=e.seq h
theorem SqT.mono {K:zbm7}{H H':Hp}{a:Addr}{xs:List V} (e:Same H H') (h:SqT K H a xs):SqT K H' a xs:=by
 rcases h with (h | ⟨o,h⟩) |h
 ·exact .inl (.inl (e _ _ h))
 ·exact .inl (.inr ⟨o,e _ _ h⟩)
 ·exact .inr h
mutual
theorem Rep.mono {K:zbm7}{H H':Hp} (e:Same H H'):∀ {d:D}{v:V},Rep K H d v→Rep K H' d v
 |_,_,.non=>.non
 |_,_,.bl b=>.bl b
 |_,_,.int i=>.int i
 |_,_,.str x=>.str x
 |_,_,.tup h r=>.tup (SqT.mono e h) (Reps.mono e r)
 |_,_,.lst h r=>.lst (SqL.mono e h) (Reps.mono e r)
 |_,_,.dct l h r=>.dct l (e _ _ h) (Reps.mono e r)
 |_,_,.pdc h=>.pdc (e _ _ h)
theorem Reps.mono {K:zbm7}{H H':Hp} (e:Same H H'):∀ {ds:List D}{vs:List V},Reps K H ds vs→Reps K H' ds vs
 |_,_,.nil=>.nil
 |_,_,.cons h r=>.cons (Rep.mono e h) (Reps.mono e r)
end
theorem Reps.length {K:zbm7}{H:Hp}:∀ {ds:List D}{vs:List V},Reps K H ds vs→vs.length=ds.length
 |_,_,.nil=>rfl
 |_,_,.cons _ r=>by simp [Reps.length r]
theorem Reps.get {K:zbm7}{H:Hp}:∀ {ds:List D}{vs:List V},Reps K H ds vs→∀ {i:Nat}{d:D},ds[i]?=some d→∃v,vs[i]?=some v∧Rep K H d v
 |_,_,.nil,i,d,e=>by simp at e
 |_,_,.cons (v:=v) h r,0,d,e=>by simp at e;subst e;exact⟨v,rfl,h⟩
 |_,_,.cons h r,i+1,d,e=>by
  obtain⟨v,a,b⟩:=Reps.get r (i:=i) (d:=d) (by simpa using e)
  exact⟨v,by simpa using a,b⟩
theorem Reps.getV {K:zbm7}{H:Hp}:∀ {ds:List D}{vs:List V},Reps K H ds vs→∀ {i:Nat}{v:V},vs[i]?=some v→∃d,ds[i]?=some d∧Rep K H d v
 |_,_,.nil,i,d,e=>by simp at e
 |_,_,.cons (d:=d) h r,0,v,e=>by simp at e;subst e;exact⟨d,rfl,h⟩
 |_,_,.cons h r,i+1,v,e=>by
  obtain⟨d,a,b⟩:=Reps.getV r (i:=i) (v:=v) (by simpa using e)
  exact⟨d,by simpa using a,b⟩
theorem Reps.app {K:zbm7}{H:Hp}:∀ {ds:List D}{vs:List V}{es:List D}{us:List V},Reps K H ds vs→Reps K H es us→Reps K H (ds++es) (vs++us)
 |_,_,_,_,.nil,r=>r
 |_,_,_,_,.cons h r,q=>.cons h (Reps.app r q)
theorem Reps.set {K:zbm7}{H:Hp}{d:D}{v:V} (h:Rep K H d v):∀ {ds:List D}{vs:List V} (i:Nat),Reps K H ds vs→Reps K H (ds.set i d) (vs.set i v)
 |_,_,_,.nil=>.nil
 |_,_,0,.cons _ r=>.cons h r
 |_,_,i+1,.cons q r=>.cons q (Reps.set h i r)
theorem Reps.take {K:zbm7}{H:Hp}:∀ {ds:List D}{vs:List V} (n:Nat),Reps K H ds vs→Reps K H (ds.take n) (vs.take n)
 |_,_,0,_=>by simp;exact .nil
 |_,_,n+1,.nil=>by simp;exact .nil
 |_,_,n+1,.cons h r=>by simpa using .cons h (Reps.take n r)
theorem Reps.drop {K:zbm7}{H:Hp}:∀ {ds:List D}{vs:List V} (n:Nat),Reps K H ds vs→Reps K H (ds.drop n) (vs.drop n)
 |_,_,0,r=>by simpa using r
 |_,_,n+1,.nil=>by simp;exact .nil
 |_,_,n+1,.cons h r=>by simpa using Reps.drop n r
theorem Reps.one {K:zbm7}{H:Hp}{d:D}{v:V} (h:Rep K H d v):Reps K H [d] [v]:=.cons h .nil
theorem Reps.ints {K:zbm7}{H:Hp}:∀ns:List Int,Reps K H (ns.map D.int) (ns.map V.int)
 |[]=>.nil
 |n::ns=>.cons (.int n) (Reps.ints ns)
mutual
def flat:D→Bool
 |.lst _=>false
 |.dct _ _=>false
 |.pdc _=>false
 |.tup xs=>flats xs
 |_=>true
def flats:List D→Bool
 |[]=>true
 |d::ds=>flat d&&flats ds
end
noncomputable def hide (P:List Addr) (H:Hp):Hp:=fun a=>if a∈P then none else H a
theorem zc2 (P:List Addr) (H:Hp):Same (hide P H) H:=fun b o e=>by
 unfold hide at e
 split at e
 ·cases e
 ·exact e
theorem zd1 {P:List Addr}{H:Hp}{a:Addr}{o:HO} (h:H a=some o) (n:a∉P):hide P H a=some o:=by
 unfold hide;rw [if_neg n];exact h
theorem zk4 {P:List Addr}{H:Hp}{a:Addr}{o:HO} (h:hide P H a=some o):a∉P∧H a=some o:=by
 unfold hide at h
 split at h
 ·cases h
 ·exact⟨by assumption,h⟩
theorem hide_nil (H:Hp):hide [] H=H:=by funext a;simp [hide]
theorem zb5 {P P':List Addr} (H:Hp) (h:∀a∈P',a∈P):Same (hide P H) (hide P' H):=fun b o e=>by
 obtain⟨n,e⟩:=zk4 e
 exact zd1 e fun z=>n (h b z)
noncomputable def mutO:HO→Bool
 |.lst _=>true
 |.dK _=>true
 |.dT _=>true
 |_=>false
noncomputable abbrev MO:={o:HO // mutO o=true}
noncomputable def mL (vs:List V):MO:=⟨.lst vs,rfl⟩
noncomputable def mD (kvs:List (Key×V)):MO:=⟨.dK kvs,rfl⟩
noncomputable def mT (kvs:List (List Key×V)):MO:=⟨.dT kvs,rfl⟩
noncomputable def Lists (H:Hp) (P:List Addr):Prop := ∀p∈P,∃o:MO,H p=some o.1
theorem Lists.mono {H H':Hp}{P:List Addr} (h:Lists H P) (e:Same H H'):Lists H' P:=fun p hp=>let ⟨vs,q⟩:=h p hp;⟨vs,e _ _ q⟩
theorem SqT.hid {K:zbm7}{H:Hp}{P:List Addr}{a:Addr}{xs:List V} (m:Lists H P) (h:SqT K H a xs):SqT K (hide P H) a xs:=by
 rcases h with (h | ⟨o,h⟩) |h
 ·exact .inl (.inl (zd1 h fun z=>by obtain⟨⟨vs,w⟩,q⟩:=m _ z;rw [q]at h;cases h;cases w))
 ·exact .inl (.inr ⟨o,zd1 h fun z=>by obtain⟨⟨vs,w⟩,q⟩:=m _ z;rw [q]at h;cases h;cases w⟩)
 ·exact .inr h
mutual
theorem Rep.hid {K:zbm7}{H:Hp}{P:List Addr} (m:Lists H P):∀ {d:D}{v:V},flat d=true→Rep K H d v→Rep K (hide P H) d v
 |_,_,_,.non=>.non
 |_,_,_,.bl b=>.bl b
 |_,_,_,.int i=>.int i
 |_,_,_,.str x=>.str x
 |_,_,f,.tup h r=>.tup (SqT.hid m h) (Reps.hid m (by simpa [flat] using f) r)
 |_,_,f,.lst h r=>by simp [flat]at f
 |_,_,f,.dct _ h r=>by simp [flat]at f
 |_,_,f,.pdc h=>by simp [flat]at f
theorem Reps.hid {K:zbm7}{H:Hp}{P:List Addr} (m:Lists H P):∀ {ds:List D}{vs:List V},flats ds=true→Reps K H ds vs→Reps K (hide P H) ds vs
 |_,_,_,.nil=>.nil
 |_,_,f,.cons h r=>by
  simp [flats]at f
  exact .cons (Rep.hid m f.1 h) (Reps.hid m f.2 r)
end
mutual
inductive RepD (K:zbm7) (H0 H:Hp):D→V→List Addr→Prop
 |flat {d:D}{v:V}:flat d=true→Rep K H0 d v→RepD K H0 H d v []
 |tup {ds:List D}{p:Addr}{vs:List V}{B:List Addr}:SqT K H0 p vs→RepDs K H0 H ds vs B→RepD K H0 H (.tup ds) (.ref p) B
 |lst {ds:List D}{p:Addr}{vs:List V}{B:List Addr}:H p=some (.lst vs)→RepDs K H0 H ds vs B→RepD K H0 H (.lst ds) (.ref p) (p::B)
 |dct {ks:List Key}{ds:List D}{p:Addr}{vs:List V}{B:List Addr}:ks.length=vs.length→H p=some (.dK (mkKV ks vs))→RepDs K H0 H ds vs B→RepD K H0 H (.dct ks ds) (.ref p) (p::B)
 |pdc {ps:List (Int×Int)}{p:Addr}:H p=some (.dT (pkv ps))→RepD K H0 H (.pdc ps) (.ref p) [p]
inductive RepDs (K:zbm7) (H0 H:Hp):List D→List V→List Addr→Prop
 |nil:RepDs K H0 H [] [] []
 |cons {d:D}{v:V}{ds:List D}{vs:List V}{B C:List Addr}:RepD K H0 H d v B→RepDs K H0 H ds vs C→RepDs K H0 H (d::ds) (v::vs) (B++C)
end
mutual
theorem RepD.mono {K:zbm7}{H0 H H0' H':Hp} (e:Same H0 H0'):∀ {d:D}{v:V}{B:List Addr},RepD K H0 H d v B→(∀p∈B,∀o,H p=some o→H' p=some o)→RepD K H0' H' d v B
 |_,_,_,.flat f r,_=>.flat f (Rep.mono e r)
 |_,_,_,.tup h r,k=>.tup (SqT.mono e h) (RepDs.mono e r k)
 |_,_,_,.lst h r,k=>.lst (k _ (zbn1 ..) _ h) (RepDs.mono e r fun p hp=>k p (zbm9 _ hp))
 |_,_,_,.dct l h r,k=>.dct l (k _ (zbn1 ..) _ h) (RepDs.mono e r fun p hp=>k p (zbm9 _ hp))
 |_,_,_,.pdc h,k=>.pdc (k _ (zbn1 ..) _ h)
theorem RepDs.mono {K:zbm7}{H0 H H0' H':Hp} (e:Same H0 H0'):∀ {ds:List D}{vs:List V}{B:List Addr},RepDs K H0 H ds vs B→(∀p∈B,∀o,H p=some o→H' p=some o)→RepDs K H0' H' ds vs B
 |_,_,_,.nil,_=>.nil
 |_,_,_,.cons h r,k=>.cons (RepD.mono e h fun p hp=>k p (zbm8 _ hp)) (RepDs.mono e r fun p hp=>k p (zbm6 _ hp))
end
mutual
theorem RepD.rep {K:zbm7}{H0 H H1:Hp} (e:Same H0 H1):∀ {d:D}{v:V}{B:List Addr},RepD K H0 H d v B→(∀p∈B,∀o,H p=some o→H1 p=some o)→Rep K H1 d v
 |_,_,_,.flat f r,_=>Rep.mono e r
 |_,_,_,.tup h r,k=>.tup (SqT.mono e h) (RepDs.rep e r k)
 |_,_,_,.lst h r,k=>.lst (SqL.of (k _ (zbn1 ..) _ h)) (RepDs.rep e r fun p hp=>k p (zbm9 _ hp))
 |_,_,_,.dct l h r,k=>.dct l (k _ (zbn1 ..) _ h) (RepDs.rep e r fun p hp=>k p (zbm9 _ hp))
 |_,_,_,.pdc h,k=>.pdc (k _ (zbn1 ..) _ h)
theorem RepDs.rep {K:zbm7}{H0 H H1:Hp} (e:Same H0 H1):∀ {ds:List D}{vs:List V}{B:List Addr},RepDs K H0 H ds vs B→(∀p∈B,∀o,H p=some o→H1 p=some o)→Reps K H1 ds vs
 |_,_,_,.nil,_=>.nil
 |_,_,_,.cons h r,k=>.cons (RepD.rep e h fun p hp=>k p (zbm8 _ hp)) (RepDs.rep e r fun p hp=>k p (zbm6 _ hp))
end
mutual
theorem RepD.lists {K:zbm7}{H0 H:Hp}:∀ {d:D}{v:V}{B:List Addr},RepD K H0 H d v B→Lists H B
 |_,_,_,.flat f r=>fun p hp=>by cases hp
 |_,_,_,.tup h r=>RepDs.lists r
 |_,_,_,.lst h r=>fun p hp=>by
  rcases zbn5.mp hp with rfl | hp
  ·exact⟨mL _,h⟩
  ·exact RepDs.lists r p hp
 |_,_,_,.dct _ h r=>fun p hp=>by
  rcases zbn5.mp hp with rfl | hp
  ·exact⟨mD _,h⟩
  ·exact RepDs.lists r p hp
 |_,_,_,.pdc h=>fun p hp=>by
  rw [zbn3]at hp
  subst hp
  exact⟨mT _,h⟩
theorem RepDs.lists {K:zbm7}{H0 H:Hp}:∀ {ds:List D}{vs:List V}{B:List Addr},RepDs K H0 H ds vs B→Lists H B
 |_,_,_,.nil=>fun p hp=>by cases hp
 |_,_,_,.cons h r=>fun p hp=>(zbn2.mp hp).elim (RepD.lists h p) (RepDs.lists r p)
end
mutual
theorem RepD.hid {K:zbm7}{H0 H:Hp}{P:List Addr} (m:Lists H P) (e:Same H0 H):∀ {d:D}{v:V}{B:List Addr},RepD K H0 H d v B→RepD K (hide P H) H d v B
 |_,_,_,.flat f r=>.flat f (Rep.hid m f (Rep.mono e r))
 |_,_,_,.tup h r=>.tup (SqT.hid m (SqT.mono e h)) (RepDs.hid m e r)
 |_,_,_,.lst h r=>.lst h (RepDs.hid m e r)
 |_,_,_,.dct l h r=>.dct l h (RepDs.hid m e r)
 |_,_,_,.pdc h=>.pdc h
theorem RepDs.hid {K:zbm7}{H0 H:Hp}{P:List Addr} (m:Lists H P) (e:Same H0 H):∀ {ds:List D}{vs:List V}{B:List Addr},RepDs K H0 H ds vs B→RepDs K (hide P H) H ds vs B
 |_,_,_,.nil=>.nil
 |_,_,_,.cons h r=>.cons (RepD.hid m e h) (RepDs.hid m e r)
end
theorem RepDs.of_flat {K:zbm7}{H0 H:Hp}:∀ {ds:List D}{vs:List V},flats ds=true→Reps K H0 ds vs→RepDs K H0 H ds vs []
 |_,_,_,.nil=>.nil
 |_,_,f,.cons h r=>by
  simp [flats]at f
  exact .cons (B:=[]) (C:=[]) (.flat f.1 h) (RepDs.of_flat f.2 r)
theorem Lists.app {H:Hp}{P Q:List Addr} (h:Lists H P) (k:Lists H Q):Lists H (P++Q):=fun p hp=>(zbn2.mp hp).elim (h p) (k p)
inductive Ev where
 |cl (d:D) |tm (d:D) |nw (xs:List D) |dn (d:D)
noncomputable def Ev.d:Ev→D
 |.cl d=>d
 |.tm d=>d
 |.nw xs=>.lst xs
 |.dn d=>d
noncomputable def RepEv (K:zbm7) (F A:List Addr) (H H':Hp):Ev→V→Prop
 |.cl d,v=>Rep K (hide (A++F) H') d v
 |.tm d,v=>Rep K (hide F H') d v
 |.nw xs,v => ∃p vs,v=.ref p∧H p=none∧H' p=some (.lst vs)∧Reps K (hide (p ::(A++F)) H') xs vs
 |.dn d,v => ∃B,B.Nodup∧(∀b∈B,H b=none)∧RepD K (hide (B++(A++F)) H') H' d v B
theorem zb6 {P:List Addr}{H H':Hp} (e:Same H H'):Same (hide P H) (hide P H'):=fun b o h=>by
 obtain⟨n,h⟩:=zk4 h
 exact zd1 (e _ _ h) n
theorem RepEv.mono {K:zbm7}{F A:List Addr}{H H1 H2:Hp}{r:Ev}{v:V} (h:RepEv K F A H H1 r v) (e:Same H1 H2):RepEv K F A H H2 r v:=by
 cases r with
 |cl d=>exact Rep.mono (zb6 e) h
 |tm d=>exact Rep.mono (zb6 e) h
 |nw xs =>
  obtain⟨p,vs,rfl,h1,h2,h3⟩:=h
  exact⟨p,vs,rfl,h1,e _ _ h2,Reps.mono (zb6 e) h3⟩
 |dn d =>
  obtain⟨B,h1,h2,h3⟩:=h
  exact⟨B,h1,h2,RepD.mono (zb6 e) h3 fun p _ o q=>e _ _ q⟩
theorem RepEv.back {K:zbm7}{F A:List Addr}{H0 H H1:Hp}{r:Ev}{v:V} (h:RepEv K F A H H1 r v) (e:Same H0 H):RepEv K F A H0 H1 r v:=by
 cases r with
 |cl d=>exact h
 |tm d=>exact h
 |nw xs =>
  obtain⟨p,vs,rfl,h1,h2,h3⟩:=h
  refine⟨p,vs,rfl,?_,h2,h3⟩
  cases q:H0 p with
  |none=>rfl
  |some o=>rw [e _ _ q]at h1;cases h1
 |dn d =>
  obtain⟨B,h1,h2,h3⟩:=h
  exact⟨B,h1,fun b hb=>Same.free e (h2 b hb),h3⟩
theorem RepEv.full {K:zbm7}{F A:List Addr}{H H':Hp}{r:Ev}{v:V} (h:RepEv K F A H H' r v):Rep K H' r.d v:=by
 cases r with
 |cl d=>exact Rep.mono (zc2 _ _) h
 |tm d=>exact Rep.mono (zc2 _ _) h
 |nw xs =>
  obtain⟨p,vs,rfl,h1,h2,h3⟩:=h
  exact .lst (SqL.of h2) (Reps.mono (zc2 _ _) h3)
 |dn d =>
  obtain⟨B,h1,h2,h3⟩:=h
  exact h3.rep (zc2 _ _) fun _ _ _ q=>q
theorem zd5 {H:Hp}{P:List Addr}{p:Addr} (m:Lists H P) (h:H p=none):p∉P:=fun z=>by
 obtain⟨vs,q⟩:=m _ z
 rw [q]at h;cases h
theorem RepEv.cleanF {K:zbm7}{F A:List Addr}{H H':Hp}{r:Ev}{v:V} (m:Lists H (A++F)) (h:RepEv K F A H H' r v):Rep K (hide F H') r.d v:=by
 cases r with
 |cl d=>exact Rep.mono (zb5 H' fun a z=>zbm6 _ z) h
 |tm d=>exact h
 |nw xs =>
  obtain⟨p,vs,rfl,h1,h2,h3⟩:=h
  have n:p∉F:=fun z=>zd5 m h1 (zbm6 _ z)
  exact .lst (SqL.of (zd1 h2 n)) (Reps.mono (zb5 H' fun a z=>zbm9 _ (zbm6 _ z)) h3)
 |dn d =>
  obtain⟨B,h1,h2,h3⟩:=h
  refine h3.rep (zb5 H' fun a z=>zbm6 _ (zbm6 _ z)) fun b hb o q=>zd1 q fun z=>?_
  exact zd5 m (h2 b hb) (zbm6 _ z)
noncomputable def Ev.ok:Ev→Bool
 |.cl _=>true
 |.tm d=>flat d
 |.nw _=>true
 |.dn _=>true
theorem RepEv.clean {K:zbm7}{F A:List Addr}{H H':Hp}{r:Ev}{v:V} (m:Lists H (A++F)) (e:Same H H') (h:RepEv K F A H H' r v) (c:r.ok=true):Rep K (hide (A++F) H') r.d v:=by
 cases r with
 |cl d=>exact h
 |tm d =>
  have m':Lists H' (A++F):=m.mono e
  exact Rep.hid m' c (Rep.mono (zc2 _ _) h)
 |nw xs =>
  obtain⟨p,vs,rfl,h1,h2,h3⟩:=h
  have n:p∉A++F:=zd5 m h1
  exact .lst (SqL.of (zd1 h2 n)) (Reps.mono (zb5 H' fun a z=>zbm9 _ z) h3)
 |dn d =>
  obtain⟨B,h1,h2,h3⟩:=h
  exact h3.rep (zb5 H' fun a z=>zbm6 _ z) fun b hb o q=>zd1 q fun z=>zd5 m (h2 b hb) z
inductive Sl where
 |no | val (d:D) |own (xs:List D) |dp (d:D)
noncomputable abbrev Th:=List Sl
inductive RSl (K:zbm7) (H0 H:Hp):Th→L2.St→List Addr→Prop
 |nil:RSl K H0 H [] [] []
 |no {x:Option V}{t:Th}{σ:L2.St}{A:List Addr}:RSl K H0 H t σ A→RSl K H0 H (.no::t) (x::σ) A
 |val {d:D}{v:V}{t:Th}{σ:L2.St}{A:List Addr}:Rep K H0 d v→RSl K H0 H t σ A→RSl K H0 H (.val d::t) (some v::σ) A
 |own {p:Addr}{vs:List V}{ds:List D}{t:Th}{σ:L2.St}{A:List Addr}:H p=some (.lst vs)→Reps K H0 ds vs→RSl K H0 H t σ A→RSl K H0 H (.own ds::t) (some (.ref p)::σ) (p::A)
 |dp {d:D}{v:V}{B:List Addr}{t:Th}{σ:L2.St}{A:List Addr}:RepD K H0 H d v B→RSl K H0 H t σ A→RSl K H0 H (.dp d::t) (some v::σ) (B++A)
structure RS (K:zbm7) (F:List Addr) (H:Hp) (A:List Addr) (t:Th) (σ:L2.St):Prop where
 mu:Lists H (A++F)
 nd:A.Nodup
 dj:∀p∈A,p∉F
 rel:RSl K (hide (A++F) H) H t σ A
theorem RSl.mono {K:zbm7}{H0 H H0' H':Hp} (e0:Same H0 H0'):∀ {t:Th}{σ:L2.St}{A:List Addr},RSl K H0 H t σ A→(∀p∈A,∀o,H p=some o→H' p=some o)→RSl K H0' H' t σ A:=by
 intro _ _ _ h
 induction h with
 |nil =>
  intro w0
  exact .nil
 |@no _ _ _ _ r ih =>
  intro e
  exact .no (ih e)
 |@val _ _ _ _ _ h r ih =>
  intro e
  exact .val (Rep.mono e0 h) (ih e)
 |@own _ _ _ _ _ _ h1 h2 r ih =>
  intro e
  exact .own (e _ (zbn1 ..) _ h1) (Reps.mono e0 h2) (ih fun p hp=>e p (zbm9 _ hp))
 |@dp _ _ _ _ _ _ h r ih =>
  intro e
  exact .dp (RepD.mono e0 h fun p hp=>e p (zbm8 _ hp)) (ih fun p hp=>e p (zbm6 _ hp))
theorem RS.grow {K:zbm7}{F A:List Addr}{H H':Hp}{t:Th}{σ:L2.St} (h:RS K F H A t σ) (e:Same H H'):RS K F H' A t σ :=
 ⟨h.mu.mono e,h.nd,h.dj,h.rel.mono (zb6 e) fun p _ o q=>e _ _ q⟩
theorem RSl.getVal {K:zbm7}{H0 H:Hp}:∀ {t:Th}{σ:L2.St}{A:List Addr},RSl K H0 H t σ A→∀ {i:Nat}{d:D},t[i]?=some (.val d)→∃v,σ[i]?=some (some v)∧Rep K H0 d v:=by
 intro _ _ _ h
 induction h with
 |nil =>
  intro i d e
  simp at e
 |@no _ _ _ _ r ih =>
  intro i d e
  cases i with
  |zero =>
   simp at e
  |succ i =>
   simpa using ih (i:=i) (by simpa using e)
 |@val _ v _ _ _ h r ih =>
  intro i d e
  cases i with
  |zero =>
   simp at e;subst e;exact⟨v,rfl,h⟩
  |succ i =>
   simpa using ih (i:=i) (by simpa using e)
 |@own _ _ _ _ _ _ _ _ r ih =>
  intro i d e
  cases i with
  |zero =>
   simp at e
  |succ i =>
   simpa using ih (i:=i) (by simpa using e)
 |@dp _ _ _ _ _ _ _ r ih =>
  intro i d e
  cases i with
  |zero =>
   simp at e
  |succ i =>
   simpa using ih (i:=i) (by simpa using e)
theorem RSl.getOwn {K:zbm7}{H0 H:Hp}:∀ {t:Th}{σ:L2.St}{A:List Addr},RSl K H0 H t σ A→∀ {i:Nat}{ds:List D},t[i]?=some (.own ds)→∃p vs,σ[i]?=some (some (.ref p))∧p∈A∧H p=some (.lst vs)∧Reps K H0 ds vs:=by
 intro _ _ _ h
 induction h with
 |nil =>
  intro i d e
  simp at e
 |@no _ _ _ _ r ih =>
  intro i d e
  cases i with
  |zero =>
   simp at e
  |succ i =>
   simpa using ih (i:=i) (by simpa using e)
 |@val _ v _ _ _ h r ih =>
  intro i d e
  cases i with
  |zero =>
   simp at e
  |succ i =>
   simpa using ih (i:=i) (by simpa using e)
 |@own p vs _ _ _ _ h1 h2 r ih =>
  intro i d e
  cases i with
  |zero =>
   simp at e;subst e;exact⟨p,vs,rfl,zbn1 ..,h1,h2⟩
  |succ i =>
   obtain⟨p,vs,a,b,c,f⟩:=ih (i:=i) (ds:=d) (by simpa using e)
   exact⟨p,vs,by simpa using a,zbm9 _ b,c,f⟩
 |@dp _ _ _ _ _ _ _ r ih =>
  intro i d e
  cases i with
  |zero =>
   simp at e
  |succ i =>
   obtain⟨p,vs,a,b,c,f⟩:=ih (i:=i) (ds:=d) (by simpa using e)
   exact⟨p,vs,by simpa using a,zbm6 _ b,c,f⟩
theorem RSl.getDp {K:zbm7}{H0 H:Hp}:∀ {t:Th}{σ:L2.St}{A:List Addr},RSl K H0 H t σ A→A.Nodup→∀ {i:Nat}{d:D},t[i]?=some (.dp d)→∃v B,σ[i]?=some (some v)∧(∀b∈B,b∈A)∧B.Nodup∧RepD K H0 H d v B:=by
 intro _ _ _ h
 induction h with
 |nil =>
  intro n i d e
  simp at e
 |@no _ _ _ _ r ih =>
  intro n i d e
  cases i with
  |zero =>
   simp at e
  |succ i =>
   simpa using ih n (i:=i) (by simpa using e)
 |@val _ v _ _ _ h r ih =>
  intro n i d e
  cases i with
  |zero =>
   simp at e
  |succ i =>
   simpa using ih n (i:=i) (by simpa using e)
 |@own _ _ _ _ _ _ _ _ r ih =>
  intro n i d e
  cases i with
  |zero =>
   simp at e
  |succ i =>
   obtain⟨v,B,a,b,n',c⟩:=ih (zbo9.mp n).2 (i:=i) (d:=d) (by simpa using e)
   exact⟨v,B,by simpa using a,fun x hx=>zbm9 _ (b x hx),n',c⟩
 |@dp _ v B _ _ _ h r ih =>
  intro n i d e
  cases i with
  |zero =>
   simp at e;subst e;exact⟨v,B,rfl,fun x hx=>zbm8 _ hx,(zbo5.mp n).1,h⟩
  |succ i =>
   obtain⟨v,B,a,b,n',c⟩:=ih (zbo5.mp n).2.1 (i:=i) (d:=d) (by simpa using e)
   exact⟨v,B,by simpa using a,fun x hx=>zbm6 _ (b x hx),n',c⟩
structure Gr (A:List Addr) (H:Hp) (A':List Addr) (H':Hp):Prop where
 kp:∀b o,b∉A→H b=some o→H' b=some o
 al:∀b∈A,H' b≠none
 nw:∀b∈A',b∈A∨H b=none
theorem Gr.refl {A:List Addr}{H:Hp} (m:Lists H A):Gr A H A H:=⟨fun _ _ _ h=>h,fun b hb=>by obtain⟨vs,q⟩:=m b hb;rw [q];simp,fun b h=>.inl h⟩
theorem Gr.of_same {A:List Addr}{H H':Hp} (m:Lists H A) (e:Same H H'):Gr A H A H':=⟨fun _ _ _ h=>e _ _ h,fun b hb=>by obtain⟨vs,q⟩:=m b hb;rw [e _ _ q];simp,fun b h=>.inl h⟩
theorem Gr.trans {A A1 A2:List Addr}{H H1 H2:Hp} (a:Gr A H A1 H1) (b:Gr A1 H1 A2 H2):Gr A H A2 H2 where
 kp:=fun x o n h=>b.kp x o (fun z=>by rcases a.nw x z with q | q;exact n q;rw [q]at h;cases h) (a.kp x o n h)
 al:=fun x hx=>by
  by_cases z:x∈A1
  ·exact b.al x z
  ·have:=a.al x hx
   cases q:H1 x with
   |none=>exact absurd q this
   |some o=>rw [b.kp x o z q];simp
 nw:=fun x hx=>by
  rcases b.nw x hx with q | q
  ·exact a.nw x q
  ·by_cases z:x∈A
   ·exact .inl z
   ·refine .inr ?_
    cases w:H x with
    |none=>rfl
    |some o=>rw [a.kp x o z w]at q;cases q
theorem Gr.same {F A A':List Addr}{H H':Hp} (g:Gr A H A' H'):Same (hide (A++F) H) (hide (A'++F) H'):=fun b o h=>by
 obtain⟨n,h⟩:=zk4 h
 have n1:b∉A:=fun z=>n (zbm8 _ z)
 refine zd1 (g.kp b o n1 h) fun z=>?_
 rcases zbn2.mp z with z | z
 ·rcases g.nw b z with q | q
  ·exact n1 q
  ·rw [q]at h;cases h
 ·exact n (zbm6 _ z)
end DL
namespace DL
open PySem.Spec L2
noncomputable abbrev DE:=Th→Option Ev
noncomputable def dE (K:zbm7) (F:List Addr) (f:DE):TE:=fun σ H Q => ∃A t r,RS K F H A t σ∧f t=some r∧∀v H',Same H H'→RepEv K F A H H' r v→Q v H'
theorem PE.imp {X:Cx}{e:Expr}{t t':TE} (h:PE X e t) (i:∀σ H Q,t' σ H Q→t σ H Q):PE X e t':=fun pins s σ H Q I q=>h pins s σ H Q I (i σ H Q q)
section
variable {X:Cx}{F:List Addr}{a b c:Expr}{fa fb fc:DE}{pos:Pos}
noncomputable def dVar (i:Nat):DE:=fun t=>match t[i]? with
 |some (.val d)=>some (.cl d)
 |some (.own xs)=>some (.tm (.lst xs))
 |some (.dp d)=>some (.tm d)
 |_=>none
theorem za0 (i:Nat) {x:Str} (hN:X.N[i]?=some x:=by rfl) (hv:Vis X.env.scope x:=by first | exact Or.inl rfl | exact Or.inr (Or.inl rfl) |exact Or.inr (Or.inr rfl)) (hd:(x ==("__debug__":Str))=false:=by decide)
  (hcd:(x ==("__classdict__":Str))=false:=by decide):PE X (.Name x pos) (dE X.K F (dVar i)):=by
 refine PE.imp (zq7 (i:=i) hN hv hd hcd) ?_
 rintro σ H Q ⟨A,t,r,R,e,h⟩
 unfold dVar at e
 split at e
 ·rename_i d q
  cases e
  obtain⟨v,h1,h2⟩:=R.rel.getVal q
  exact⟨v,h1,h v H (Same.refl H) h2⟩
 ·rename_i ds q
  cases e
  obtain⟨p,vs,h1,h2,h3,h4⟩:=R.rel.getOwn q
  refine⟨_,h1,h _ H (Same.refl H) ?_⟩
  exact .lst (SqL.of (zd1 h3 (R.dj p h2))) (Reps.mono (zb5 H fun a z=>zbm6 _ z) h4)
 ·rename_i d q
  cases e
  obtain⟨v,B,h1,h2,h0,h3⟩:=R.rel.getDp R.nd q
  refine⟨_,h1,h _ H (Same.refl H) ?_⟩
  exact h3.rep (zb5 H fun a z=>zbm6 _ z) fun b hb o w=>zd1 w (R.dj b (h2 b hb))
 ·cases e
noncomputable def dC (d:D):DE:=fun _=>some (.cl d)
theorem za6 {i j pos}:PE X (.Constant (.int i) j pos) (dE X.K F (dC (.int i))):=PE.imp pe_int fun σ H Q ⟨A,t,r,R,e,h⟩=>by cases e;exact h _ H (Same.refl H) (.int i)
theorem zk8 {b j pos}:PE X (.Constant (.bool b) j pos) (dE X.K F (dC (.bl b))):=PE.imp pe_bl fun σ H Q ⟨A,t,r,R,e,h⟩=>by cases e;exact h _ H (Same.refl H) (.bl b)
noncomputable def OpD (X:Cx) (F:List Addr) (f:Value→Value→Sem Value) (k:Ev→Ev→Option Ev):Prop :=
 ∀(pins:List (Addr×Obj)) (s:zbo3) (σ:L2.St) (H0 H:Hp) (A:List Addr) (x y:V) (v u:Value) (Q:VK) (r1 r2 r:Ev),Inv X pins σ H s→Lists H0 (A++F)→Same H0 H→RelV x v→RelV y u →
  RepEv X.K F A H0 H r1 x→RepEv X.K F A H0 H r2 y→k r1 r2=some r→(∀z H',Same H H'→RepEv X.K F A H0 H' r z→Q z H')→wpAny (model X.prog X.w) X.A (f v u) (EP X pins σ Q) X.xe s
noncomputable def d2 (k:Ev→Ev→Option Ev) (fa fb:DE):DE:=fun t=>(fa t).bind fun r1=>(fb t).bind fun r2=>k r1 r2
theorem two {k:Ev→Ev→Option Ev}{σ:L2.St}{H:Hp}{Q:VK} (h:dE X.K F (d2 k fa fb) σ H Q):∃A t r1 r2 r,RS X.K F H A t σ∧fa t=some r1∧fb t=some r2∧k r1 r2=some r ∧
  (∀v H',Same H H'→RepEv X.K F A H H' r v→Q v H')∧dE X.K F fa σ H fun x H1=>dE X.K F fb σ H1 fun y H2=>Same H H2∧RepEv X.K F A H H2 r1 x∧RepEv X.K F A H H2 r2 y:=by
 obtain⟨A,t,r,R,e,h⟩:=h
 unfold d2 at e
 cases e1:fa t with
 |none=>rw [e1]at e;cases e
 |some r1 =>
  cases e2:fb t with
  |none=>rw [e1,e2]at e;cases e
  |some r2 =>
   rw [e1,e2]at e
   exact⟨A,t,r1,r2,r,R,e1,e2,e,h,A,t,r1,R,e1,fun x H1 g1 q1=>⟨A,t,r2,R.grow g1,e2,fun y H2 g2 q2=>⟨g1.trans g2,q1.mono g2,q2.back g1⟩⟩⟩
theorem za9 {op:Operator}{k:Ev→Ev→Option Ev} (ho:OpD X F (binaryOp op) k) (ha:PE X a (dE X.K F fa)) (hb:PE X b (dE X.K F fb)):PE X (.BinOp a op b pos) (dE X.K F (d2 k fa fb)):=by
 intro pins s σ H Q I h
 obtain⟨A,t,r1,r2,r,R,e1,e2,e,h,w⟩:=two h
 refine wpAny_BinOp (bin ha hb I w fun v u s2 x y H2 I2 rx ry q=>?_)
 obtain⟨g,q1,q2⟩:=q
 exact ho pins s2 σ H H2 A x y v u Q r1 r2 r I2 R.mu g rx ry q1 q2 e fun z H' g'=>h z H' (g.trans g')
theorem zq2 {op:CmpOp}{k:Ev→Ev→Option Ev} (ho:OpD X F (compareOp op) k) (ha:PE X a (dE X.K F fa)) (hb:PE X b (dE X.K F fb)) (hm:behindInMarks op b=false:=by first | exact nomark _ | (with_unfolding_all rfl)) :
  PE X (.Compare a [op] [b] pos) (dE X.K F (d2 k fa fb)):=by
 intro pins s σ H Q I h
 obtain⟨A,t,r1,r2,r,R,e1,e2,e,h,w⟩:=two h
 refine wpAny_Compare1 (bin ha hb I w fun v u s2 x y H2 I2 rx ry q=>?_) hm
 obtain⟨g,q1,q2⟩:=q
 exact ho pins s2 σ H H2 A x y v u Q r1 r2 r I2 R.mu g rx ry q1 q2 e fun z H' g'=>h z H' (g.trans g')
noncomputable def kI (C:Int→Int→Bool) (g:Int→Int→D):Ev→Ev→Option Ev:=fun r1 r2=>match r1.d,r2.d with
 |.int i,.int j=>if C i j then some (.cl (g i j)) else none
 |_,_=>none
theorem ze7 {K:zbm7}{H:Hp}{i:Int}{v:V} (h:Rep K H (.int i) v):v=.int i:=by cases h;rfl
theorem zad4 {f:Value→Value→Sem Value}{C:Int→Int→Prop}{g:Int→Int→V}{C':Int→Int→Bool}{g':Int→Int→D} (h:OpR X f (rI C g)) (hc:∀i j,C' i j=true→C i j)
  (hg:∀H i j,Rep X.K H (g' i j) (g i j)):OpD X F f (kI C' g'):=by
 intro pins s σ H0 H A x y v u Q r1 r2 r I m g0 rx ry q1 q2 e hq
 have p1:=q1.full
 have p2:=q2.full
 unfold kI at e
 split at e
 ·rename_i i j d1 d2
  split at e
  ·rename_i c
   cases e
   rw [d1]at p1;rw [d2]at p2
   cases ze7 p1;cases ze7 p2
   exact h pins s σ H _ _ v u Q I rx ry ⟨i,j,rfl,rfl,hc i j c,hq _ H (Same.refl H) (hg _ i j)⟩
  ·cases e
 ·cases e
theorem zay9 {f:Value→Value→Sem Value}{g:Int→Int→V} (h:OpR X f (rI0 g)):OpR X f (rI (fun _ _=>True) g):=fun pins s σ H x y v u Q I rx ry ⟨i,j,e1,e2,_,q⟩=>h pins s σ H x y v u Q I rx ry ⟨i,j,e1,e2,q⟩
noncomputable def tt2:Int→Int→Bool:=fun _ _=>true
theorem od_add:OpD X F (binaryOp .Add) (kI tt2 fun i j=>.int (i+j)):=zad4 (zay9 op_add) (fun _ _ _=>trivial) fun _ _ _=>.int _
theorem zj9:OpD X F (binaryOp .Sub) (kI tt2 fun i j=>.int (i - j)):=zad4 (zay9 op_sub) (fun _ _ _=>trivial) fun _ _ _=>.int _
noncomputable def bnd:Nat:=2 ^ 4096
noncomputable def sm (i:Int):Bool:=decide (i.natAbs<bnd)
noncomputable def cMul (i j:Int):Bool:=sm i&&sm j
noncomputable def cDiv (_ j:Int):Bool:=sm j&&decide (j≠0)
theorem zbg3 {n k:Nat} (h:n<2 ^ k):n.log2≤k:=by
 by_cases z:n=0
 ·subst z;simp
 ·exact zby1 ((Nat.log2_lt z).mpr h)
theorem cMul.ok {i j:Int} (h:cMul i j=true):IntMulOk i j:=by
 simp only [cMul,sm,zbo2,decide_eq_true_eq]at h
 refine mulOk_of_bits (m:=4097) (n:=4097) ?_ ?_ (by decide)
 ·exact intBits_le (zbo7 h.1 (by unfold bnd;exact zbw1 (by decide) (by decide)))
 ·exact intBits_le (zbo7 h.2 (by unfold bnd;exact zbw1 (by decide) (by decide)))
theorem od_mul:OpD X F (binaryOp .Mult) (kI cMul fun i j=>.int (i*j)):=zad4 (C:=IntMulOk) (opI fun _ _ _ _ _ _ _ hc q=>mul_int q hc) (fun _ _ h=>cMul.ok h) fun _ _ _=>.int _
theorem cDiv.ok {i j:Int} (h:cDiv i j=true):j≠0∧j.natAbs.log2<9000:=by
 simp only [cDiv,sm,zbo2,decide_eq_true_eq]at h
 have:=zbg3 h.1
 exact⟨h.2,by lia⟩
theorem zk0:OpD X F (binaryOp .FloorDiv) (kI cDiv fun i j=>.int (i.fdiv j)):=zad4 (C:=fun _ j=>j≠0∧j.natAbs.log2<9000) (opI fun _ _ _ _ _ _ _ hc q=>floordiv_int hc.1 q (.inl (PyProof.noPylong_of_log2 hc.2))) (fun _ _ h=>cDiv.ok h) fun _ _ _=>.int _
noncomputable def cMod (_ j:Int):Bool:=decide (j≠0)
theorem zd6:OpD X F (binaryOp .Mod) (kI cMod fun i j=>.int (i.fmod j)):=zad4 op_modN (fun i j h=>by simpa [cMod] using h) fun _ _ _=>.int _
noncomputable def cPow (i j:Int):Bool:=decide (0≤j∧j≤1000∧i.natAbs<18446744073709551616)
theorem od_pow:OpD X F (binaryOp .Pow) (kI cPow fun i j=>.int (i ^ j.toNat)):=zad4 op_pow (fun i j h=>by
 simp only [cPow,decide_eq_true_eq]at h
 exact⟨h.1,by lia,by show i.natAbs<2 ^ 64;lia⟩) fun _ _ _=>.int _
theorem zaq9:OpD X F (compareOp .Lt) (kI tt2 fun i j=>.bl (decide (i<j))):=zad4 (zay9 op_lt) (fun _ _ _=>trivial) fun _ _ _=>.bl _
theorem od_le:OpD X F (compareOp .LtE) (kI tt2 fun i j=>.bl (decide (i≤j))):=zad4 (zay9 op_le) (fun _ _ _=>trivial) fun _ _ _=>.bl _
theorem od_gt:OpD X F (compareOp .Gt) (kI tt2 fun i j=>.bl (decide (j<i))):=zad4 (zay9 op_gt) (fun _ _ _=>trivial) fun _ _ _=>.bl _
theorem od_ge:OpD X F (compareOp .GtE) (kI tt2 fun i j=>.bl (decide (j≤i))):=zad4 (zay9 op_ge) (fun _ _ _=>trivial) fun _ _ _=>.bl _
noncomputable def kOr (k k':Ev→Ev→Option Ev):Ev→Ev→Option Ev:=fun r1 r2=>match k r1 r2 with
 |some r=>some r
 |none=>k' r1 r2
theorem OpD.or {f:Value→Value→Sem Value}{k k':Ev→Ev→Option Ev} (h:OpD X F f k) (h':OpD X F f k'):OpD X F f (kOr k k'):=by
 intro pins s σ H0 H A x y v u Q r1 r2 r I m g0 rx ry q1 q2 e hq
 unfold kOr at e
 split at e
 ·rename_i z
  cases e
  exact h pins s σ H0 H A x y v u Q r1 r2 _ I m g0 rx ry q1 q2 z hq
 ·exact h' pins s σ H0 H A x y v u Q r1 r2 _ I m g0 rx ry q1 q2 e hq
noncomputable def d1 (k:Ev→Option Ev) (fa:DE):DE:=fun t=>(fa t).bind k
noncomputable def kNeg:Ev→Option Ev:=fun r=>match r.d with
 |.int i=>some (.cl (.int (-i)))
 |_=>none
theorem zaq2 (ha:PE X a (dE X.K F fa)):PE X (.UnaryOp .USub a pos) (dE X.K F (d1 kNeg fa)):=by
 refine PE.imp (pe_un un_neg ha) ?_
 rintro σ H Q ⟨A,t,r,R,e,h⟩
 unfold d1 at e
 cases e1:fa t with
 |none=>rw [e1]at e;cases e
 |some r1 =>
  rw [e1]at e
  refine⟨A,t,r1,R,e1,fun x H1 g1 q1=>?_⟩
  have e:kNeg r1=some r:=e
  unfold kNeg at e
  split at e
  ·rename_i i z
   cases e
   have p:=q1.full
   rw [z]at p
   exact⟨i,ze7 p,h _ H1 g1 (.int _)⟩
  ·cases e
end
end DL
namespace DL
open PySem.Spec L2
inductive RepEvs (K:zbm7) (F A:List Addr) (H H':Hp):List Ev→List V→Prop
 |nil:RepEvs K F A H H' [] []
 |cons {r:Ev}{v:V}{rs:List Ev}{vs:List V}:RepEv K F A H H' r v→RepEvs K F A H H' rs vs→RepEvs K F A H H' (r::rs) (v::vs)
theorem RepEvs.back {K:zbm7}{F A:List Addr}{H0 H H1:Hp} (e:Same H0 H):∀ {rs:List Ev}{vs:List V},RepEvs K F A H H1 rs vs→RepEvs K F A H0 H1 rs vs
 |_,_,.nil=>.nil
 |_,_,.cons h r=>.cons (h.back e) (RepEvs.back e r)
theorem RepEvs.full {K:zbm7}{F A:List Addr}{H H':Hp}:∀ {rs:List Ev}{vs:List V},RepEvs K F A H H' rs vs→Reps K H' (rs.map Ev.d) vs
 |_,_,.nil=>.nil
 |_,_,.cons h r=>.cons h.full (RepEvs.full r)
theorem RepEvs.cleanF {K:zbm7}{F A:List Addr}{H H':Hp} (m:Lists H (A++F)):∀ {rs:List Ev}{vs:List V},RepEvs K F A H H' rs vs→Reps K (hide F H') (rs.map Ev.d) vs
 |_,_,.nil=>.nil
 |_,_,.cons h r=>.cons (h.cleanF m) (RepEvs.cleanF m r)
theorem RepEvs.clean {K:zbm7}{F A:List Addr}{H H':Hp} (m:Lists H (A++F)) (e:Same H H'):∀ {rs:List Ev}{vs:List V},RepEvs K F A H H' rs vs→rs.all Ev.ok=true→Reps K (hide (A++F) H') (rs.map Ev.d) vs
 |_,_,.nil,_=>.nil
 |_,_,.cons h r,c=>by
  simp only [zbq5,zbo2]at c
  exact .cons (h.clean m e c.1) (RepEvs.clean m e r c.2)
noncomputable abbrev DA:=Th→Option (List Ev)
noncomputable def dA (K:zbm7) (F:List Addr) (f:DA):TA:=fun σ H Q => ∃A t rs,RS K F H A t σ∧f t=some rs∧∀vs H',Same H H'→RepEvs K F A H H' rs vs→Q vs H'
theorem PA.imp {X:Cx}{e:List Expr}{t t':TA} (h:PA X e t) (i:∀σ H Q,t' σ H Q→t σ H Q):PA X e t':=fun pos pins s σ H Q I q=>h pos pins s σ H Q I (i σ H Q q)
noncomputable def dNil:DA:=fun _=>some []
noncomputable def za2 (f:DE) (g:DA):DA:=fun t=>(f t).bind fun r=>(g t).bind fun rs=>some (r::rs)
section
variable {X:Cx}{F:List Addr}{a b c:Expr}{es:List Expr}{fa fb fc:DE}{g:DA}{pos:Pos}
theorem za5:PA X [] (dA X.K F dNil):=PA.imp zm1 fun σ H Q ⟨A,t,rs,R,e,h⟩=>by cases e;exact h [] H (Same.refl H) .nil
theorem za1 (ha:PE X a (dE X.K F fa)) (hr:PA X es (dA X.K F g)) (hs:zbo8 (a::es) X.env=(false,eval a X.env)::zbo8 es X.env:=by rfl):PA X (a::es) (dA X.K F (za2 fa g)):=by
 refine PA.imp (zh0 ha hr hs) ?_
 rintro σ H Q ⟨A,t,rs,R,e,h⟩
 unfold za2 at e
 cases e1:fa t with
 |none=>rw [e1]at e;cases e
 |some r1 =>
  cases e2:g t with
  |none=>rw [e1,e2]at e;cases e
  |some rs2 =>
   rw [e1,e2]at e
   cases e
   exact⟨A,t,r1,R,e1,fun x H1 g1 q1=>⟨A,t,rs2,R.grow g1,e2,fun xs H2 g2 q2=>h _ _ (g1.trans g2) (.cons (q1.mono g2) (q2.back g1))⟩⟩
noncomputable def kTup:List Ev→Option Ev:=fun rs=>if rs.length≤1000 then (if rs.all Ev.ok then some (.cl (.tup (rs.map Ev.d))) else some (.tm (.tup (rs.map Ev.d)))) else none
noncomputable def dT1 (k:List Ev→Option Ev) (g:DA):DE:=fun t=>(g t).bind k
theorem RepEvs.length {K:zbm7}{F A:List Addr}{H H':Hp}:∀ {rs:List Ev}{vs:List V},RepEvs K F A H H' rs vs→vs.length=rs.length
 |_,_,.nil=>rfl
 |_,_,.cons _ r=>by simp [RepEvs.length r]
theorem le_line {n:Nat} (h:n≤100000):n≤sizeLine:=zbs6 h (by rw [sizeLine_eq];decide)
theorem zd2 {H:Hp}{p:Addr}{o:HO} (h:H p=none):Same H (upd H p o):=fun b u e=>by rw [zc8 (fun z=>by rw [z,h]at e;cases e)];exact e
theorem zf5 {x1} (h:PA X es (dA X.K F g)):PE X (.Tuple es x1 pos) (dE X.K F (dT1 kTup g)):=by
 refine PE.imp (pe_tup h) ?_
 rintro σ H Q ⟨A,t,r,R,e,h⟩
 unfold dT1 at e
 cases e1:g t with
 |none=>rw [e1]at e;cases e
 |some rs =>
  rw [e1]at e
  have e:kTup rs=some r:=e
  unfold kTup at e
  split at e
  case isFalse=>cases e
  rename_i hl
  refine⟨A,t,rs,R,e1,fun vs H1 g1 q1=>⟨by rw [q1.length];exact le_line (by lia),fun p hp=>?_⟩⟩
  have s1:=zd2 (o:=HO.tup vs) hp
  refine h _ _ (g1.trans s1) ?_
  have np:p∉A++F:=zd5 (R.mu.mono g1) hp
  split at e
  ·rename_i c
   cases e
   exact .tup (SqT.of (zd1 zc1 np)) (Reps.mono (zb6 s1) (q1.clean R.mu g1 c))
  ·cases e
   exact .tup (SqT.of (zd1 zc1 fun z=>np (zbm6 _ z))) (Reps.mono (zb6 s1) (q1.cleanF R.mu))
noncomputable def kLst:List Ev→Option Ev:=fun rs=>if rs.length≤1000∧rs.all Ev.ok then some (.nw (rs.map Ev.d)) else none
theorem zi6 {P:List Addr}{H:Hp}{p:Addr}{o:HO} (h:H p=none):Same (hide P H) (hide (p::P) (upd H p o)):=fun b u e=>by
 obtain⟨n,e⟩:=zk4 e
 have nb:b≠p:=fun z=>by rw [z,h]at e;cases e
 refine zd1 (by rw [zc8 nb];exact e) fun z=>?_
 rcases zbn5.mp z with z | z
 ·exact nb z
 ·exact n z
theorem zd8 (h:PA X es (dA X.K F g)):PE X (.List es pos) (dE X.K F (dT1 kLst g)):=by
 refine PE.imp (pe_lst h) ?_
 rintro σ H Q ⟨A,t,r,R,e,h⟩
 unfold dT1 at e
 cases e1:g t with
 |none=>rw [e1]at e;cases e
 |some rs =>
  rw [e1]at e
  have e:kLst rs=some r:=e
  unfold kLst at e
  split at e
  case isFalse=>cases e
  rename_i hl
  cases e
  refine⟨A,t,rs,R,e1,fun vs H1 g1 q1=>⟨by rw [q1.length];exact le_line (by lia),fun p hp=>?_⟩⟩
  have s1:=zd2 (o:=HO.lst vs) hp
  refine h _ _ (g1.trans s1) ⟨p,vs,rfl,?_,zc1,Reps.mono (zi6 hp) (q1.clean R.mu g1 hl.2)⟩
  exact Same.free g1 hp
noncomputable def spD (K:zbm7) (G:List D→Option Ev):Sp:=fun vs H Q _ => ∃Fo ds r,Lists H Fo∧Reps K (hide Fo H) ds vs∧G ds=some r∧∀v H',Same H H'→RepEv K Fo [] H H' r v→Q v H'
noncomputable def upEv (ok:Bool) (r:Ev):Ev:=if ok then (match r with
  |.cl d=>.cl d
  |.tm d=>.cl d
  |.nw xs=>.nw xs
  |.dn d=>.dn d) else match r with
  |.cl d=>if flat d then .cl d else .tm d
  |.tm d=>if flat d then .cl d else .tm d
  |.nw xs=>if flats xs then .nw xs else .tm (.lst xs)
  |.dn d=>.dn d
noncomputable def zb8 (G:List D→Option Ev):List Ev→Option Ev:=fun rs=>(G (rs.map Ev.d)).map (upEv (rs.all Ev.ok))
theorem call_up {K:zbm7}{A:List Addr}{G:List D→Option Ev}{H0 H:Hp}{rs:List Ev}{r:Ev}{vs:List V}{Q:VK}{E:XK} (m:Lists H0 (A++F)) (g:Same H0 H) (q:RepEvs K F A H0 H rs vs) (e:zb8 G rs=some r)
  (h:∀v H',Same H H'→RepEv K F A H0 H' r v→Q v H'):spD K G vs H Q E:=by
 unfold zb8 at e
 cases e1:G (rs.map Ev.d) with
 |none=>rw [e1]at e;cases e
 |some r0 =>
  rw [e1]at e
  have e:upEv (rs.all Ev.ok) r0=r:=by simpa using e
  have mH:=m.mono g
  by_cases c:rs.all Ev.ok=true
  ·refine⟨A++F,rs.map Ev.d,r0,mH,q.clean m g c,e1,fun v H' g' w=>h v H' g' ?_⟩
   rw [c]at e
   subst e
   cases r0 with
   |cl d=>exact w
   |tm d=>exact w
   |nw xs =>
    obtain⟨p,us,rfl,h1,h2,h3⟩:=w
    exact⟨p,us,rfl,Same.free g h1,h2,h3⟩
   |dn d =>
    obtain⟨B,h1,h2,h3⟩:=w
    exact⟨B,h1,fun b hb=>Same.free g (h2 b hb),h3⟩
  ·refine⟨F,rs.map Ev.d,r0,fun p hp=>mH p (zbm6 _ hp),q.cleanF m,e1,fun v H' g' w=>h v H' g' ?_⟩
   have c:rs.all Ev.ok=false:=by simpa using c
   rw [c]at e
   subst e
   have m':=mH.mono g'
   cases r0 with
   |cl d =>
    show RepEv K F A H0 H' (if flat d then .cl d else .tm d) v
    split
    ·rename_i f;exact Rep.hid m' f (Rep.mono (zc2 _ _) w)
    ·exact w
   |tm d =>
    show RepEv K F A H0 H' (if flat d then .cl d else .tm d) v
    split
    ·rename_i f;exact Rep.hid m' f (Rep.mono (zc2 _ _) w)
    ·exact w
   |nw xs =>
    obtain⟨p,us,rfl,h1,h2,h3⟩:=w
    have np:p∉A++F:=zd5 mH h1
    show RepEv K F A H0 H' (if flats xs then .nw xs else .tm (.lst xs)) _
    split
    ·rename_i f
     refine⟨p,us,rfl,Same.free g h1,h2,Reps.hid (P:=p ::(A++F)) (fun b hb=>?_) f (Reps.mono (zc2 _ _) h3)⟩
     rcases zbn5.mp hb with rfl | hb
     ·exact⟨mL us,h2⟩
     ·exact m' b hb
    ·exact .lst (SqL.of (zd1 h2 fun z=>np (zbm6 _ z))) (Reps.mono (zb5 H' fun b z=>zbm9 _ z) h3)
   |dn d =>
    obtain⟨B,h1,h2,h3⟩:=w
    exact⟨B,h1,fun b hb=>Same.free g (h2 b hb),h3.hid (h3.lists.app m') (zc2 _ _)⟩
theorem ped_call {k:Nat}{f:Addr}{fd:FuncData}{ps:List Str}{G:List D→Option Ev}{x:Str}{p:Pos} (Fn:FnOk X.prog X.w X.K X.mg X.base CX0 k f fd ps (spD X.K G)) (hr:Room k X.A) (hg:Gl X x) (hm:X.mg x=some (.ref f)) (hk:zbs0 X.K (.ref f)=true)
  (hb:Binds X.K fd ps []) (ha:PA X (a::es) (dA X.K F g)) (hdb:(x ==("__debug__":Str))=false:=by decide) (he:zbo8 (a::es) X.env=(false,eval a X.env)::zbo8 es X.env:=by rfl)
  (hpl:(zbu1 pos (zbo8 es X.env)).any (·.1)=false:=by rfl):PE X (.Call (.Name x p) (a::es) [] pos) (dE X.K F (dT1 (zb8 G) g)):=by
 refine PE.imp (pe_call Fn hr hg hm hk hb .nil (E:=E0) pass0 ha hdb he hpl) ?_
 rintro σ H Q ⟨A,t,r,R,e,h⟩
 unfold dT1 at e
 cases e1:g t with
 |none=>rw [e1]at e;cases e
 |some rs =>
  rw [e1]at e
  refine⟨A,t,rs,R,e1,fun vs H1 g1 q1=>?_⟩
  show spD X.K G (vs++[]) H1 Q E0
  rw [zbr4]
  exact call_up R.mu g1 q1 e fun v H' g' w=>h v H' (g1.trans g') w
noncomputable def CallD (X:Cx) (F:List Addr) (f:Value) (k:List Ev→Option Ev):Prop :=
 ∀(pins:List (Addr×Obj)) (s:zbo3) (σ:L2.St) (H0 H:Hp) (A:List Addr) (xs:List V) (us:List Value) (Q:VK) (rs:List Ev) (r:Ev),Inv X pins σ H s→Lists H0 (A++F)→Same H0 H→Vals xs us→RepEvs X.K F A H0 H rs xs→k rs=some r →
  (∀z H',Same H H'→RepEv X.K F A H0 H' r z→Q z H')→wpAny (model X.prog X.w) X.A (call f us) (EP X pins σ Q) X.xe s
theorem PA.run (ha:PA X es (dA X.K F g)) {k:List Ev→Option Ev}{f:Value} (hc:CallD X F f k) {pins:List (Addr×Obj)}{s:zbo3}{σ:L2.St}{H:Hp}{Q:VK} (p:Pos) (I:Inv X pins σ H s) (h:dE X.K F (dT1 k g) σ H Q) :
  wpAny (model X.prog X.w) X.A (spliced (zbu1 p (zbo8 es X.env))) (fun us s1=>wpAny (model X.prog X.w) X.A (call f us) (EP X pins σ Q) X.xe s1) X.xe s:=by
 obtain⟨A,t,r,R,e,h⟩:=h
 unfold dT1 at e
 cases e1:g t with
 |none=>rw [e1]at e;cases e
 |some rs =>
  rw [e1]at e
  refine thn (ha p pins s σ H (fun vs H1=>Same H H1∧RepEvs X.K F A H H1 rs vs) I ⟨A,t,rs,R,e1,fun vs H1 g1 q1=>⟨g1,q1⟩⟩) fun us s1 ⟨vs,H1,I1,r1,g1,q1⟩=>?_
  exact hc pins s1 σ H H1 A vs us Q rs r I1 R.mu g1 r1 q1 e fun z H' g'=>h z H' (g1.trans g')
theorem zb7 {k:List Ev→Option Ev}{x:Str}{p:Pos}{id:String} (hc:CallD X F (.builtin id) k) (hg:Gl X x) (hm:X.mg x=none) (hv:bootBuiltins x=some (.builtin id)) (ha:PA X (a::es) (dA X.K F g)) (hn:x≠"__name__":=by decide) (hdb:(x ==("__debug__":Str))=false:=by decide)
  (he:zbo8 (a::es) X.env=(false,eval a X.env)::zbo8 es X.env:=by rfl) (hpl:(zbu1 pos (zbo8 es X.env)).any (·.1)=false:=by rfl):PE X (.Call (.Name x p) (a::es) [] pos) (dE X.K F (dT1 k g)):=by
 intro pins s σ H Q I h
 refine wpAny_Call_Name_kw (zr5 I hg hm hv ?_ hn hdb)
 exact PyProof.Rows.callWith_builtin1 (PA.run ha hc pos I h) he hpl
theorem zg9 {k:List Ev→Option Ev}{x:Str}{p:Pos}{T:String} (hc:CallD X F (.type T) k) (hg:Gl X x) (hm:X.mg x=none) (hv:bootBuiltins x=some (.type T)) (ha:PA X (a::es) (dA X.K F g)) (hn:x≠"__name__":=by decide) (hdb:(x ==("__debug__":Str))=false:=by decide)
  (he:zbo8 (a::es) X.env=(false,eval a X.env)::zbo8 es X.env:=by rfl) (hpl:(zbu1 pos (zbo8 es X.env)).any (·.1)=false:=by rfl):PE X (.Call (.Name x p) (a::es) [] pos) (dE X.K F (dT1 k g)):=by
 intro pins s σ H Q I h
 refine wpAny_Call_Name_kw (zr5 I hg hm hv ?_ hn hdb)
 exact PyProof.Rows.callWith_type1 (PA.run ha hc pos I h) he hpl
theorem CallD.of {f:Value}{r:List V→Hp→VK→Prop}{k:List Ev→Option Ev} (h:zp0 X f r)
  (i:∀(H0 H:Hp) (A:List Addr) (xs:List V) (rs:List Ev) (e:Ev) (Q:VK),Lists H0 (A++F)→Same H0 H→RepEvs X.K F A H0 H rs xs→k rs=some e→(∀z H',Same H H'→RepEv X.K F A H0 H' e z→Q z H')→r xs H Q):CallD X F f k :=
 fun pins s σ H0 H A xs us Q rs e I m g v q ek hq=>h pins s σ H xs us Q I v (i H0 H A xs rs e Q m g q ek hq)
noncomputable def kAbs:List Ev→Option Ev:=fun rs=>match rs with
 |[r]=>(match r.d with
  |.int i=>some (.cl (.int (if i<0 then -i else i)))
  |_=>none)
 |_=>none
theorem cd_abs:CallD X F (.builtin "abs") kAbs:=CallD.of call_abs fun H0 H A xs rs e Q m g q ek hq=>by
 unfold kAbs at ek
 split at ek
 ·rename_i r
  split at ek
  ·rename_i i z
   cases ek
   cases q with
   |cons q1 q2 =>
    cases q2
    have p:=q1.full
    rw [z]at p
    cases ze7 p
    exact⟨i,rfl,hq _ H (Same.refl H) (.int _)⟩
  ·cases ek
 ·cases ek
noncomputable def kLen:List Ev→Option Ev:=fun rs=>match rs with
 |[r]=>(match r.d with
  |.lst xs=>some (.cl (.int xs.length))
  |.tup xs=>some (.cl (.int xs.length))
  |_=>none)
 |_=>none
theorem zk2:CallD X F (.builtin "len") kLen:=CallD.of zao1 fun H0 H A xs rs e Q m g q ek hq=>by
 unfold kLen at ek
 split at ek
 ·rename_i r
  cases q with
  |cons q1 q2 =>
   cases q2
   have p:=q1.full
   split at ek
   ·rename_i ds z
    cases ek
    rw [z]at p
    cases p with
    |lst h1 h2=>exact⟨_,_,rfl,.inl h1,by rw [h2.length];exact hq _ H (Same.refl H) (.int _)⟩
   ·rename_i ds z
    cases ek
    rw [z]at p
    cases p with
    |tup h1 h2=>exact⟨_,_,rfl,.inr h1,by rw [h2.length];exact hq _ H (Same.refl H) (.int _)⟩
   ·cases ek
 ·cases ek
end
end DL
namespace DL
open PySem.Spec L2
noncomputable abbrev DT:=Th→Option Bool
noncomputable def dT (K:zbm7) (F:List Addr) (f:DT):TT:=fun σ H Q => ∃A t b,RS K F H A t σ∧f t=some b∧∀H',Same H H'→Q b H'
theorem PT.imp {X:Cx}{e:Expr}{t t':TT} (h:PT X e t) (i:∀σ H Q,t' σ H Q→t σ H Q):PT X e t':=fun pins s σ H Q I q=>h pins s σ H Q I (i σ H Q q)
theorem PW.imp {X:Cx}{e:Expr}{t t':TT} (h:PW X e t) (i:∀σ H Q,t' σ H Q→t σ H Q):PW X e t':=fun w pins s σ H Q I q=>h w pins s σ H Q I (i σ H Q q)
noncomputable def truD:D→Option Bool
 |.non=>some false
 |.bl b=>some b
 |.int i=>some (i != 0)
 |.tup xs=>some (!xs.isEmpty)
 |.lst xs=>some (!xs.isEmpty)
 |.dct ks _=>some (!ks.isEmpty)
 |.pdc _=>none
 |.str y=>if y.length≤100000 then some ((y.length:Int) != 0) else none
theorem zu0 {α β:Type}{xs:List α}{ys:List β} (h:xs.length=ys.length):xs.isEmpty=ys.isEmpty:=by
 cases xs<;>cases ys<;>simp_all
theorem truV_of {K:zbm7}{H:Hp}{d:D}{v:V}{b:Bool} (r:Rep K H d v) (e:truD d=some b):TruV K v H b:=by
 cases r with
 |non=>cases e;rfl
 |bl b=>cases e;rfl
 |int i=>cases e;rfl
 |str x =>
  simp only [truD]at e
  split at e
  ·cases e;exact⟨le_line (by assumption),rfl⟩
  ·cases e
 |tup h1 h2=>cases e;exact .inr (.inl ⟨_,h1,by rw [zu0 h2.length]⟩)
 |lst h1 h2=>cases e;exact .inl ⟨_,h1,by rw [zu0 h2.length]⟩
 |@dct ks ds p vs l h1 h2 =>
  cases e
  have e1:(mkKV ks vs).length=ks.length:=by unfold mkKV;rw [zca9];lia
  exact .inr (.inr ⟨_,h1,by rw [zu0 e1]⟩)
 |pdc h=>cases e
noncomputable def dTr (f:DE):DT:=fun t=>(f t).bind fun r=>truD r.d
noncomputable def dBo (f:DE):DT:=fun t=>(f t).bind fun r=>match r.d with
 |.bl b=>some b
 |_=>none
noncomputable def dAnd (f g:DT):DT:=fun t=>(f t).bind fun b=>if b then g t else some false
noncomputable def dOr (f g:DT):DT:=fun t=>(f t).bind fun b=>if b then some true else g t
noncomputable def dNot (f:DT):DT:=fun t=>(f t).bind fun b=>some (!b)
section
variable {X:Cx}{F:List Addr}{a b c:Expr}{es:List Expr}{fa fb fc:DE}{g g':DA}{ft fu:DT}{pos:Pos}{rest:List Expr}
theorem zo0 (ha:PE X a (dE X.K F fa)) (he:∀whole,isTrue a X.env whole=(do let v ← whole;standAt a.pos;holding [v] (truthy v)):=by intro _;rfl):PT X a (dT X.K F (dTr fa)):=by
 refine PT.imp (pt_truth ha he) ?_
 rintro σ H Q ⟨A,t,r,R,e,h⟩
 unfold dTr at e
 cases e1:fa t with
 |none=>rw [e1]at e;cases e
 |some r1 =>
  rw [e1]at e
  exact⟨A,t,r1,R,e1,fun v H' g' q=>⟨r,truV_of q.full e,h H' g'⟩⟩
theorem zc9 {op:CmpOp}{k:Ev→Ev→Option Ev} (ho:OpD X F (compareOp op) k) (ha:PE X a (dE X.K F fa)) (hb:PE X b (dE X.K F fb)) (hm:behindInMarks op b=false:=by first | exact nomark _ | (with_unfolding_all rfl)) :
  PT X (.Compare a [op] [b] pos) (dT X.K F (dBo (d2 k fa fb))):=by
 intro pins s σ H Q I h
 obtain⟨A,t,b',R,e,h⟩:=h
 unfold dBo at e
 cases e1:d2 k fa fb t with
 |none=>rw [e1]at e;cases e
 |some r0 =>
  rw [e1]at e
  have w0:dE X.K F (d2 k fa fb) σ H (fun z H'=>Same H H'∧Rep X.K H' r0.d z):=⟨A,t,r0,R,e1,fun v H' g q=>⟨g,q.full⟩⟩
  obtain⟨A2,t2,r1,r2,r,R2,e1',e2',e3,h3,w⟩:=two w0
  refine wpAny_isTrue_Compare1 (bin ha hb I w fun v u s2 x y H2 I2 rx ry q=>?_) hm
  obtain⟨g,q1,q2⟩:=q
  refine thn (ho pins s2 σ H H2 A2 x y v u (fun z H'=>Same H H'∧Rep X.K H' r0.d z) r1 r2 r I2 R2.mu g rx ry q1 q2 e3 fun z H' g'=>h3 z H' (g.trans g')) fun cc s3 ⟨z,H3,I3,r3,g3,q3⟩=>?_
  have e:(match r0.d with | .bl b=>some b | _=>none)=some b':=e
  split at e
  ·rename_i b2 z2
   cases e
   rw [z2]at q3
   cases q3
   cases r3
   exact wpAny_truthy_bool ⟨H3,I3,h H3 g3⟩
  ·cases e
theorem zy9 (ha:PT X a (dT X.K F ft)):PW X (.BoolOp .And [a] pos) (dT X.K F ft):=pw_and1 ha
theorem zt6 (ha:PT X a (dT X.K F ft)):PW X (.BoolOp .Or [a] pos) (dT X.K F ft):=pw_or1 ha
theorem zag1 (ha:PT X a (dT X.K F ft)) (hb:PW X (.BoolOp .And (b::rest) pos) (dT X.K F fu)):PW X (.BoolOp .And (a::b::rest) pos) (dT X.K F (dAnd ft fu)):=by
 refine PW.imp (pw_and ha hb) ?_
 rintro σ H Q ⟨A,t,r,R,e,h⟩
 unfold dAnd at e
 cases e1:ft t with
 |none=>rw [e1]at e;cases e
 |some r1 =>
  rw [e1]at e
  refine⟨A,t,r1,R,e1,fun H1 g1=>?_⟩
  cases r1 with
  |true=>exact⟨A,t,r,R.grow g1,e,fun H2 g2=>h H2 (g1.trans g2)⟩
  |false=>cases e;exact h H1 g1
theorem zx9 (ha:PT X a (dT X.K F ft)) (hb:PW X (.BoolOp .Or (b::rest) pos) (dT X.K F fu)):PW X (.BoolOp .Or (a::b::rest) pos) (dT X.K F (dOr ft fu)):=by
 refine PW.imp (pw_or ha hb) ?_
 rintro σ H Q ⟨A,t,r,R,e,h⟩
 unfold dOr at e
 cases e1:ft t with
 |none=>rw [e1]at e;cases e
 |some r1 =>
  rw [e1]at e
  refine⟨A,t,r1,R,e1,fun H1 g1=>?_⟩
  cases r1 with
  |true=>cases e;exact h H1 g1
  |false=>exact⟨A,t,r,R.grow g1,e,fun H2 g2=>h H2 (g1.trans g2)⟩
theorem zaa6 (ha:PT X a (dT X.K F ft)):PT X (.UnaryOp .Not a pos) (dT X.K F (dNot ft)):=by
 refine PT.imp (pt_not ha) ?_
 rintro σ H Q ⟨A,t,r,R,e,h⟩
 unfold dNot at e
 cases e1:ft t with
 |none=>rw [e1]at e;cases e
 |some r1 =>
  rw [e1]at e
  cases e
  exact⟨A,t,r1,R,e1,fun H1 g1=>h H1 g1⟩
noncomputable def zas5 (f g:DE):DE:=fun t=>(f t).bind fun r=>match r.d with
 |.bl b=>if b then g t else some (.cl (.bl false))
 |_=>none
theorem zbe4 {op} (h:PE X a (dE X.K F fa)):PE X (.BoolOp op [a] pos) (dE X.K F fa):=pe_one h
theorem zaq4 (ha:PE X a (dE X.K F fa)) (hb:PE X (.BoolOp .And (b::rest) pos) (dE X.K F fb)):PE X (.BoolOp .And (a::b::rest) pos) (dE X.K F (zas5 fa fb)):=by
 refine PE.imp (pe_and ha hb) ?_
 rintro σ H Q ⟨A,t,r,R,e,h⟩
 unfold zas5 at e
 cases e1:fa t with
 |none=>rw [e1]at e;cases e
 |some r1 =>
  rw [e1]at e
  refine⟨A,t,r1,R,e1,fun v H1 g1 q1=>?_⟩
  have p:=q1.full
  have e:(match r1.d with | .bl b=>if b then fb t else some (.cl (.bl false)) |_=>none)=some r:=e
  split at e
  ·rename_i b2 z
   rw [z]at p
   cases p
   refine⟨b2,rfl,?_⟩
   cases b2 with
   |true=>exact⟨A,t,r,R.grow g1,e,fun v2 H2 g2 q2=>h v2 H2 (g1.trans g2) (q2.back g1)⟩
   |false=>cases e;exact h _ H1 g1 (.bl false)
  ·cases e
end
inductive Out where
 |nx (t:Th) |rt (r:Ev) |bk (t:Th) |ct (t:Th)
noncomputable abbrev DS:=Th→Option Out
noncomputable def After (K:zbm7) (F A:List Addr) (H:Hp) (N:L2.St→Hp→Prop) (t:Th):Prop := ∀σ' H' A',Gr A H A' H'→RS K F H' A' t σ'→N σ' H'
noncomputable def RetEv (K:zbm7) (F A:List Addr) (H H':Hp):Ev→V→Prop
 |.cl d,v=>Rep K (hide F H') d v
 |.tm d,v=>Rep K (hide F H') d v
 |.nw xs,v => ∃p vs,v=.ref p∧(p∈A∨H p=none)∧p∉F∧H' p=some (.lst vs)∧Reps K (hide (p::F) H') xs vs
 |.dn d,v => ∃B,B.Nodup∧(∀b∈B,(b∈A∨H b=none)∧b∉F)∧RepD K (hide (B++F) H') H' d v B
noncomputable def Back (K:zbm7) (F A:List Addr) (H:Hp) (N:VK) (r:Ev):Prop := ∀v H' A',Gr A H A' H'→RetEv K F A H H' r v→N v H'
noncomputable def dS (K:zbm7) (F:List Addr) (g:DS):TS:=fun E σ H => ∃A t o,RS K F H A t σ∧g t=some o∧match o with
 |.nx t'=>After K F A H E.nx t'
 |.bk t'=>After K F A H E.bk t'
 |.ct t'=>After K F A H E.ct t'
 |.rt r=>Back K F A H E.rt r
end DL
namespace DL
open PySem.Spec L2
theorem RetEv.back {K:zbm7}{F A A1:List Addr}{H H1 H':Hp}{r:Ev}{v:V} (g:Gr A H A1 H1) (h:RetEv K F A1 H1 H' r v):RetEv K F A H H' r v:=by
 cases r with
 |cl d=>exact h
 |tm d=>exact h
 |nw xs =>
  obtain⟨p,vs,rfl,h1,h2,h3,h4⟩:=h
  refine⟨p,vs,rfl,?_,h2,h3,h4⟩
  rcases h1 with h1 | h1
  ·exact g.nw p h1
  ·by_cases z:p∈A
   ·exact .inl z
   ·refine .inr ?_
    cases w:H p with
    |none=>rfl
    |some o=>rw [g.kp p o z w]at h1;cases h1
 |dn d =>
  obtain⟨B,h0,h1,h2⟩:=h
  refine⟨B,h0,fun p hp=>⟨?_,(h1 p hp).2⟩,h2⟩
  rcases (h1 p hp).1 with h1 | h1
  ·exact g.nw p h1
  ·by_cases z:p∈A
   ·exact .inl z
   ·refine .inr ?_
    cases w:H p with
    |none=>rfl
    |some o=>rw [g.kp p o z w]at h1;cases h1
theorem After.back {K:zbm7}{F A A1:List Addr}{H H1:Hp}{N:L2.St→Hp→Prop}{t:Th} (h:After K F A H N t) (g:Gr A H A1 H1):After K F A1 H1 N t:=fun σ' H' A' g' R=>h σ' H' A' (g.trans g') R
theorem Back.back {K:zbm7}{F A A1:List Addr}{H H1:Hp}{N:VK}{r:Ev} (h:Back K F A H N r) (g:Gr A H A1 H1):Back K F A1 H1 N r:=fun v H' A' g' R=>h v H' A' (g.trans g') (R.back g)
theorem PS.imp {X:Cx}{e:Stmt}{t t':TS} (h:PS X e t) (i:∀E σ H,t' E σ H→t E σ H):PS X e t':=fun pins s σ H D I q=>h pins s σ H D I (i D σ H q)
theorem PSs.imp {X:Cx}{e:List Stmt}{t t':TS} (h:PSs X e t) (i:∀E σ H,t' E σ H→t E σ H):PSs X e t':=fun pins s σ H D I q=>h pins s σ H D I (i D σ H q)
theorem Lists.left {H:Hp}{A F:List Addr} (h:Lists H (A++F)):Lists H A:=fun p hp=>h p (zbm8 _ hp)
noncomputable def zh4:DS:=fun t=>some (.nx t)
noncomputable def dSeq (g1 g2:DS):DS:=fun t=>(g1 t).bind fun o=>match o with
 |.nx t'=>g2 t'
 |.rt r=>some (.rt r)
 |.bk t'=>some (.bk t')
 |.ct t'=>some (.ct t')
section
variable {X:Cx}{F:List Addr}{a b c:Expr}{es:List Expr}{fa fb fc:DE}{g g1 g2:DS}{ft fu:DT}{pos:Pos}{st:Stmt}{rest:List Stmt}
theorem zd9:PSs X [] (dS X.K F zh4):=PSs.imp pss_nil fun E σ H ⟨A,t,o,R,e,h⟩=>by cases e;exact h σ H A (Gr.refl R.mu.left) R
theorem za4 (h1:PS X st (dS X.K F g1)) (h2:PSs X rest (dS X.K F g2)):PSs X (st::rest) (dS X.K F (dSeq g1 g2)):=by
 refine PSs.imp (pss_cons h1 h2) ?_
 rintro E σ H ⟨A,t,o,R,e,h⟩
 unfold dSeq at e
 cases e1:g1 t with
 |none=>rw [e1]at e;cases e
 |some o1 =>
  rw [e1]at e
  refine⟨A,t,o1,R,e1,?_⟩
  cases o1 with
  |nx t' =>
   intro σ' H' A' g' R'
   refine⟨A',t',o,R',e,?_⟩
   cases o with
   |nx t2=>exact After.back h g'
   |bk t2=>exact After.back h g'
   |ct t2=>exact After.back h g'
   |rt r=>exact Back.back h g'
  |rt r=>cases e;exact h
  |bk t2=>cases e;exact h
  |ct t2=>cases e;exact h
theorem zb0 (h1:PS X st (dS X.K F g1)):PSs X [st] (dS X.K F g1):=pss_one h1
noncomputable def dIfS (c:DT) (g1 g2:DS):DS:=fun t=>(c t).bind fun b=>if b then g1 t else g2 t
theorem zf6 {s1 s2:List Stmt} (hc:PT X c (dT X.K F ft)) (ha:PSs X s1 (dS X.K F g1)) (hb:PSs X s2 (dS X.K F g2)):PS X (.If c s1 s2 pos) (dS X.K F (dIfS ft g1 g2)):=by
 refine PS.imp (ps_if hc ha hb) ?_
 rintro E σ H ⟨A,t,o,R,e,h⟩
 unfold dIfS at e
 cases e1:ft t with
 |none=>rw [e1]at e;cases e
 |some r1 =>
  rw [e1]at e
  refine⟨A,t,r1,R,e1,fun H1 gs=>?_⟩
  have gr:Gr A H A H1:=Gr.of_same R.mu.left gs
  cases r1 with
  |true =>
   refine⟨A,t,o,R.grow gs,e,?_⟩
   cases o with
   |nx t2=>exact After.back h gr
   |bk t2=>exact After.back h gr
   |ct t2=>exact After.back h gr
   |rt r=>exact Back.back h gr
  |false =>
   refine⟨A,t,o,R.grow gs,e,?_⟩
   cases o with
   |nx t2=>exact After.back h gr
   |bk t2=>exact After.back h gr
   |ct t2=>exact After.back h gr
   |rt r=>exact Back.back h gr
noncomputable def dRet (f:DE):DS:=fun t=>(f t).bind fun r=>some (.rt r)
theorem RetEv.of {K:zbm7}{F A:List Addr}{H H':Hp}{r:Ev}{v:V} (m:Lists H (A++F)) (h:RepEv K F A H H' r v):RetEv K F A H H' r v:=by
 cases r with
 |cl d=>exact Rep.mono (zb5 H' fun a z=>zbm6 _ z) h
 |tm d=>exact h
 |nw xs =>
  obtain⟨p,vs,rfl,h1,h2,h3⟩:=h
  have np:p∉A++F:=zd5 m h1
  refine⟨p,vs,rfl,.inr h1,fun z=>np (zbm6 _ z),h2,Reps.mono (zb5 H' fun a z=>?_) h3⟩
  rcases zbn5.mp z with z | z
  ·rw [z];exact zbn1 ..
  ·exact zbm9 _ (zbm6 _ z)
 |dn d =>
  obtain⟨B,h1,h2,h3⟩:=h
  refine⟨B,h1,fun b hb=>⟨.inr (h2 b hb),fun z=>zd5 m (h2 b hb) (zbm6 _ z)⟩,RepD.mono (zb5 H' fun a z=>?_) h3 fun _ _ _ q=>q⟩
  rcases zbn2.mp z with z | z
  ·exact zbm8 _ z
  ·exact zbm6 _ (zbm6 _ z)
theorem ze1 (ha:PE X a (dE X.K F fa)):PS X (.Return (some a) pos) (dS X.K F (dRet fa)):=by
 refine PS.imp (zbd5 ha) ?_
 rintro E σ H ⟨A,t,o,R,e,h⟩
 unfold dRet at e
 cases e1:fa t with
 |none=>rw [e1]at e;cases e
 |some r1 =>
  rw [e1]at e
  cases e
  exact⟨A,t,r1,R,e1,fun v H' gs q=>h v H' A (Gr.of_same R.mu.left gs) (RetEv.of R.mu q)⟩
noncomputable def zad5 (i:Nat):DS:=fun t=>match t[i]? with
 |some (.own xs)=>some (.rt (.nw xs))
 |some (.val d)=>some (.rt (.cl d))
 |some (.dp d)=>some (.rt (.dn d))
 |_=>none
theorem zn1 (i:Nat) {x:Str}{pos':Pos} (hN:X.N[i]?=some x:=by rfl) (hv:Vis X.env.scope x:=by first | exact Or.inl rfl | exact Or.inr (Or.inl rfl) |exact Or.inr (Or.inr rfl)) (hd:(x ==("__debug__":Str))=false:=by decide)
  (hcd:(x ==("__classdict__":Str))=false:=by decide):PS X (.Return (some (.Name x pos')) pos) (dS X.K F (zad5 i)):=by
 refine PS.imp (zbd5 (zq7 (i:=i) hN hv hd hcd)) ?_
 rintro E σ H ⟨A,t,o,R,e,h⟩
 unfold zad5 at e
 split at e
 ·rename_i ds q
  cases e
  obtain⟨p,vs,h1,h2,h3,h4⟩:=R.rel.getOwn q
  refine⟨_,h1,h _ H A (Gr.refl R.mu.left) ⟨p,vs,rfl,.inl h2,R.dj p h2,h3,Reps.mono (zb5 H fun a z=>?_) h4⟩⟩
  rcases zbn5.mp z with z | z
  ·rw [z];exact zbm8 _ h2
  ·exact zbm6 _ z
 ·rename_i d q
  cases e
  obtain⟨v,h1,h2⟩:=R.rel.getVal q
  exact⟨v,h1,h v H A (Gr.refl R.mu.left) (Rep.mono (zb5 H fun a z=>zbm6 _ z) h2)⟩
 ·rename_i d q
  cases e
  obtain⟨v,B,h1,h2,h0,h3⟩:=R.rel.getDp R.nd q
  refine⟨v,h1,h v H A (Gr.refl R.mu.left) ⟨B,h0,fun b hb=>⟨.inl (h2 b hb),R.dj b (h2 b hb)⟩,RepD.mono (zb5 H fun a z=>?_) h3 fun _ _ _ q=>q⟩⟩
  rcases zbn2.mp z with z | z
  ·exact zbm8 _ (h2 a z)
  ·exact zbm6 _ z
 ·cases e
end
theorem RSl.setVal {K:zbm7}{H0 H:Hp}{d:D}{v:V} (h:Rep K H0 d v):∀ {t:Th}{σ:L2.St}{A:List Addr} (i:Nat),RSl K H0 H t σ A→i<t.length→∃A',RSl K H0 H (t.set i (.val d)) (σ.set i (some v)) A'∧List.Sublist A' A
 |_,_,_,_,.nil,l=>by simp at l
 |_,_,_,0,.no r,_=>⟨_,.val h r,List.Sublist.refl _⟩
 |_,_,_,0,.val _ r,_=>⟨_,.val h r,List.Sublist.refl _⟩
 |_,_,_,0,.own _ _ r,_=>⟨_,.val h r,zbz2 _ _⟩
 |_,_,_,0,.dp _ r,_=>⟨_,.val h r,zbx7 _ _⟩
 |_,_,_,i+1,.no r,l=>let ⟨A',a,b⟩:=RSl.setVal h i r (by simpa using l);⟨A',.no a,b⟩
 |_,_,_,i+1,.val q r,l=>let ⟨A',a,b⟩:=RSl.setVal h i r (by simpa using l);⟨A',.val q a,b⟩
 |_,_,_,i+1,.own q1 q2 r,l=>let ⟨A',a,b⟩:=RSl.setVal h i r (by simpa using l);⟨_,.own q1 q2 a,b.cons₂ _⟩
 |_,_,_,i+1,.dp q r,l=>let ⟨A',a,b⟩:=RSl.setVal h i r (by simpa using l);⟨_,.dp q a,List.Sublist.append (List.Sublist.refl _) b⟩
theorem RSl.setAny {K:zbm7}{H0 H:Hp}{s:Sl}{v:V}{B:List Addr} (h:∀ {t:Th}{σ:L2.St}{A:List Addr},RSl K H0 H t σ A→RSl K H0 H (s::t) (some v::σ) (B++A)):∀ {t:Th}{σ:L2.St}{A:List Addr} (i:Nat),RSl K H0 H t σ A→i<t.length →
  ∃A',RSl K H0 H (t.set i s) (σ.set i (some v)) A'∧(∀x∈A',x∈B∨x∈A)∧(A.Nodup→B.Nodup→(∀b∈B,b∉A)→A'.Nodup)
 |_,_,_,_,.nil,l=>by simp at l
 |_,_,A,0,.no r,_=>⟨_,h r,fun x hx=>zbn2.mp hx,fun n1 n2 d=>zbo5.mpr ⟨n2,n1,fun a ha b hb e=>d a ha (e ▸ hb)⟩⟩
 |_,_,A,0,.val _ r,_=>⟨_,h r,fun x hx=>zbn2.mp hx,fun n1 n2 d=>zbo5.mpr ⟨n2,n1,fun a ha b hb e=>d a ha (e ▸ hb)⟩⟩
 |_,_,_,0,.own _ _ r,_=>⟨_,h r,fun x hx=>(zbn2.mp hx).imp id (zbm9 _),fun n1 n2 d=>zbo5.mpr ⟨n2,(zbo9.mp n1).2,fun a ha b hb e=>d a ha (e ▸ zbm9 _ hb)⟩⟩
 |_,_,_,0,.dp _ r,_=>⟨_,h r,fun x hx=>(zbn2.mp hx).imp id (zbm6 _),fun n1 n2 d=>zbo5.mpr ⟨n2,(zbo5.mp n1).2.1,fun a ha b hb e=>d a ha (e ▸ zbm6 _ hb)⟩⟩
 |_,_,_,i+1,.no r,l=>let ⟨A',a,b,c⟩:=RSl.setAny h i r (by simpa using l);⟨A',.no a,b,c⟩
 |_,_,_,i+1,.val q r,l=>let ⟨A',a,b,c⟩:=RSl.setAny h i r (by simpa using l);⟨A',.val q a,b,c⟩
 |_,_,_,i+1,.own (p:=p2) q1 q2 r,l=>by
  obtain⟨A',a,b,c⟩:=RSl.setAny h i r (by simpa using l)
  refine⟨_,.own q1 q2 a,fun x hx=>?_,fun nd nb np=>?_⟩
  ·rcases zbn5.mp hx with z | z
   ·exact .inr (z ▸ zbn1 ..)
   ·exact (b x z).imp id (zbm9 _)
  ·have n1:=zbo9.mp nd
   refine zbo9.mpr ⟨fun z=>?_,c n1.2 nb fun x hx z=>np x hx (zbm9 _ z)⟩
   rcases b _ z with z | z
   ·exact np _ z (zbn1 ..)
   ·exact n1.1 z
 |_,_,_,i+1,.dp (B:=C) q r,l=>by
  obtain⟨A',a,b,c⟩:=RSl.setAny h i r (by simpa using l)
  refine⟨_,.dp q a,fun x hx=>?_,fun nd nb np=>?_⟩
  ·rcases zbn2.mp hx with z | z
   ·exact .inr (zbm8 _ z)
   ·exact (b x z).imp id (zbm6 _)
  ·have n1:=zbo5.mp nd
   refine zbo5.mpr ⟨n1.1,c n1.2.1 nb fun x hx z=>np x hx (zbm6 _ z),fun x hx y hy e=>?_⟩
   subst e
   rcases b _ hy with z | z
   ·exact np _ z (zbm8 _ hx)
   ·exact n1.2.2 _ hx _ z rfl
theorem RS.putAny {K:zbm7}{F A:List Addr}{H H':Hp}{t:Th}{σ:L2.St}{i:Nat}{s:Sl}{v:V}{B:List Addr} (R:RS K F H A t σ) (g:Same H H') (fr:∀b∈B,H b=none) (nb:B.Nodup) (lb:Lists H' B)
  (mk:∀ {t:Th}{σ:L2.St}{A':List Addr},RSl K (hide (B++(A++F)) H') H' t σ A'→RSl K (hide (B++(A++F)) H') H' (s::t) (some v::σ) (B++A')) (hi:i<t.length) :
  ∃A',Gr A H A' H'∧RS K F H' A' (t.set i s) (σ.set i (some v)):=by
 have R':=R.grow g
 have np:∀b∈B,b∉A++F:=fun b hb=>zd5 R.mu (fr b hb)
 have r0:RSl K (hide (B++(A++F)) H') H' t σ A:=RSl.mono (fun b o h=>by
  obtain⟨n,h⟩:=zk4 h
  refine zd1 (g _ _ h) fun z=>?_
  rcases zbn2.mp z with z | z
  ·rw [fr b z]at h;cases h
  ·exact n z) R.rel fun b _ o h=>g _ _ h
 obtain⟨A',r1,sub,nd⟩:=RSl.setAny mk i r0 hi
 refine⟨A',⟨fun b o _ h=>g b o h,fun b hb=>by obtain⟨ws,z⟩:=R.mu b (zbm8 _ hb);rw [g _ _ z];simp,fun b hb=>?_⟩,?_,nd R.nd nb fun b hb z=>np b hb (zbm8 _ z),fun b hb=>?_,?_⟩
 ·rcases sub b hb with z | z
  ·exact .inr (fr b z)
  ·exact .inl z
 ·intro b hb
  rcases zbn2.mp hb with z | z
  ·rcases sub b z with z | z
   ·exact lb b z
   ·exact R'.mu b (zbm8 _ z)
  ·exact R'.mu b (zbm6 _ z)
 ·rcases sub b hb with z | z
  ·exact fun w=>np b z (zbm6 _ w)
  ·exact R.dj b z
 ·refine RSl.mono (zb5 H' fun b z=>?_) r1 fun _ _ _ h=>h
  rcases zbn2.mp z with z | z
  ·rcases sub b z with z | z
   ·exact zbm8 _ z
   ·exact zbm6 _ (zbm8 _ z)
  ·exact zbm6 _ (zbm6 _ z)
noncomputable def zn9 (t:Th) (i:Nat) (r:Ev):Option Th:=if i<t.length then (match r with
 |.cl d=>some (t.set i (.val d))
 |.tm d=>if flat d then some (t.set i (.val d)) else none
 |.nw xs=>some (t.set i (.own xs))
 |.dn d=>some (t.set i (.dp d))) else none
theorem RS.put {K:zbm7}{F A:List Addr}{H H':Hp}{t t':Th}{σ:L2.St}{i:Nat}{r:Ev}{v:V} (R:RS K F H A t σ) (g:Same H H') (q:RepEv K F A H H' r v) (e:zn9 t i r=some t') :
  ∃A',Gr A H A' H'∧RS K F H' A' t' (σ.set i (some v)):=by
 have R':=R.grow g
 have val:∀d,Rep K (hide (A++F) H') d v→i<t.length→∃A',Gr A H A' H'∧RS K F H' A' (t.set i (.val d)) (σ.set i (some v)):=fun d hd hi=>by
  obtain⟨A',r1,sub⟩:=RSl.setVal hd i R'.rel hi
  have sub':∀x∈A',x∈A:=fun x hx=>sub.subset hx
  refine⟨A',⟨fun b o _ h=>g b o h,fun b hb=>by obtain⟨vs,z⟩:=R.mu b (zbm8 _ hb);rw [g _ _ z];simp,fun b hb=>.inl (sub' b hb)⟩,?_,R.nd.sublist sub,fun p hp=>R.dj p (sub' p hp),?_⟩
  ·intro p hp
   rcases zbn2.mp hp with z | z
   ·exact R'.mu p (zbm8 _ (sub' p z))
   ·exact R'.mu p (zbm6 _ z)
  ·refine RSl.mono (zb5 H' fun a z=>?_) r1 fun _ _ _ h=>h
   rcases zbn2.mp z with z | z
   ·exact zbm8 _ (sub' a z)
   ·exact zbm6 _ z
 unfold zn9 at e
 split at e
 case isFalse=>cases e
 rename_i hi
 cases r with
 |cl d=>cases e;exact val d q hi
 |tm d =>
  simp only at e
  split at e
  ·rename_i f
   cases e
   exact val d (Rep.hid R'.mu f (Rep.mono (zc2 _ _) q)) hi
  ·cases e
 |nw xs =>
  cases e
  obtain⟨p,vs,rfl,h1,h2,h3⟩:=q
  exact R.putAny (B:=[p]) g (fun b hb=>by simp at hb;subst hb;exact h1) (by simp) (fun b hb=>by simp at hb;subst hb;exact⟨mL vs,h2⟩) (fun r=>.own h2 h3 r) hi
 |dn d =>
  cases e
  obtain⟨B,h1,h2,h3⟩:=q
  exact R.putAny (B:=B) g h2 h1 h3.lists (fun r=>.dp h3 r) hi
section
variable {X:Cx}{F:List Addr}{a b c:Expr}{es:List Expr}{fa fb fc:DE}{g g1 g2:DS}{ft fu:DT}{pos:Pos}{st:Stmt}{rest:List Stmt}
noncomputable def dAsg (i:Nat) (f:DE):DS:=fun t=>(f t).bind fun r=>(zn9 t i r).map Out.nx
theorem zb1 {i:Nat}{x:Str}{pos':Pos} (hN:X.N.Nodup) (hi:X.N[i]?=some x) (hx:Loc X.env.scope x) (he:PE X a (dE X.K F fa)) (hs:swapsWith a (some (.Name x pos')) pos.line X.env=pure false:=by rfl) (hf:X.fn x=true∨X.env.scope.names.lookup x=some .local:=by first | exact .inl rfl | exact .inr rfl | assumption) :
  PS X (.Assign [.Name x pos'] a pos) (dS X.K F (dAsg i fa)):=by
 refine PS.imp (ps_set hN hi hx he hs hf) ?_
 rintro E σ H ⟨A,t,o,R,e,h⟩
 unfold dAsg at e
 cases e1:fa t with
 |none=>rw [e1]at e;cases e
 |some r1 =>
  rw [e1]at e
  have e:(zn9 t i r1).map Out.nx=some o:=e
  cases e2:zn9 t i r1 with
  |none=>rw [e2]at e;cases e
  |some t' =>
   rw [e2]at e
   cases e
   refine⟨A,t,r1,R,e1,fun v H' gs q=>?_⟩
   obtain⟨A',g',R'⟩:=R.put gs q e2
   exact h _ _ _ g' R'
end
end DL
namespace DL
open PySem.Spec L2
noncomputable def TgOk (K:zbm7) (F:List Addr) (g:TG) (k:D→Th→Option Th):Prop :=
 ∀σ H A t t' d x (Q:L2.St→Hp→Prop),RS K F H A t σ→Rep K (hide (A++F) H) d x→k d t=some t'→(∀σ2 A2,Gr A H A2 H→RS K F H A2 t' σ2→Q σ2 H)→g x σ H Q
noncomputable def zbm4 (K:zbm7) (F:List Addr) (g:TGs) (k:List D→Th→Option Th):Prop :=
 ∀σ H A t t' ds xs (Q:L2.St→Hp→Prop),RS K F H A t σ→Reps K (hide (A++F) H) ds xs→k ds t=some t'→(∀σ2 A2,Gr A H A2 H→RS K F H A2 t' σ2→Q σ2 H)→g xs σ H Q
noncomputable def za3 (i:Nat):D→Th→Option Th:=fun d t=>zn9 t i (.cl d)
noncomputable def zh3:List D→Th→Option Th:=fun ds t=>match ds with
 |[]=>some t
 |_=>none
noncomputable def zc0 (k:D→Th→Option Th) (k':List D→Th→Option Th):List D→Th→Option Th:=fun ds t=>match ds with
 |d::r=>(k d t).bind (k' r)
 |[]=>none
noncomputable def zh2 (n:Nat) (k:List D→Th→Option Th):D→Th→Option Th:=fun d t=>match d with
 |.tup ds=>if ds.length=n then k ds t else none
 |_=>none
theorem zb4 {K:zbm7}{F:List Addr} (i:Nat):TgOk K F (gName i) (za3 i):=by
 intro σ H A t t' d x Q R r e h
 obtain⟨A',g,R'⟩:=R.put (i:=i) (r:=.cl d) (Same.refl H) r e
 exact h _ _ g R'
theorem zp1 {K:zbm7}{F:List Addr}:zbm4 K F gNil zh3:=by
 intro σ H A t t' ds xs Q R r e h
 cases r with
 |nil=>cases e;exact⟨rfl,h σ A (Gr.refl R.mu.left) R⟩
 |cons _ _=>cases e
theorem zf1 {K:zbm7}{F:List Addr}{g:TG}{g':TGs}{k:D→Th→Option Th}{k':List D→Th→Option Th} (h1:TgOk K F g k) (h2:zbm4 K F g' k'):zbm4 K F (gCons g g') (zc0 k k'):=by
 intro σ H A t t' ds xs Q R r e h
 cases r with
 |nil=>cases e
 |@cons d v ds vs r1 r2 =>
  unfold zc0 at e
  cases e1:k d t with
  |none=>simp only [e1]at e;cases e
  |some t1 =>
   simp only [e1]at e
   refine⟨v,vs,rfl,h1 σ H A t t1 d v _ R r1 e1 fun σ2 A2 g2 R2=>?_⟩
   exact h2 σ2 H A2 t1 t' ds vs Q R2 (Reps.mono g2.same r2) e fun σ3 A3 g3 R3=>h σ3 A3 (g2.trans g3) R3
theorem zx8 {K:zbm7}{F:List Addr}{n:Nat}{g':TGs}{k':List D→Th→Option Th} (h2:zbm4 K F g' k'):TgOk K F (gTup K n g') (zh2 n k'):=by
 intro σ H A t t' d x Q R r e h
 unfold zh2 at e
 split at e
 ·rename_i ds
  split at e
  ·rename_i hl
   cases r with
   |@tup _ p vs h1 hr=>exact⟨p,vs,rfl,SqT.mono (zc2 _ _) h1,by rw [hr.length];exact hl,h2 σ H A t t' ds vs Q R hr e h⟩
  ·cases e
 ·cases e
noncomputable def zad6 (k:D→Th→Option Th) (f:DE):DS:=fun t=>(f t).bind fun r=>if r.ok then (k r.d t).map Out.nx else none
section
variable {X:Cx}{F:List Addr}{a b c:Expr}{es:List Expr}{fa fb fc:DE}{g g1 g2:DS}{ft fu:DT}{pos:Pos}{st:Stmt}{rest:List Stmt}{tg:Expr}{gt:TG}{kt:D→Th→Option Th}
theorem zaq0 (he:PE X a (dE X.K F fa)) (hg:PG X tg gt) (ht:TgOk X.K F gt kt) (hs:swapsWithSole [tg] a pos.line X.env=pure false:=by rfl) (hw:swappedStores [tg] a X.env=pure none:=by rfl)
  (h1:(assignEach [tg] X.env).map (·.2)=[assign tg X.env]:=by rfl):PS X (.Assign [tg] a pos) (dS X.K F (zad6 kt fa)):=by
 refine PS.imp (zav4 he hg hs hw h1) ?_
 rintro E σ H ⟨A,t,o,R,e,h⟩
 unfold zad6 at e
 cases e1:fa t with
 |none=>rw [e1]at e;cases e
 |some r1 =>
  rw [e1]at e
  have e:(if r1.ok then (kt r1.d t).map Out.nx else none)=some o:=e
  split at e
  case isFalse=>cases e
  rename_i ok
  cases e2:kt r1.d t with
  |none=>rw [e2]at e;cases e
  |some t' =>
   rw [e2]at e
   cases e
   refine⟨A,t,r1,R,e1,fun v H' gs q=>?_⟩
   exact ht σ H' A t t' r1.d v E.nx (R.grow gs) (q.clean R.mu gs ok) e2 fun σ2 A2 g2 R2=>h σ2 H' A2 ((Gr.of_same R.mu.left gs).trans g2) R2
noncomputable def kPar (t:Th) (i j:Nat):List Ev→Option Out
 |[r1,r2]=>if r1.ok&&r2.ok then ((zn9 t i (.cl r1.d)).bind fun t1=>zn9 t1 j (.cl r2.d)).map Out.nx else none
 |_=>none
noncomputable def dPar (i j:Nat) (f:DA):DS:=fun t=>(f t).bind (kPar t i j)
theorem psd_par {i j:Nat}{x y:Str}{ga:DA}{px py pt:Pos}{kt k2 pt2} (hc:X.calm=true) (hN:X.N.Nodup) (hi:X.N[i]?=some x) (hj:X.N[j]?=some y) (hij:i≠j)
  (hx:X.env.scope.names.lookup x=some .local) (hy:X.env.scope.names.lookup y=some .local) (ha:PA X [a,b] (dA X.K F ga))
  (hw:swappedStores [.Tuple [.Name x px,.Name y py] kt pt] (.Tuple [a,b] k2 pt2) X.env=pure (some [x,y]))
  (hs:swapsWithSole [.Tuple [.Name x px,.Name y py] kt pt] (.Tuple [a,b] k2 pt2) pos.line X.env=pure false:=by rfl) :
  PS X (.Assign [.Tuple [.Name x px,.Name y py] kt pt] (.Tuple [a,b] k2 pt2) pos) (dS X.K F (dPar i j ga)):=by
 refine PS.imp (ps_par hc hN hi hj hij hx hy ha hw hs) ?_
 rintro E σ H ⟨A,t,o,R,e,h⟩
 unfold dPar at e
 cases e1:ga t with
 |none=>rw [e1]at e;cases e
 |some rs =>
  rw [e1]at e
  refine⟨A,t,rs,R,e1,fun vs H' gs q=>?_⟩
  have e:kPar t i j rs=some o:=e
  cases q with
  |nil=>cases e
  |@cons r1 _ _ _ q1 q' =>
   cases q' with
   |nil=>cases e
   |@cons r2 _ _ _ q2 q3 =>
   cases q3 with
   |cons _ _=>cases e
   |nil =>
    simp only [kPar]at e
    split at e
    case isFalse=>cases e
    rename_i ok
    simp only [zbo2]at ok
    refine⟨_,_,rfl,?_⟩
    cases e2:zn9 t i (.cl r1.d) with
    |none=>rw [e2]at e;cases e
    |some t1 =>
     rw [e2]at e
     have e:(zn9 t1 j (.cl r2.d)).map Out.nx=some o:=e
     cases e3:zn9 t1 j (.cl r2.d) with
     |none=>rw [e3]at e;cases e
     |some t2 =>
      rw [e3]at e
      cases e
      have c2:=q2.clean R.mu gs ok.2
      obtain⟨A1,g1,R1⟩:=(R.grow gs).put (i:=i) (r:=.cl r1.d) (Same.refl H') (q1.clean R.mu gs ok.1) e2
      obtain⟨A2,g2,R2⟩:=R1.put (i:=j) (r:=.cl r2.d) (Same.refl H') (Rep.mono g1.same c2) e3
      exact h _ _ _ (((Gr.of_same R.mu.left gs).trans g1).trans g2) R2
end
noncomputable def forD (k:D→Th→Option Th) (body:DS):List D→Th→Option Out
 |[],t=>some (.nx t)
 |d::ds,t=>(k d t).bind fun t1=>(body t1).bind fun o=>match o with
  |.nx t'=>forD k body ds t'
  |.ct t'=>forD k body ds t'
  |.bk t'=>some (.nx t')
  |.rt r=>some (.rt r)
noncomputable def whD (c:DT) (body:DS):Nat→Th→Option Out
 |0,_=>none
 |n+1,t=>(c t).bind fun b=>if b then (body t).bind fun o=>match o with
  |.nx t'=>whD c body n t'
  |.ct t'=>whD c body n t'
  |.bk t'=>some (.nx t')
  |.rt r=>some (.rt r) else some (.nx t)
noncomputable def zs0 (fu:Th→Nat) (c:DT) (body:DS):DS:=fun t=>whD c body (fu t) t
noncomputable def Post (K:zbm7) (F A:List Addr) (H:Hp) (E:Ends):Out→Prop
 |.nx t'=>After K F A H E.nx t'
 |.bk t'=>After K F A H E.bk t'
 |.ct t'=>After K F A H E.ct t'
 |.rt r=>Back K F A H E.rt r
theorem Post.back {K:zbm7}{F A A1:List Addr}{H H1:Hp}{E:Ends}{o:Out} (h:Post K F A H E o) (g:Gr A H A1 H1):Post K F A1 H1 E o:=by
 cases o with
 |nx t2=>exact After.back h g
 |bk t2=>exact After.back h g
 |ct t2=>exact After.back h g
 |rt r=>exact Back.back h g
theorem zbj1 {K:zbm7}{F A:List Addr}{g:DS}{E:Ends}{σ:L2.St}{H:Hp}{t:Th}{o:Out} (R:RS K F H A t σ) (e:g t=some o) (p:Post K F A H E o):dS K F g E σ H:=⟨A,t,o,R,e,by cases o<;>exact p⟩
theorem zba4 {K:zbm7}{F:List Addr}{g:DS}{E:Ends}{σ:L2.St}{H:Hp} (h:dS K F g E σ H):∃A t o,RS K F H A t σ∧g t=some o∧Post K F A H E o:=by
 obtain⟨A,t,o,R,e,h⟩:=h
 exact⟨A,t,o,R,e,by cases o<;>exact h⟩
section
variable {X:Cx}{F:List Addr}{a b c:Expr}{es:List Expr}{fa fb fc:DE}{g g1 g2:DS}{ft fu:DT}{pos:Pos}{st:Stmt}{rest:List Stmt}{tg:Expr}{gt:TG}{kt:D→Th→Option Th}
theorem zr0 {body:List Stmt} (m:Th→Nat) (hp:PassesOwn (model X.prog X.w) X.A X.env X.xe) (hc:PT X c (dT X.K F ft)) (hb:PSs X body (dS X.K F g)):PS X (.While c body [] pos) (dS X.K F (zs0 m ft g)):=by
 refine PS.imp (ps_while hp hc hb) ?_
 intro E σ H hh
 obtain⟨A,t,o,R,e,h⟩:=zba4 hh
 refine⟨fun n σ H => ∃A t o,whD ft g n t=some o∧RS X.K F H A t σ∧Post X.K F A H E o,⟨m t,A,t,o,e,R,h⟩,?_⟩
 rintro n σ H ⟨A,t,o,e,R,h⟩
 cases n with
 |zero=>cases e
 |succ n =>
  simp only [whD]at e
  cases e1:ft t with
  |none=>rw [e1]at e;cases e
  |some b =>
   rw [e1]at e
   refine⟨A,t,b,R,e1,fun H1 gs=>?_⟩
   have gr:Gr A H A H1:=Gr.of_same R.mu.left gs
   cases b with
   |false =>
    have e:some (Out.nx t)=some o:=e
    cases e
    exact iteF (h σ H1 A gr (R.grow gs))
   |true =>
    have e:((g t).bind fun o=>match o with
     |.nx t'=>whD ft g n t'
     |.ct t'=>whD ft g n t'
     |.bk t'=>some (.nx t')
     |.rt r=>some (.rt r))=some o:=e
    refine iteT ⟨fun σ' H' => ∃A t o,whD ft g n t=some o∧RS X.K F H' A t σ'∧Post X.K F A H' E o,fun σ' H' q=>⟨n,zbs1 n,q⟩,?_⟩
    cases e2:g t with
    |none=>rw [e2]at e;cases e
    |some o2 =>
     rw [e2]at e
     refine zbj1 (R.grow gs) e2 ?_
     cases o2 with
     |nx t'=>exact fun σ' H' A' g' R'=>⟨A',t',o,e,R',h.back (gr.trans g')⟩
     |ct t'=>exact fun σ' H' A' g' R'=>⟨A',t',o,e,R',h.back (gr.trans g')⟩
     |bk t'=>cases e;exact fun σ' H' A' g' R'=>h σ' H' A' (gr.trans g') R'
     |rt r=>cases e;exact Back.back h gr
theorem zaw6 {K:zbm7}{J:It}{ds:List D}{E:Ends}{σ:L2.St}{H:Hp}{A:List Addr}{t:Th}{o:Out} (Good:List Addr→Hp→Prop) (ht:TgOk K F gt kt) (R:RS K F H A t σ) (e:forD kt g ds t=some o) (h:Post K F A H E o) (g0:Good A H)
  (keep:∀A H A' H',Good A H→Gr A H A' H'→Good A' H') (stop:∀A H,Good A H→J.stop ds.length H) (go:∀A H i,Good A H→i<ds.length→J.go i H)
  (yld:∀A H i x H',Good A H→Lists H (A++F)→J.yld i H x H'→i<ds.length→Same H H'∧∃d,ds[i]?=some d∧Rep K (hide (A++F) H') d x) :
  ∃W:Nat→Nat→L2.St→Hp→Prop,(∃m,W 0 m σ H)∧∀i m σ H,W i m σ H →
   (J.stop i H∧E.nx σ H)∨(J.go i H∧∃N:L2.St→Hp→Prop,(∀σ' H',N σ' H'→∃m',m' < m∧W (i+1) m' σ' H')∧∀x H',J.yld i H x H'→gt x σ H' fun σ2 H2=>dS K F g { E with nx:=N,ct:=N,bk:=E.nx } σ2 H2):=by
 refine⟨fun i m σ H=>i+m=ds.length∧∃A t o,forD kt g (ds.drop i) t=some o∧RS K F H A t σ∧Post K F A H E o∧Good A H,⟨ds.length,by lia,A,t,o,by simpa using e,R,h,g0⟩,?_⟩
 rintro i m σ H ⟨hm,A,t,o,e,R,h,gd⟩
 cases m with
 |zero =>
  have z:i=ds.length:=by lia
  subst z
  rw [zbw4]at e
  cases e
  exact .inl ⟨stop A H gd,h σ H A (Gr.refl R.mu.left) R⟩
 |succ m =>
  have hi:i<ds.length:=by lia
  refine .inr ⟨go A H i gd hi,fun σ' H'=>i+1+m=ds.length∧∃A t o,forD kt g (ds.drop (i+1)) t=some o∧RS K F H' A t σ'∧Post K F A H' E o∧Good A H',fun σ' H' q=>⟨m,zbs1 m,q⟩,fun x H' y=>?_⟩
  obtain⟨gs,d,hd,rd⟩:=yld A H i x H' gd R.mu y hi
  have ed:ds.drop i=d::ds.drop (i+1):=by
   have hd':ds[i]=d:=by
    rw [zbn9 hi]at hd
    exact Option.some.inj hd
   rw [← hd']
   exact zbp1 hi
  rw [ed]at e
  simp only [forD]at e
  cases e1:kt d t with
  |none=>rw [e1]at e;cases e
  |some t1 =>
   rw [e1]at e
   refine ht σ H' A t t1 d x _ (R.grow gs) rd e1 fun σ2 A2 gr3 R2=>?_
   have gr2:Gr A H A2 H':=(Gr.of_same R.mu.left gs).trans gr3
   have e:((g t1).bind fun o=>match o with
     |.nx t'=>forD kt g (ds.drop (i+1)) t'
     |.ct t'=>forD kt g (ds.drop (i+1)) t'
     |.bk t'=>some (.nx t')
     |.rt r=>some (.rt r))=some o:=e
   cases e2:g t1 with
   |none=>rw [e2]at e;cases e
   |some o2 =>
    rw [e2]at e
    refine zbj1 R2 e2 ?_
    cases o2 with
    |nx t'=>exact fun σ' H' A' g' R'=>⟨by lia,A',t',o,e,R',h.back (gr2.trans g'),keep _ _ _ _ gd (gr2.trans g')⟩
    |ct t'=>exact fun σ' H' A' g' R'=>⟨by lia,A',t',o,e,R',h.back (gr2.trans g'),keep _ _ _ _ gd (gr2.trans g')⟩
    |bk t'=>cases e;exact fun σ' H' A' g' R'=>h σ' H' A' (gr2.trans g') R'
    |rt r=>cases e;exact Back.back h gr2
noncomputable def dFor (k:D→Th→Option Th) (f:DE) (body:DS):DS:=fun t=>(f t).bind fun r=>match r.d with
 |.lst ds=>if r.ok then forD k body ds t else none
 |_=>none
theorem zr1 {body:List Stmt} (hp:PassesOwn (model X.prog X.w) X.A X.env X.xe) (hc:X.calm=true) (hl:PE X a (dE X.K F fa)) (hg:PG X tg gt) (ht:TgOk X.K F gt kt) (hb:PSs X body (dS X.K F g))
  (hs:∀x,foldedSetIterable a X.env x=pure x:=by intro _;rfl):PS X (.For tg a body [] pos) (dS X.K F (dFor kt fa g)):=by
 refine PS.imp (zbd6 hp hc (zbe2 hl) hg hb hs) ?_
 intro E σ H hh
 obtain⟨A,t,o,R,e,h⟩:=zba4 hh
 unfold dFor at e
 cases e1:fa t with
 |none=>rw [e1]at e;cases e
 |some r =>
  rw [e1]at e
  refine⟨A,t,r,R,e1,fun v H1 gs q=>?_⟩
  have e:(match r.d with
   |.lst ds=>if r.ok then forD kt g ds t else none
   |_=>none)=some o:=e
  split at e
  case h_2=>cases e
  rename_i ds z
  split at e
  case isFalse=>cases e
  rename_i ok
  have cl:=q.clean R.mu gs ok
  rw [z]at cl
  cases cl with
  |@lst _ p vs h1 h2 =>
   refine⟨p,rfl,⟨vs,SqL.mono (zc2 _ _) h1⟩,?_⟩
   refine zaw6 (fun A H=>SqL X.K (hide (A++F) H) p vs∧Reps X.K (hide (A++F) H) ds vs) ht (R.grow gs) e (h.back (Gr.of_same R.mu.left gs)) ⟨h1,h2⟩ (fun A H A' H' q gr=>⟨SqL.mono gr.same q.1,Reps.mono gr.same q.2⟩)
    (fun A H q=>⟨vs,SqL.mono (zc2 _ _) q.1,by rw [h2.length];exact zbp4 _⟩) (fun A H i q hi=>?_) (fun A H i x H' q _ y hi=>?_)
   ·have hi':i<vs.length:=by rw [h2.length];exact hi
    exact⟨vs,vs[i],SqL.mono (zc2 _ _) q.1,zbn9 hi'⟩
   ·obtain⟨e1,e2⟩:=y
    have z:=e2 vs (SqL.mono (zc2 _ _) q.1)
    subst e1
    exact⟨Same.refl _,q.2.getV z⟩
noncomputable def rngD (lo:Int) (n:Nat):List D:=(zbp2 n).map fun (i:Nat)=>D.int (lo+(i:Int))
noncomputable def bigI (i:Int):Bool:=decide (-1000000000000≤i∧i≤1000000000000)
noncomputable def zi3 (k:D→Th→Option Th) (f:DE) (body:DS):DS:=fun t=>(f t).bind fun r=>match r.d with
 |.int n=>if bigI n then forD k body (rngD 0 n.toNat) t else none
 |_=>none
noncomputable def zba5 (k:D→Th→Option Th) (f f':DE) (body:DS):DS:=fun t=>(f t).bind fun r=>(f' t).bind fun r'=>match r.d,r'.d with
 |.int lo,.int n=>if bigI n&&bigI lo then forD k body (rngD lo (n - lo).toNat) t else none
 |_,_=>none
theorem zx0 (lo:Int) (n:Nat):(rngD lo n).length=n:=by simp [rngD]
theorem zau6 {K:zbm7}{lo:Int}{n:Nat}{E:Ends}{σ:L2.St}{H:Hp}{A:List Addr}{t:Th}{o:Out} (ht:TgOk K F gt kt) (R:RS K F H A t σ) (e:forD kt g (rngD lo n) t=some o) (h:Post K F A H E o) :
  ∃W:Nat→Nat→L2.St→Hp→Prop,(∃m,W 0 m σ H)∧∀i m σ H,W i m σ H →
   ((Itr lo n).stop i H∧E.nx σ H)∨((Itr lo n).go i H∧∃N:L2.St→Hp→Prop,(∀σ' H',N σ' H'→∃m',m' < m∧W (i+1) m' σ' H')∧∀x H',(Itr lo n).yld i H x H'→gt x σ H' fun σ2 H2=>dS K F g { E with nx:=N,ct:=N,bk:=E.nx } σ2 H2):=by
 refine zaw6 (fun _ _=>True) ht R e h trivial (fun _ _ _ _ _ _=>trivial) (fun A H _=>?_) (fun A H i _ hi=>?_) (fun A H i x H' _ _ y hi=>?_)
 ·rw [zx0];exact zbp4 n
 ·rw [zx0]at hi;exact hi
 ·rw [zx0]at hi
  obtain⟨e1,e2⟩:=y
  subst e1
  refine⟨Same.refl _,.int (lo+i),by simp [rngD,hi],?_⟩
  rw [e2];exact .int _
theorem zh6 {body:List Stmt}{p1 p2:Pos} (hp:PassesOwn (model X.prog X.w) X.A X.env X.xe) (hc:X.calm=true) (hgr:Gl X "range") (hm:X.mg "range"=none) (ha:PE X a (dE X.K F fa)) (hg:PG X tg gt) (ht:TgOk X.K F gt kt) (hb:PSs X body (dS X.K F g))
  (hst:zbo8 [a] X.env=[(false,eval a X.env)]:=by rfl) (hs:∀x,foldedSetIterable (.Call (.Name "range" p1) [a] [] p2) X.env x=pure x:=by intro _;rfl):PS X (.For tg (.Call (.Name "range" p1) [a] [] p2) body [] pos) (dS X.K F (zi3 kt fa g)):=by
 refine PS.imp (zbd6 hp hc (zak6 hgr hm (zh0 ha zm1 hst) hst) hg hb hs) ?_
 intro E σ H hh
 obtain⟨A,t,o,R,e,h⟩:=zba4 hh
 unfold zi3 at e
 cases e1:fa t with
 |none=>rw [e1]at e;cases e
 |some r =>
  rw [e1]at e
  refine⟨A,t,r,R,e1,fun v H1 gs q=>?_⟩
  have e:(match r.d with
   |.int n=>if bigI n then forD kt g (rngD 0 n.toNat) t else none
   |_=>none)=some o:=e
  split at e
  case h_2=>cases e
  rename_i n z
  split at e
  case isFalse=>cases e
  rename_i ok
  simp only [bigI,decide_eq_true_eq]at ok
  have p:=q.full
  rw [z]at p
  cases ze7 p
  exact⟨n,rfl,by lia,by lia,zau6 ht (R.grow gs) e (h.back (Gr.of_same R.mu.left gs))⟩
theorem zav2 {body:List Stmt}{p1 p2:Pos} (hp:PassesOwn (model X.prog X.w) X.A X.env X.xe) (hc:X.calm=true) (hgr:Gl X "range") (hm:X.mg "range"=none) (ha:PE X a (dE X.K F fa)) (hb':PE X b (dE X.K F fb)) (hg:PG X tg gt) (ht:TgOk X.K F gt kt) (hb:PSs X body (dS X.K F g))
  (hst:zbo8 [a,b] X.env=[(false,eval a X.env),(false,eval b X.env)]:=by rfl) (hst2:zbo8 [b] X.env=[(false,eval b X.env)]:=by rfl) (hs:∀x,foldedSetIterable (.Call (.Name "range" p1) [a,b] [] p2) X.env x=pure x:=by intro _;rfl) :
  PS X (.For tg (.Call (.Name "range" p1) [a,b] [] p2) body [] pos) (dS X.K F (zba5 kt fa fb g)):=by
 refine PS.imp (zbd6 hp hc (zak5 hgr hm (zh0 ha (zh0 hb' zm1 hst2) (by rw [hst,hst2])) hst hst2) hg hb hs) ?_
 intro E σ H hh
 obtain⟨A,t,o,R,e,h⟩:=zba4 hh
 unfold zba5 at e
 cases e1:fa t with
 |none=>rw [e1]at e;cases e
 |some r =>
  cases e2:fb t with
  |none=>rw [e1,e2]at e;cases e
  |some r' =>
   rw [e1,e2]at e
   refine⟨A,t,r,R,e1,fun v H1 gs q=>⟨A,t,r',R.grow gs,e2,fun v2 H2 gs2 q2=>?_⟩⟩
   have e:(match r.d,r'.d with
    |.int lo,.int n=>if bigI n&&bigI lo then forD kt g (rngD lo (n - lo).toNat) t else none
    |_,_=>none)=some o:=e
   split at e
   case h_2=>cases e
   rename_i lo n z1 z2
   split at e
   case isFalse=>cases e
   rename_i ok
   simp only [bigI,zbo2,decide_eq_true_eq]at ok
   have p:=q.full
   rw [z1]at p
   cases ze7 p
   have p':=q2.full
   rw [z2]at p'
   cases ze7 p'
   exact⟨lo,n,rfl,⟨by lia,by lia,by lia,by lia⟩,zau6 ht (R.grow (gs.trans gs2)) e (h.back (Gr.of_same R.mu.left (gs.trans gs2)))⟩
end
end DL
namespace DL
open PySem.Spec L2
theorem RSl.upd {K:zbm7}{H0 H H':Hp}{ds es:List D}{ws:List V}{p:Addr} (hp:H' p=some (.lst ws)) (he:Reps K H0 es ws):∀ {t:Th}{σ:L2.St}{A:List Addr} (i:Nat),RSl K H0 H t σ A→A.Nodup→t[i]?=some (.own ds)→σ[i]?=some (some (.ref p)) →
  (∀q∈A,q≠p→H' q=H q)→RSl K H0 H' (t.set i (.own es)) σ A
 |_,_,_,i,.nil,_,e,_,_=>by simp at e
 |_,_,_,0,.no r,_,e,_,_=>by simp at e
 |_,_,_,0,.val _ r,_,e,_,_=>by simp at e
 |_,_,_,0,.dp _ r,_,e,_,_=>by simp at e
 |_,_,_,i+1,.dp (B:=B) h1 r,nd,e,e2,k=>by
  have n:=zbo5.mp nd
  obtain⟨p3,vs3,a1,a2,_⟩:=RSl.getOwn r (i:=i) (ds:=ds) (by simpa using e)
  have:p3=p:=by simpa [a1] using e2
  subst this
  refine .dp (RepD.mono (Same.refl _) h1 fun q hq o w=>?_) (RSl.upd hp he i r n.2.1 (by simpa using e) (by simpa using e2) fun q hq=>k q (zbm6 _ hq))
  rw [k q (zbm8 _ hq) (fun z=>n.2.2 q hq p3 a2 z)];exact w
 |_,_,_,0,.own (p:=p2) (A:=A) h1 h2 r,nd,e,e2,k=>by
  simp at e2
  subst e2
  exact .own hp he (RSl.mono (Same.refl _) r fun q hq o h=>by
   have n:q≠p2:=fun z=>(zbo9.mp nd).1 (z ▸ hq)
   rw [k q (zbm9 _ hq) n];exact h)
 |_,_,_,i+1,.no r,nd,e,e2,k=>.no (RSl.upd hp he i r nd (by simpa using e) (by simpa using e2) k)
 |_,_,_,i+1,.val h r,nd,e,e2,k=>.val h (RSl.upd hp he i r nd (by simpa using e) (by simpa using e2) k)
 |_,_,_,i+1,.own (p:=p2) h1 h2 r,nd,e,e2,k=>by
  have n:=zbo9.mp nd
  have e2':=(show _ from e2)
  obtain⟨p3,vs3,a1,a2,_⟩:=RSl.getOwn r (i:=i) (ds:=ds) (by simpa using e)
  have:p3=p:=by simpa [a1] using e2
  subst this
  have np:p2≠p3:=fun z=>n.1 (z ▸ a2)
  refine .own (by rw [k p2 (zbn1 ..) np];exact h1) h2 (RSl.upd hp he i r n.2 (by simpa using e) (by simpa using e2) fun q hq=>k q (zbm9 _ hq))
theorem RS.write {K:zbm7}{F A:List Addr}{H:Hp}{t:Th}{σ:L2.St}{i:Nat}{ds es:List D}{ws:List V}{p:Addr} (R:RS K F H A t σ) (e:t[i]?=some (.own ds)) (e2:σ[i]?=some (some (.ref p))) (h:Reps K (hide (A++F) H) es ws) :
  RS K F (L2.upd H p (.lst ws)) A (t.set i (.own es)) σ∧Gr A H A (L2.upd H p (.lst ws)):=by
 obtain⟨p',vs,a1,a2,a3,a4⟩:=R.rel.getOwn e
 have:p'=p:=by simpa [a1] using e2
 subst this
 have hh:Same (hide (A++F) H) (hide (A++F) (L2.upd H p' (.lst ws))):=fun b o q=>by
  obtain⟨n,q⟩:=zk4 q
  have nb:b≠p':=fun z=>n (zbm8 _ (z ▸ a2))
  exact zd1 (by rw [zc8 nb];exact q) n
 have mu:Lists (L2.upd H p' (.lst ws)) (A++F):=fun q hq=>by
  by_cases z:q=p'
  ·exact⟨mL ws,by rw [z];exact zc1⟩
  ·obtain⟨us,w⟩:=R.mu q hq
   exact⟨us,by rw [zc8 z];exact w⟩
 refine⟨⟨mu,R.nd,R.dj,RSl.upd zc1 (Reps.mono hh h) i (RSl.mono hh R.rel (H':=H) fun _ _ _ h=>h) R.nd e e2 fun q _ n=>zc8 n⟩,?_⟩
 refine⟨fun b o n q=>?_,fun b hb=>?_,fun b hb=>.inl hb⟩
 ·rw [zc8 (fun z=>n (by rw [z];exact a2))];exact q
 ·obtain⟨us,w⟩:=mu b (zbm8 _ hb)
  rw [w];simp
noncomputable def kApp (t:Th) (i:Nat) (r:Ev):Option Out:=match t[i]? with
 |some (.own xs)=>if r.ok&&decide (xs.length<100000) then some (.nx (t.set i (.own (xs++[r.d])))) else none
 |_=>none
noncomputable def dApp (i:Nat) (f:DE):DS:=fun t=>(f t).bind (kApp t i)
section
variable {X:Cx}{F:List Addr}{a b c:Expr}{es:List Expr}{fa fb fc:DE}{g g1 g2:DS}{ft fu:DT}{pos:Pos}{st:Stmt}{rest:List Stmt}{tg:Expr}{gt:TG}{kt:D→Th→Option Th}
theorem zr2 (i:Nat) {x:Str}{p0 apos cpos:Pos} (he:PE X a (dE X.K F fa)) (hN:X.N[i]?=some x:=by rfl) (hv:Vis X.env.scope x:=by first | exact Or.inl rfl | exact Or.inr (Or.inl rfl) |exact Or.inr (Or.inr rfl)) (hd:(x ==("__debug__":Str))=false:=by decide)
  (hcd:(x ==("__classdict__":Str))=false:=by decide) (hst:zbo8 [a] X.env=[(false,eval a X.env)]:=by rfl)
  (hbase:attributeBase (.Name x p0) "append" X.env (eval (.Name x p0) X.env)=eval (.Name x p0) X.env:=by rfl)
  (hfew:((zbu1 cpos (zbo8 [a] X.env)).all (fun x=>!x.1)&&(backToKw cpos (keywordEach [] X.env)).all (fun x=>x.1.isSome)
   && decide ([a].length+([]:List Keyword).length+(if ([]:List Keyword).isEmpty then 0 else 1)<30))=true:=by rfl)
  (hline:(apos.endLine == cpos.line)=true:=by rfl) (hplain:(zbu1 cpos (zbo8 [] X.env)).any (·.1)=false:=by rfl)
  (hsw:swapsWith (.Call (.Attribute (.Name x p0) "append" apos) [a] [] cpos) none pos.line X.env=pure false:=by rfl) :
  PS X (.Expr (.Call (.Attribute (.Name x p0) "append" apos) [a] [] cpos) pos) (dS X.K F (dApp i fa)):=by
 refine PS.imp (zaa7 (zaz5 zbr3 zbw5 zbw6 zo7 (zq7 (i:=i) hN hv hd hcd) (zh0 he zm1 hst) hbase hfew hline hst hplain) hsw) ?_
 rintro E σ H ⟨A,t,o,R,e,h⟩
 unfold dApp at e
 cases e1:fa t with
 |none=>rw [e1]at e;cases e
 |some r =>
  rw [e1]at e
  have e:kApp t i r=some o:=e
  unfold kApp at e
  split at e
  case h_2=>cases e
  rename_i xs z
  split at e
  case isFalse=>cases e
  rename_i ok
  simp only [zbo2,decide_eq_true_eq]at ok
  cases e
  obtain⟨p,vs,a1,a2,a3,a4⟩:=R.rel.getOwn z
  refine⟨_,a1,.inl ⟨rfl,vs,SqL.of a3⟩,A,t,r,R,e1,fun y H1 gs q=>⟨p,vs,y,rfl,rfl,gs _ _ a3,?_,?_⟩⟩
  ·have:vs.length<100000:=by rw [a4.length];exact ok.2
   exact zbo7 this (by rw [sizeLine_eq];decide)
  ·obtain⟨R',g'⟩:=(R.grow gs).write (es:=xs++[r.d]) (ws:=vs++[y]) z a1 ((Reps.mono (zb6 gs) a4).app (Reps.one (q.clean R.mu gs ok.1)))
   exact h _ _ _ ((Gr.of_same R.mu.left gs).trans g') R'
noncomputable def kIx:Ev→Ev→Option Ev:=fun r1 r2=>match r1.d,r2.d with
 |.lst ds,.int i=>(atI ds i).map fun d=>if r1.ok||flat d then .cl d else .tm d
 |.tup ds,.int i=>(atI ds i).map fun d=>if r1.ok||flat d then .cl d else .tm d
 |_,_=>none
theorem Reps.atI {K:zbm7}{H:Hp}{ds:List D}{vs:List V} (r:Reps K H ds vs) {i:Int}{d:D} (e:L2.atI ds i=some d):∃v,L2.atI vs i=some v∧Rep K H d v:=by
 unfold L2.atI at e ⊢
 rw [r.length]
 cases e1:ixN ds.length i with
 |none=>rw [e1]at e;cases e
 |some j=>rw [e1]at e;exact r.get e
theorem zc6 (ha:PE X a (dE X.K F fa)) (hb:PE X b (dE X.K F fb)) (hs:zat6 b:=by intro _ _;rfl):PE X (.Subscript a b pos) (dE X.K F (d2 kIx fa fb)):=by
 refine PE.imp (pe_ix (ix_list.or ix_tup) ha hb hs) ?_
 intro σ H Q h
 obtain⟨A,t,r1,r2,r,R,e1,e2,e,h,w⟩:=two h
 refine⟨A,t,r1,R,e1,fun x H1 gs1 q1=>⟨A,t,r2,R.grow gs1,e2,fun y H2 gs2 q2=>?_⟩⟩
 have q1:=q1.mono gs2
 have gs:=gs1.trans gs2
 have p2:=q2.full
 have m2:=R.mu.mono gs
 have key:∀(P:List Addr),Rep X.K (hide P H2) r1.d x→(∀d v,Rep X.K (hide P H2) d v→RepEv X.K F A H H2 (if r1.ok||flat d then Ev.cl d else Ev.tm d) v)→rIxL X.K x y H2 Q∨rIxT X.K x y H2 Q:=fun P hP fin=>by
  unfold kIx at e
  split at e
  ·rename_i ds i z1 z2
   rw [z2]at p2
   cases ze7 p2
   rw [z1]at hP
   cases hP with
   |@lst _ p vs h1 h2 =>
    cases e4:atI ds i with
    |none=>rw [e4]at e;cases e
    |some d =>
     rw [e4]at e
     have e:(if r1.ok||flat d then Ev.cl d else Ev.tm d)=r:=by simpa using e
     obtain⟨v,e5,rv⟩:=Reps.atI h2 e4
     exact .inl ⟨p,vs,i,v,rfl,rfl,SqL.mono (zc2 _ _) h1,e5,h v H2 gs (e ▸ fin d v rv)⟩
  ·rename_i ds i z1 z2
   rw [z2]at p2
   cases ze7 p2
   rw [z1]at hP
   cases hP with
   |@tup _ p vs h1 h2 =>
    cases e4:atI ds i with
    |none=>rw [e4]at e;cases e
    |some d =>
     rw [e4]at e
     have e:(if r1.ok||flat d then Ev.cl d else Ev.tm d)=r:=by simpa using e
     obtain⟨v,e5,rv⟩:=Reps.atI h2 e4
     exact .inr ⟨p,vs,i,v,rfl,rfl,SqT.mono (zc2 _ _) h1,e5,h v H2 gs (e ▸ fin d v rv)⟩
  ·cases e
 by_cases c:r1.ok=true
 ·refine key (A++F) (q1.clean R.mu gs c) fun d v rv=>?_
  rw [c,zcb3,if_pos rfl]
  exact rv
 ·refine key F (q1.cleanF R.mu) fun d v rv=>?_
  have c:r1.ok=false:=by simpa using c
  rw [c,Bool.false_or]
  split
  ·rename_i f;exact Rep.hid m2 f (Rep.mono (zc2 _ _) rv)
  ·exact rv
noncomputable def kCat:Ev→Ev→Option Ev:=fun r1 r2=>match r1.d,r2.d with
 |.lst ds,.lst es=>if (r1.ok||flats ds)&&(r2.ok||flats es)&&decide (ds.length+es.length≤100000) then some (.nw (ds++es)) else none
 |_,_=>none
theorem RepEv.items {K:zbm7}{F A:List Addr}{H H':Hp}{r:Ev}{v:V}{ds:List D} (m:Lists H (A++F)) (gs:Same H H') (q:RepEv K F A H H' r v) (z:r.d=.lst ds) (c:(r.ok||flats ds)=true) :
  ∃p vs,v=.ref p∧SqL K H' p vs∧Reps K (hide (A++F) H') ds vs:=by
 rcases zcb0 _ _ ▸ c with c | c
 ·have w:=q.clean m gs c
  rw [z]at w
  cases w with
  |@lst _ p vs h1 h2=>exact⟨p,vs,rfl,SqL.mono (zc2 _ _) h1,h2⟩
 ·have w:=q.full
  rw [z]at w
  cases w with
  |@lst _ p vs h1 h2=>exact⟨p,vs,rfl,h1,Reps.hid (m.mono gs) c h2⟩
theorem cat_any {E:Value→zbo3→Prop}{A:Around}{prog:Program}{w:World}{s:zbo3}{l b:Addr}{vs ws:List Value}{Q:Value→zbo3→Prop} (hl:PlainL s.heap l vs.toArray) (hb:PlainL s.heap b ws.toArray)
  (h:Q (.ref s.heap.objs.size) { s with heap:=s.heap.push { cls:=.type "list",data:=.seq (vs++ws).toArray } }) (hsz:vs.length+ws.length≤sizeLine) :
  wpAny (model prog w) A (binaryOp .Add (.ref l) (.ref b)) Q E s:=by
 obtain⟨⟨cls,dd,data,sl⟩,n,ho,hc,hdd,hd⟩:=id hl
 obtain⟨⟨cls2,dd2,data2,sl2⟩,n2,ho2,hc2,hdd2,hd2⟩:=id hb
 simp only at hc hd hc2 hd2
 subst hc hd hc2 hd2
 have e:vs.toArray++ws.toArray=(vs++ws).toArray:=by simp
 refine concat_meets ⟨_,ho,rfl⟩ ⟨_,ho2,rfl⟩ noFill_list_add seq_list_add PySem.F.slot_list_add PySem.F.entry_list_add (PySem.F.args_list_add_2 _ _) (list_addW l b vs.toArray ws.toArray n n2 dd dd2 sl sl2 (by simpa using hsz)) ⟨ho,ho2,?_⟩
 rw [e]
 exact h
theorem ze8:OpD X F (binaryOp .Add) kCat:=by
 intro pins s σ H0 H A x y v u Q r1 r2 r I m g0 rx ry q1 q2 e hq
 unfold kCat at e
 split at e
 case h_2=>cases e
 rename_i ds es' z1 z2
 split at e
 case isFalse=>cases e
 rename_i c
 simp only [zbo2,decide_eq_true_eq]at c
 cases e
 obtain⟨p,vs,rfl,h1,h2⟩:=q1.items m g0 z1 c.1.1
 obtain⟨p',ws,rfl,h1',h2'⟩:=q2.items m g0 z2 c.1.2
 cases rx
 cases ry
 obtain⟨its,w1,w2,w3⟩:=I.list h1
 obtain⟨its',w1',w2',w3'⟩:=I.list h1'
 have l1:=h2.length
 have l2:=h2'.length
 have l3:=w1.length
 have l4:=w1'.length
 have hz:vs.length+ws.length≤sizeLine:=le_line (by lia)
 refine cat_any w2 w2' ⟨.ref _,_,I.lnew (t':=s.toks) (w1.append w1') (by rw [zbp6];exact hz),rfl,?_⟩ (by lia)
 refine hq _ _ (zd2 I.fresh) ⟨_,_,rfl,Same.free g0 I.fresh,zc1,Reps.mono (zi6 I.fresh) (h2.app h2')⟩
mutual
def eqD:D→D→Bool
 |.non,.non=>true
 |.bl a,.bl b=>decide (a=b)
 |.int a,.int b=>decide (a=b)
 |.str a,.str b=>decide (a=b)
 |.tup a,.tup b=>eqDs a b
 |.lst a,.lst b=>eqDs a b
 |.dct ks a,.dct ks' b=>decide (ks=ks')&&eqDs a b
 |.pdc a,.pdc b=>decide (a=b)
 |_,_=>false
def eqDs:List D→List D→Bool
 |[],[]=>true
 |a::as,b::bs=>eqD a b&&eqDs as bs
 |_,_=>false
end
noncomputable def eqOk:Nat→D→D→Bool
 |_,.non,.non=>true
 |_,.bl _,.bl _=>true
 |_,.int _,.int _=>true
 |_,.str _,.str _=>true
 |_,.non,.int _=>true
 |_,.int _,.non=>true
 |_,.non,.str _=>true
 |_,.str _,.non=>true
 |_,.non,.bl _=>true
 |_,.bl _,.non=>true
 |_,.int _,.str _=>true
 |_,.str _,.int _=>true
 |n+1,.tup xs,.tup ys=>(xs.zip ys).all fun p=>eqOk n p.1 p.2
 |n+1,.lst xs,.lst ys=>(xs.zip ys).all fun p=>eqOk n p.1 p.2
 |_,_,_=>false
theorem zac4 {pins:List (Addr×Obj)}{s:zbo3}{σ:L2.St}{H:Hp}{p:Addr}{kvs:List (Key×V)} (I:Inv X pins σ H s) (h:H p=some (.dK kvs)):∃o,s.heap.get? p=some o∧o.cls=.type "dict":=by
 obtain⟨_,_,vs,_,m⟩:kvs.length≤sizeLine∧(p == sysModules)=false∧∃vs,KV kvs vs∧s.heap.DictOf (zh1 X.prog X.w) p vs:=I.hok p _ h
 exact m.typeIs
theorem zab0 {pins:List (Addr×Obj)}{s:zbo3}{σ:L2.St}{H:Hp}{p:Addr}{kvs:List (List Key×V)} (I:Inv X pins σ H s) (h:H p=some (.dT kvs)):∃o,s.heap.get? p=some o∧o.cls=.type "dict":=by
 obtain⟨_,_,xs,_,o,es,ep,h1,h2,_⟩:=(show ObjOk X.prog X.w H s.heap p (.dT kvs) from I.hok p _ h)
 exact⟨o,h1,h2.1⟩
theorem zbe1:∀ {a b:List (Int×Int)},pkv a=pkv b→a=b
 |[],[],_=>rfl
 |[],_::_,h=>by simp [pkv]at h
 |_::_,[],h=>by simp [pkv]at h
 |(x,y)::a,(z,w)::b,h=>by
  simp only [pkv,zbn7,List.cons.injEq,Prod.mk.injEq,Sum.inl.injEq,and_true]at h
  rw [h.1.1,h.1.2,zbe1 (a:=a) (b:=b) h.2]
theorem zip_inj {ks ks':List Key}{vs vs':List V} (l:ks.length=vs.length) (l':ks'.length=vs'.length) (h:mkKV ks vs=mkKV ks' vs'):ks=ks'∧vs=vs':=by
 unfold mkKV at h
 have h1:=congrArg (List.map Prod.fst) h
 have h2:=congrArg (List.map Prod.snd) h
 rw [zce0 (by lia),zce0 (by lia)]at h1
 rw [zce1 (by lia),zce1 (by lia)]at h2
 exact⟨h1,h2⟩
theorem Rep.injR {pins:List (Addr×Obj)}{s:zbo3}{σ:L2.St}{H:Hp} (I:Inv X pins σ H s):(∀ {d:D}{v:V},Rep X.K H d v→∀e,Rep X.K H e v→d=e)∧∀ {ds:List D}{vs:List V},Reps X.K H ds vs→∀es,Reps X.K H es vs→ds=es:=by
 have cl:∀ {p:Addr}{A B:String},(∃o,s.heap.get? p=some o∧o.cls=.type A)→(∃o,s.heap.get? p=some o∧o.cls=.type B)→A≠B→False:=fun ⟨o,e,c⟩ ⟨o',e',c'⟩ n=>by
  rw [e]at e';cases e'
  rw [c]at c';injection c' with c';exact n c'
 have ct:∀ {p:Addr}{vs:List V},SqT X.K H p vs→∃o,s.heap.get? p=some o∧o.cls=.type "tuple":=fun h=>by
  obtain⟨its,_,⟨o,e,c,_⟩,_⟩:=I.tuple h
  exact⟨o,e,c⟩
 have cL:∀ {p:Addr}{vs:List V},SqL X.K H p vs→∃o,s.heap.get? p=some o∧o.cls=.type "list":=fun h=>by
  obtain⟨its,_,⟨o,n,e,c,_⟩,_⟩:=I.list h
  exact⟨o,e,c⟩
 have key:∀ {d:D}{v:V},Rep X.K H d v→∀e,Rep X.K H e v→d=e:=fun h=>by
  refine Rep.rec (motive_1:=fun d v _ => ∀e,Rep X.K H e v→d=e) (motive_2:=fun ds vs _ => ∀es,Reps X.K H es vs→ds=es) ?_ ?_ ?_ ?_ ?_ ?_ ?_ ?_ ?_ ?_ h
  ·intro e h';cases h';rfl
  ·intro b e h';cases h';rfl
  ·intro b e h';cases h';rfl
  ·intro b e h';cases h';rfl
  ·intro ds p vs h1 r1 ih e h'
   cases h' with
   |tup h2 r2 =>
    have ev:=I.tuple_inj h1 h2
    subst ev
    rw [ih _ r2]
   |lst h2 r2=>exact (cl (ct h1) (cL h2) (by decide +kernel)).elim
   |dct _ h2 r2=>exact (cl (ct h1) (zac4 I h2) (by decide +kernel)).elim
   |pdc h2=>exact (cl (ct h1) (zab0 I h2) (by decide +kernel)).elim
  ·intro ds p vs h1 r1 ih e h'
   cases h' with
   |tup h2 r2=>exact (cl (cL h1) (ct h2) (by decide +kernel)).elim
   |lst h2 r2 =>
    have ev:=I.list_inj h1 h2
    subst ev
    rw [ih _ r2]
   |dct _ h2 r2=>exact (cl (cL h1) (zac4 I h2) (by decide +kernel)).elim
   |pdc h2=>exact (cl (cL h1) (zab0 I h2) (by decide +kernel)).elim
  ·intro ks ds p vs l1 h1 r1 ih e h'
   cases h' with
   |tup h2 r2=>exact (cl (zac4 I h1) (ct h2) (by decide +kernel)).elim
   |lst h2 r2=>exact (cl (zac4 I h1) (cL h2) (by decide +kernel)).elim
   |dct l2 h2 r2 =>
    rw [h1]at h2
    obtain⟨e1,e2⟩:=zip_inj l1 l2 (by injection h2 with h2;injection h2)
    subst e1 e2
    rw [ih _ r2]
   |pdc h2=>rw [h1]at h2;cases h2
  ·intro ps p h1 e h'
   cases h' with
   |tup h2 r2=>exact (cl (zab0 I h1) (ct h2) (by decide +kernel)).elim
   |lst h2 r2=>exact (cl (zab0 I h1) (cL h2) (by decide +kernel)).elim
   |dct _ h2 r2=>rw [h1]at h2;cases h2
   |pdc h2 =>
    rw [h1]at h2
    injection h2 with h2
    injection h2 with h2
    rw [zbe1 h2]
  ·intro es h';cases h';rfl
  ·intro d v ds vs h r ih1 ih2 es h'
   cases h' with
   |cons h' r'=>rw [ih1 _ h',ih2 _ r']
 refine⟨key,fun {ds vs} h=>?_⟩
 induction ds generalizing vs with
 |nil=>intro es h';cases h;cases h';rfl
 |cons d ds ih =>
  intro es h'
  cases h with
  |cons h r =>
   cases h' with
   |cons h' r'=>rw [key h _ h',ih r _ r']
theorem Rep.inj {pins:List (Addr×Obj)}{s:zbo3}{σ:L2.St}{H:Hp} (I:Inv X pins σ H s) {d e:D}{v:V} (h:Rep X.K H d v) (h':Rep X.K H e v):d=e:=(Rep.injR I).1 h e h'
mutual
theorem zbi3:∀ {a b:D},eqD a b=true↔a=b
 |.non,b=>by cases b<;>simp [eqD]
 |.bl _,b=>by cases b<;>simp [eqD]
 |.int _,b=>by cases b<;>simp [eqD]
 |.str _,b=>by cases b<;>simp [eqD]
 |.tup xs,b=>by
  cases b with
  |tup ys=>simp only [eqD,D.tup.injEq];exact eqDs_iff
  |_=>simp [eqD]
 |.lst xs,b=>by
  cases b with
  |lst ys=>simp only [eqD,D.lst.injEq];exact eqDs_iff
  |_=>simp [eqD]
 |.dct ks xs,b=>by
  cases b with
  |dct ks' ys=>simp only [eqD,D.dct.injEq,zbo2,decide_eq_true_eq];rw [eqDs_iff (a:=xs) (b:=ys)]
  |_=>simp [eqD]
 |.pdc a,b=>by cases b<;>simp [eqD]
theorem eqDs_iff:∀ {a b:List D},eqDs a b=true↔a=b
 |[],b=>by cases b<;>simp [eqDs]
 |x::xs,b=>by
  cases b with
  |nil=>simp [eqDs]
  |cons y ys =>
   simp only [eqDs,zbo2,List.cons.injEq]
   rw [zbi3 (a:=x) (b:=y),eqDs_iff (a:=xs) (b:=ys)]
end
theorem eqD_true {a b:D}:eqD a b=true↔a=b:=zbi3
theorem eqD_false {a b:D}:eqD a b=false↔¬ a=b:=by rw [← eqD_true];simp
noncomputable def eAt (xs ys:List D) (j:Nat):Bool:=match xs[j]?,ys[j]? with
 |some a,some b=>eqD a b
 |_,_=>true
end
end DL
namespace DL
open PySem.Spec L2
theorem PlainL.isL {h:Heap}{a:Addr}{its:Array Value} (p:PlainL h a its):h.IsList a its:=by
 obtain⟨o,n,e,c,_,d⟩:=p
 exact⟨o,e,c,n,d⟩
section
variable {X:Cx}{F:List Addr}{a b c:Expr}{es:List Expr}{fa fb fc:DE}{g g1 g2:DS}{ft fu:DT}{pos:Pos}{st:Stmt}{rest:List Stmt}{tg:Expr}{gt:TG}{kt:D→Th→Option Th}
noncomputable def scD:D→Bool
 |.tup _=>false
 |.lst _=>false
 |.dct _ _=>false
 |.pdc _=>false
 |_=>true
theorem eqV_D {K:zbm7}{H:Hp}{n:Nat}{d e:D}{v u:V} (r:Rep K H d v) (q:Rep K H e u) (s1:scD d=true) (s2:scD e=true) (ok:eqOk n d e=true):zbi0 v=true∧zbi0 u=true∧eqV v u=eqD d e:=by
 cases r<;>cases q<;>simp_all [scD,eqOk,zbi0,eqV,eqD]
 all_goals (rw [zbt4];simp)
theorem zai6 {xs ys:List D} (h:xs.length=ys.length):(zbp2 xs.length).all (eAt xs ys)=eqD (.lst xs) (.lst ys):=by
 rw [zbt4,eqD_true,zbt9]
 constructor
 ·intro hh
  congr 1
  apply zce2 h
  intro i h1 h2
  have:=hh i (zbw2.mpr h1)
  simp only [eAt,zbn9 h1,zbn9 h2]at this
  exact eqD_true.mp this
 ·intro hh i hi
  injection hh with hh
  subst hh
  simp only [eAt]
  split
  ·rename_i a b z1 z2
   rw [z1]at z2;cases z2
   exact eqD_true.mpr rfl
  ·rfl
theorem zai5 {xs ys:List D}:((zbp2 (min xs.length ys.length)).all (eAt xs ys)&&xs.length == ys.length)=eqD (.tup xs) (.tup ys):=by
 by_cases h:xs.length=ys.length
 ·have e:min xs.length ys.length=xs.length:=by lia
  rw [e,zai6 h,beq_iff_eq.mpr h,zbv0]
  rw [zbt4,eqD_true,eqD_true]
  simp
 ·have e:(xs.length == ys.length)=false:=by simpa using h
  rw [e,Bool.and_false]
  symm
  rw [eqD_false]
  intro z
  injection z with z
  exact h (by rw [z])
theorem zao8 {n:Nat}{xs ys:List D} (h:((xs.zip ys).all fun p=>eqOk n p.1 p.2)=true) {j:Nat}{x y:D} (hx:xs[j]?=some x) (hy:ys[j]?=some y):eqOk n x y=true:=by
 rw [zbt9]at h
 refine h (x,y) (zcb2 (i:=j) ?_)
 rw [List.getElem?_zip_eq_some]
 exact⟨hx,hy⟩
theorem zam9 {A:Around}:A.in1.units=A.units+1:=rfl
theorem Vals.getL {vs:List V}{us:List Value} (h:Vals vs us) {j:Nat} (hj:j<us.toArray.size):∃v,vs[j]?=some v∧RelV v us.toArray[j]:=by
 have hj':j<vs.length:=by rw [h.length];simpa using hj
 obtain⟨u,e,r⟩:=Vals.get h (zbn9 hj')
 refine⟨_,zbn9 hj',?_⟩
 have:us.toArray[j]=u:=by
  have hj2:j<us.length:=by simpa using hj
  have:=zbn9 hj2
  rw [e]at this
  simpa using (Option.some.inj this).symm
 rw [this];exact r
theorem eqAt_D {pins:List (Addr×Obj)}{s:zbo3}{σ:L2.St}{H:Hp} (I:Inv X pins σ H s):∀(n:Nat) (A:Around) (d e:D) (v u:V) (y z:Value),A.units+n<cLine→eqOk n d e=true→Rep X.K H d v→Rep X.K H e u→RelV v y→RelV u z→SeqAt.EqAt A s y z (eqD d e):=by
 intro n
 induction n with
 |zero =>
  intro A d e v u y z hu ok r q ry rz
  have s1:scD d=true:=by cases d<;>cases e<;>simp_all [scD,eqOk]
  have s2:scD e=true:=by cases d<;>cases e<;>simp_all [scD,eqOk]
  obtain⟨f1,f2,ee⟩:=eqV_D r q s1 s2 ok
  rw [← ee]
  exact eqAt_V ry rz f1 f2
 |succ n ih =>
  intro A d e v u y z hu ok r q ry rz
  by_cases s1:scD d=true
  ·have s2:scD e=true:=by cases d<;>cases e<;>simp_all [scD,eqOk]
   obtain⟨f1,f2,ee⟩:=eqV_D r q s1 s2 ok
   rw [← ee]
   exact eqAt_V ry rz f1 f2
  ·have hu':A.in1.units+n<cLine:=by rw [zam9];lia
   have hu0:A.units<cLine:=by lia
   cases r with
   |@tup xs p vs h1 h2 =>
    cases q with
    |@tup ys p' ws h1' h2' =>
     cases ry;cases rz
     by_cases z:p=p'
     ·subst z
      have e:=Rep.inj I (.tup h1 h2) (.tup h1' h2')
      rw [eqD_true.mpr e]
      exact SeqAt.EqAt.same _
     ·obtain⟨its,w1,w2,_⟩:=I.tuple h1
      obtain⟨its',w1',w2',_⟩:=I.tuple h1'
      refine SeqAt.EqAt.of_refs z ?_
      have k:=SeqAt.RcAt.tuples (A:=A) (e:=eAt xs ys) w2 w2' hu0 (fun j g1 g2=>by
       obtain⟨v1,a1,a2⟩:=Vals.getL w1 g1
       obtain⟨v2,b1,b2⟩:=Vals.getL w1' g2
       obtain⟨x1,c1,c2⟩:=h2.getV a1
       obtain⟨x2,d1,d2⟩:=h2'.getV b1
       have:=ih A.in1 x1 x2 v1 v2 _ _ hu' (zao8 (by simpa [eqOk] using ok) c1 d1) c2 d2 a2 b2
       have ee:eAt xs ys j=eqD x1 x2:=by simp only [eAt,c1,d1]
       rw [ee];exact this)
      have l1:its.toArray.size=xs.length:=by have:=w1.length;have:=h2.length;simp;lia
      have l2:its'.toArray.size=ys.length:=by have:=w1'.length;have:=h2'.length;simp;lia
      rw [l1,l2,zai5]at k
      exact k
    |_=>simp_all [eqOk]
   |@lst xs p vs h1 h2 =>
    cases q with
    |@lst ys p' ws h1' h2' =>
     cases ry;cases rz
     by_cases z:p=p'
     ·subst z
      have e:=Rep.inj I (.lst h1 h2) (.lst h1' h2')
      rw [eqD_true.mpr e]
      exact SeqAt.EqAt.same _
     ·obtain⟨its,w1,w2,_⟩:=I.list h1
      obtain⟨its',w1',w2',_⟩:=I.list h1'
      refine SeqAt.EqAt.of_refs z ?_
      have l1:its.toArray.size=xs.length:=by have:=w1.length;have:=h2.length;simp;lia
      have l2:its'.toArray.size=ys.length:=by have:=w1'.length;have:=h2'.length;simp;lia
      by_cases hl:xs.length=ys.length
      ·have k:=SeqAt.RcAt.lists (A:=A) (e:=eAt xs ys) (PlainL.isL w2) (PlainL.isL w2') (by rw [l1,l2];exact hl) hu0 (fun j g1 g2=>by
        obtain⟨v1,a1,a2⟩:=Vals.getL w1 g1
        obtain⟨v2,b1,b2⟩:=Vals.getL w1' g2
        obtain⟨x1,c1,c2⟩:=h2.getV a1
        obtain⟨x2,d1,d2⟩:=h2'.getV b1
        have:=ih A.in1 x1 x2 v1 v2 _ _ hu' (zao8 (by simpa [eqOk] using ok) c1 d1) c2 d2 a2 b2
        have ee:eAt xs ys j=eqD x1 x2:=by simp only [eAt,c1,d1]
        rw [ee];exact this)
       rw [l1,zai6 hl]at k
       exact k
      ·have ee:eqD (.lst xs) (.lst ys)=false:=eqD_false.mpr fun z=>hl (by injection z with z;rw [z])
       rw [ee]
       exact SeqAt.RcAt.lists_lengths (PlainL.isL w2) (PlainL.isL w2') (by rw [l1,l2];simpa using hl) hu0
    |_=>simp_all [eqOk]
   |dct=>exact absurd ok (by cases e<;>simp [eqOk])
   |pdc=>exact absurd ok (by cases e<;>simp [eqOk])
   |_=>simp_all [scD]
theorem zau5 {pins:List (Addr×Obj)}{s:zbo3}{σ:L2.St}{H:Hp} (I:Inv X pins σ H s) {n:Nat}{A:Around}{xs ys:List D}{vs ws:List V}{its its':List Value} (hu:A.units+n+1<cLine) (ok:((xs.zip ys).all fun p=>eqOk n p.1 p.2)=true)
  (h2:Reps X.K H xs vs) (h2':Reps X.K H ys ws) (w1:Vals vs its) (w1':Vals ws its'):∀j (g1:j<its.toArray.size) (g2:j<its'.toArray.size),SeqAt.EqAt A.in1 s its.toArray[j] its'.toArray[j] (eAt xs ys j):=fun j g1 g2=>by
 obtain⟨v1,a1,a2⟩:=Vals.getL w1 g1
 obtain⟨v2,b1,b2⟩:=Vals.getL w1' g2
 obtain⟨x1,c1,c2⟩:=h2.getV a1
 obtain⟨x2,d1,d2⟩:=h2'.getV b1
 have:=eqAt_D I n A.in1 x1 x2 v1 v2 _ _ (by rw [zam9];lia) (zao8 ok c1 d1) c2 d2 a2 b2
 have ee:eAt xs ys j=eqD x1 x2:=by simp only [eAt,c1,d1]
 rw [ee];exact this
noncomputable def kEq:Ev→Ev→Option Ev:=fun r1 r2=>if eqOk 6 r1.d r2.d then some (.cl (.bl (eqD r1.d r2.d))) else none
noncomputable def kNe:Ev→Ev→Option Ev:=fun r1 r2=>if eqOk 6 r1.d r2.d then some (.cl (.bl (!eqD r1.d r2.d))) else none
theorem scal_D {K:zbm7}{H:Hp}{n:Nat}{d e:D}{v u:V} (r:Rep K H d v) (q:Rep K H e u) (s1:scD d=true) (ok:eqOk n d e=true):scal v u=true∧decide (v=u)=eqD d e:=by
 cases r<;>cases q<;>simp_all [scD,eqOk,scal,eqD]
theorem zs9 (hu:X.A.units+64<cLine):OpD X F (compareOp .Eq) kEq:=by
 intro pins s σ H0 H A x y v u Q r1 r2 r I m g0 rx ry q1 q2 e hq
 unfold kEq at e
 split at e
 case isFalse=>cases e
 rename_i ok
 cases e
 have p1:=q1.full
 have p2:=q2.full
 by_cases s1:scD r1.d=true
 ·obtain⟨a1,a2⟩:=scal_D p1 p2 s1 ok
  exact op_eq pins s σ H x y v u Q I rx ry ⟨a1,by rw [a2];exact hq _ H (Same.refl H) (.bl _)⟩
 ·generalize r1.d=d1 at *
  generalize r2.d=d2 at *
  have hu0:X.A.units<cLine:=by lia
  cases p1 with
  |@tup xs p vs h1 h2 =>
   cases p2 with
   |@tup ys p' ws h1' h2' =>
    cases rx;cases ry
    obtain⟨its,w1,w2,_⟩:=I.tuple h1
    obtain⟨its',w1',w2',_⟩:=I.tuple h1'
    have l1:its.toArray.size=xs.length:=by have:=w1.length;have:=h2.length;simp;lia
    have l2:its'.toArray.size=ys.length:=by have:=w1'.length;have:=h2'.length;simp;lia
    refine SeqAt.eq_tupleAt w2 w2' hu0 (zau5 I (n:=5) (by lia) (by simpa [eqOk] using ok) h2 h2' w1 w1') ?_
    rw [l1,l2,zai5]
    exact⟨.bl _,H,I,rfl,hq _ H (Same.refl H) (.bl _)⟩
   |_=>simp_all [eqOk]
  |@lst xs p vs h1 h2 =>
   cases p2 with
   |@lst ys p' ws h1' h2' =>
    cases rx;cases ry
    obtain⟨its,w1,w2,_⟩:=I.list h1
    obtain⟨its',w1',w2',_⟩:=I.list h1'
    have l1:its.toArray.size=xs.length:=by have:=w1.length;have:=h2.length;simp;lia
    have l2:its'.toArray.size=ys.length:=by have:=w1'.length;have:=h2'.length;simp;lia
    by_cases hl:xs.length=ys.length
    ·refine SeqAt.eq_listAt (PlainL.isL w2) (PlainL.isL w2') (by rw [l1,l2];exact hl) hu0 (zau5 I (n:=5) (by lia) (by simpa [eqOk] using ok) h2 h2' w1 w1') ?_
     rw [l1,zai6 hl]
     exact⟨.bl _,H,I,rfl,hq _ H (Same.refl H) (.bl _)⟩
    ·have ee:eqD (.lst xs) (.lst ys)=false:=eqD_false.mpr fun z=>hl (by injection z with z;rw [z])
     rw [ee]at hq
     exact SeqAt.eq_list_lengthsAt (PlainL.isL w2) (PlainL.isL w2') (by rw [l1,l2];simpa using hl) hu0 ⟨.bl _,H,I,rfl,hq _ H (Same.refl H) (.bl _)⟩
   |_=>simp_all [eqOk]
  |dct=>exact absurd ok (by cases d2<;>simp [eqOk])
  |pdc=>exact absurd ok (by cases d2<;>simp [eqOk])
  |_=>simp_all [scD]
theorem zy4 (hu:X.A.units+64<cLine):OpD X F (compareOp .NotEq) kNe:=by
 intro pins s σ H0 H A x y v u Q r1 r2 r I m g0 rx ry q1 q2 e hq
 unfold kNe at e
 split at e
 case isFalse=>cases e
 rename_i ok
 cases e
 have p1:=q1.full
 have p2:=q2.full
 by_cases s1:scD r1.d=true
 ·obtain⟨a1,a2⟩:=scal_D p1 p2 s1 ok
  exact op_ne pins s σ H x y v u Q I rx ry ⟨a1,by rw [a2];exact hq _ H (Same.refl H) (.bl _)⟩
 ·generalize r1.d=d1 at *
  generalize r2.d=d2 at *
  have hu0:X.A.units<cLine:=by lia
  cases p1 with
  |@tup xs p vs h1 h2 =>
   cases p2 with
   |@tup ys p' ws h1' h2' =>
    cases rx;cases ry
    obtain⟨its,w1,w2,_⟩:=I.tuple h1
    obtain⟨its',w1',w2',_⟩:=I.tuple h1'
    have l1:its.toArray.size=xs.length:=by have:=w1.length;have:=h2.length;simp;lia
    have l2:its'.toArray.size=ys.length:=by have:=w1'.length;have:=h2'.length;simp;lia
    have k:=SeqAt.RcNeAt.tuples (A:=X.A) w2 w2' hu0 (zau5 I (n:=5) (by lia) (by simpa [eqOk] using ok) h2 h2' w1 w1')
    rw [l1,l2,zai5]at k
    exact k _ _ _ _ ⟨.bl _,H,I,rfl,hq _ H (Same.refl H) (.bl _)⟩
   |_=>simp_all [eqOk]
  |@lst xs p vs h1 h2 =>
   cases p2 with
   |@lst ys p' ws h1' h2' =>
    cases rx;cases ry
    obtain⟨its,w1,w2,_⟩:=I.list h1
    obtain⟨its',w1',w2',_⟩:=I.list h1'
    have l1:its.toArray.size=xs.length:=by have:=w1.length;have:=h2.length;simp;lia
    have l2:its'.toArray.size=ys.length:=by have:=w1'.length;have:=h2'.length;simp;lia
    by_cases hl:xs.length=ys.length
    ·have k:=SeqAt.RcNeAt.lists (A:=X.A) (PlainL.isL w2) (PlainL.isL w2') (by rw [l1,l2];exact hl) hu0 (zau5 I (n:=5) (by lia) (by simpa [eqOk] using ok) h2 h2' w1 w1')
     rw [l1,zai6 hl]at k
     exact k _ _ _ _ ⟨.bl _,H,I,rfl,hq _ H (Same.refl H) (.bl _)⟩
    ·have ee:eqD (.lst xs) (.lst ys)=false:=eqD_false.mpr fun z=>hl (by injection z with z;rw [z])
     rw [ee]at hq
     exact SeqAt.RcNeAt.lists_lengths (A:=X.A) (PlainL.isL w2) (PlainL.isL w2') (by rw [l1,l2];simpa using hl) hu0 _ _ _ _ ⟨.bl _,H,I,rfl,hq _ H (Same.refl H) (.bl _)⟩
   |_=>simp_all [eqOk]
  |dct=>exact absurd ok (by cases d2<;>simp [eqOk])
  |pdc=>exact absurd ok (by cases d2<;>simp [eqOk])
  |_=>simp_all [scD]
noncomputable def tyD:D→String
 |.non => "NoneType"
 |.bl _ => "bool"
 |.int _ => "int"
 |.str _ => "str"
 |.tup _ => "tuple"
 |.lst _ => "list"
 |.dct _ _ => "dict"
 |.pdc _ => "dict"
noncomputable def isiT (d:D) (T:String):Bool:=tyD d == T||(tyD d == "bool"&&T == "int")
noncomputable def dIsi (T:String) (f:DE):DE:=fun t=>(f t).bind fun r=>some (.cl (.bl (isiT r.d T)))
noncomputable def IsiOk (K:zbm7) (T:String):Prop := ∀d:D,PySem.W.kitOne K (.type (tyD d)) (.type T)=some (isiT d T)
theorem ped_isi {T:String}{x:Str}{p p2:Pos} (ok:IsiOk X.K T) (ha:PE X a (dE X.K F fa)) (hg:Gl X "isinstance") (hm:X.mg "isinstance"=none) (hgT:Gl X x) (hmT:X.mg x=none) (hvT:bootBuiltins x=some (.type T)) (hnT:x≠"__name__":=by decide) (hdT:(x ==("__debug__":Str))=false:=by decide)
  (he:zbo8 (a::[Expr.Name x p2]) X.env=(false,eval a X.env)::zbo8 [.Name x p2] X.env:=by rfl) (he2:zbo8 [Expr.Name x p2] X.env=[(false,eval (.Name x p2) X.env)]:=by rfl) (hpl:(zbu1 pos (zbo8 [Expr.Name x p2] X.env)).any (·.1)=false:=by rfl) :
  PE X (.Call (.Name "isinstance" p) [a,.Name x p2] [] pos) (dE X.K F (dIsi T fa)):=by
 have rule:zp0 X (.builtin "isinstance") (fun xs H Q => ∃v d,xs=[v,.ty T]∧Rep X.K H d v∧Q (.bl (isiT d T)) H):=by
  intro pins s σ H xs us Q I r h
  obtain⟨v,d,rfl,rp,hq⟩:=h
  obtain⟨u,w',rfl,r1,r2⟩:=vals2 r
  cases (show w'=Value.type T from r2)
  have fin:∀tk,EP X pins σ Q (.bool (isiT d T)) { s with toks:=tk }:=fun tk=>⟨.bl _,H,I.tok tk,rfl,hq⟩
  have e:=ok d
  cases rp with
  |non=>cases (show u=Value.none from r1);exact zbt6 PySem.W.kitx_none I.kIn True.intro e (fun z=>nomatch z) fin
  |bl y=>cases (show u=Value.bool y from r1);exact zbt6 PySem.W.kitx_bool I.kIn True.intro e (fun z=>nomatch z) fin
  |int i=>obtain⟨t,q⟩:=(show ∃t,u=Value.int i t from r1);cases q;exact zbt6 PySem.W.kitx_int I.kIn True.intro e (fun z=>nomatch z) fin
  |str y=>obtain⟨t,q⟩:=(show ∃t,u=Value.str y t from r1);cases q;exact zbt6 PySem.W.kitx_str I.kIn True.intro e (fun z=>nomatch z) fin
  |@tup _ p _ h1 h2 =>
   cases (show u=Value.ref p from r1)
   obtain⟨its,_,⟨o,e1,c1,_⟩,_⟩:=I.tuple h1
   exact zbt6 PySem.W.kitx_tuple I.kIn ⟨o,e1,c1⟩ e (fun z=>nomatch z) fin
  |@lst _ p _ h1 h2 =>
   cases (show u=Value.ref p from r1)
   obtain⟨its,_,⟨o,n,e1,c1,_⟩,_⟩:=I.list h1
   exact zbt6 PySem.W.kitx_list I.kIn ⟨o,e1,c1⟩ e (fun z=>nomatch z) fin
  |@dct _ _ p _ _ h1 h2 =>
   cases (show u=Value.ref p from r1)
   exact zbt6 zcd2 I.kIn (zac4 I h1) e (fun z=>nomatch z) fin
  |@pdc _ p h1 =>
   cases (show u=Value.ref p from r1)
   exact zbt6 zcd2 I.kIn (zab0 I h1) e (fun z=>nomatch z) fin
 refine PE.imp (pe_callB rule hg hm boot_isinstance (zh0 ha (zh0 (pe_bltn (v:=.ty T) hgT hmT hvT rfl hnT hdT) zm1 he2) he) (by decide) (by decide) he hpl) ?_
 rintro σ H Q ⟨A,t,r,R,e,h⟩
 unfold dIsi at e
 cases e1:fa t with
 |none=>rw [e1]at e;cases e
 |some r1 =>
  rw [e1]at e
  cases e
  exact⟨A,t,r1,R,e1,fun v H' gs q=>⟨v,r1.d,rfl,q.full,h _ H' gs (.bl _)⟩⟩
end
noncomputable def zad9 (N:List Str) (ds:List D):Th:=ds.map Sl.val++zbn4 (N.length - ds.length) Sl.no
theorem RSl.no_all {K:zbm7}{H0 H:Hp}:∀n,RSl K H0 H (zbn4 n Sl.no) (zbn4 n none) []
 |0=>.nil
 |n+1=>.no (RSl.no_all n)
theorem RSl.start {K:zbm7}{H0 H:Hp}{t:Th}{σ:L2.St} (r0:RSl K H0 H t σ []):∀ {ds:List D}{vs:List V},Reps K H0 ds vs→RSl K H0 H (ds.map Sl.val++t) (vs.map some++σ) []
 |_,_,.nil=>r0
 |_,_,.cons h r=>.val h (RSl.start r0 r)
noncomputable def zm2:Out→Option Ev
 |.rt r=>some r
 |.nx _=>some (.cl .non)
 |_=>none
theorem zh9 {P:Program}{w:World}{K:zbm7}{mg:Str→Option Value}{base:BHeap}{x qual:Str}{st:Stmt}{f:Addr}{fd:FuncData}{N ps:List Str}{k:Nat}{G:List D→Option Ev} (Fn:L2.Fun K x qual st f fd) (S:FnScope N ps (zc4 st))
  (hlen:∀ds r,G ds=some r→ds.length=ps.length) (g:DS) (hG:∀ds r,G ds=some r→∃o,g (zad9 N ds)=some o∧zm2 o=some r)
  (hbody:∀(cdv:Value) (A:Around) (outer:List Env) (s:zbo3) (H:Hp) (E:XK) (F:List Addr),Room k (A.deeper (envOfC qual (zc4 st) s.heap.objs.size f cdv)) →
   PSs (cxOf CX0 P w K mg base N qual (zc4 st) f cdv A outer s H E).nox (zk7 st) (dS K F g)):FnOk P w K mg base CX0 (k+1) f fd ps (spD K G):=by
 refine Fn.ok S (fun vs H Q E h=>?_) (fun cdv A outer s H vs Q E hr h=>?_)
 ·obtain⟨Fo,ds,r,_,hr,hg,_⟩:=h
  rw [hr.length];exact hlen ds r hg
 ·obtain⟨Fo,ds,r,hl,hr',hg,cont⟩:=h
  obtain⟨o,ho,hoe⟩:=hG ds r hg
  refine⟨_,hbody cdv A outer s H E Fo hr,zbj1 (A:=[]) (t:=zad9 N ds) ⟨hl,zbr7,fun p hp=>(by cases hp),?_⟩ ho ?_⟩
  ·unfold zad9 L2.start
   rw [hr'.length]
   exact RSl.start (RSl.no_all _) hr'
  ·have sm:∀ {A' H'},Gr [] H A' H'→Same H H':=fun g b o q=>g.kp b o (by simp) q
   cases o with
   |nx t' =>
    cases hoe
    exact fun σ' H' A' g' R'=>cont .non H' (sm g') .non
   |bk t'=>cases hoe
   |ct t'=>cases hoe
   |rt r' =>
    cases hoe
    intro v H' A' g' q
    refine cont v H' (sm g') ?_
    cases r with
    |cl d=>exact q
    |tm d=>exact q
    |nw xs =>
     obtain⟨p,vs',rfl,h1,h2,h3,h4⟩:=q
     rcases h1 with h1 | h1
     ·cases h1
     ·exact⟨p,vs',rfl,h1,h3,h4⟩
    |dn d =>
     obtain⟨B,h1,h2,h3⟩:=q
     exact⟨B,h1,fun b hb=>by rcases (h2 b hb).1 with z | z;cases z;exact z,h3⟩
end DL
namespace DL
open PySem.Spec L2
structure Cal (P:Program) (w:World) (K:zbm7) (mg:Str→Option Value) (base:BHeap) (x:Str) (k:Nat) (G:List D→Option Ev):Prop where
 ex:∃(a:Addr) (fd:FuncData) (ps:List Str),mg x=some (.ref a)∧zbs0 K (.ref a)=true∧L2.Binds K fd ps []∧FnOk P w K mg base CX0 k a fd ps (spD K G)
section
variable {X:Cx}{F:List Addr}{a b c:Expr}{es:List Expr}{fa fb fc:DE}{ga:DA}{pos:Pos}
theorem zb2 {k:Nat}{G:List D→Option Ev}{x:Str}{p:Pos} (c:Cal X.prog X.w X.K X.mg X.base x k G) (hr:Room k X.A) (ha:PA X (a::es) (dA X.K F ga)) (hg:Gl X x:=by rfl) (hdb:(x ==("__debug__":Str))=false:=by decide)
  (he:zbo8 (a::es) X.env=(false,eval a X.env)::zbo8 es X.env:=by rfl) (hpl:(zbu1 pos (zbo8 es X.env)).any (·.1)=false:=by rfl):PE X (.Call (.Name x p) (a::es) [] pos) (dE X.K F (dT1 (zb8 G) ga)):=by
 obtain⟨f,fd,ps,h1,h2,h3,h4⟩:=c.ex
 exact ped_call h4 hr hg h1 h2 h3 ha hdb he hpl
end
structure Df (K:zbm7) (mg:Str→Option Value) (x:Str) (st:Stmt) (ps:List Str) (a:Addr) (fd:FuncData):Prop where
 fn:L2.Fun K x x st a fd
 mgx:mg x=some (.ref a)
 bd:L2.Binds K fd ps []
theorem Df.cal {P:Program}{w:World}{K:zbm7}{mg:Str→Option Value}{base:BHeap}{x:Str}{st:Stmt}{ps:List Str}{a:Addr}{fd:FuncData}{k:Nat}{G:List D→Option Ev} (d:Df K mg x st ps a fd) (h:FnOk P w K mg base CX0 k a fd ps (spD K G)):Cal P w K mg base x k G :=
 ⟨a,fd,ps,d.mgx,d.fn.kp,d.bd,h⟩
theorem isi_bool {K:zbm7}:IsiOk K "bool":=fun d=>by cases d<;>rfl
theorem bt_int:bootBuiltins "int"=some (.type "int"):=by decide +kernel
theorem bt_bool:bootBuiltins "bool"=some (.type "bool"):=by decide +kernel
theorem bt_list:bootBuiltins "list"=some (.type "list"):=by decide +kernel
theorem bt_abs:bootBuiltins "abs"=some (.builtin "abs"):=by decide +kernel
end DL
namespace DL
open PySem.Spec L2
theorem cut1 {n:Nat}:∀ {us:List Value},us.length=n+1→∃a t,us=a::t∧t.length=n
 |a::t,h=>⟨a,t,rfl,Nat.succ.inj h⟩
theorem zaf4 {K:zbm7}{x qual:Str}{st:Stmt}{f:Addr}{fd:FuncData}{p0:Str} (F:L2.Fun K x qual st f fd) (h:∀(kV doc pm:Value) (an:Option Addr) (cdv ct:Value),∀a0:Value,bindArgs (zbs7 x qual (zo5 st) (zk7 st) (zc4 st) .none kV doc pm an cdv ct) ⟨[a0],[]⟩=pure [(p0,a0)]):Binds K fd [p0] [] :=
 F.binds fun kV doc pm an cdv ct u0 h0=>by
  obtain⟨a0,u1,rfl,h1⟩:=cut1 h0
  cases zbr9.mp h1
  exact h kV doc pm an cdv ct a0
theorem zt3 {K:zbm7}{x qual:Str}{st:Stmt}{f:Addr}{fd:FuncData}{p0 p1:Str} (F:L2.Fun K x qual st f fd) (h:∀(kV doc pm:Value) (an:Option Addr) (cdv ct:Value),∀a0 a1:Value,bindArgs (zbs7 x qual (zo5 st) (zk7 st) (zc4 st) .none kV doc pm an cdv ct) ⟨[a0,a1],[]⟩=pure [(p0,a0),(p1,a1)]):Binds K fd [p0,p1] [] :=
 F.binds fun kV doc pm an cdv ct u0 h0=>by
  obtain⟨a0,u1,rfl,h1⟩:=cut1 h0
  obtain⟨a1,u2,rfl,h2⟩:=cut1 h1
  cases zbr9.mp h2
  exact h kV doc pm an cdv ct a0 a1
theorem zao2 {K:zbm7}{x qual:Str}{st:Stmt}{f:Addr}{fd:FuncData}{p0 p1 p2:Str} (F:L2.Fun K x qual st f fd) (h:∀(kV doc pm:Value) (an:Option Addr) (cdv ct:Value),∀a0 a1 a2:Value,bindArgs (zbs7 x qual (zo5 st) (zk7 st) (zc4 st) .none kV doc pm an cdv ct) ⟨[a0,a1,a2],[]⟩=pure [(p0,a0),(p1,a1),(p2,a2)]):Binds K fd [p0,p1,p2] [] :=
 F.binds fun kV doc pm an cdv ct u0 h0=>by
  obtain⟨a0,u1,rfl,h1⟩:=cut1 h0
  obtain⟨a1,u2,rfl,h2⟩:=cut1 h1
  obtain⟨a2,u3,rfl,h3⟩:=cut1 h2
  cases zbr9.mp h3
  exact h kV doc pm an cdv ct a0 a1 a2
theorem binds4 {K:zbm7}{x qual:Str}{st:Stmt}{f:Addr}{fd:FuncData}{p0 p1 p2 p3:Str} (F:L2.Fun K x qual st f fd) (h:∀(kV doc pm:Value) (an:Option Addr) (cdv ct:Value),∀a0 a1 a2 a3:Value,bindArgs (zbs7 x qual (zo5 st) (zk7 st) (zc4 st) .none kV doc pm an cdv ct) ⟨[a0,a1,a2,a3],[]⟩=pure [(p0,a0),(p1,a1),(p2,a2),(p3,a3)]):Binds K fd [p0,p1,p2,p3] [] :=
 F.binds fun kV doc pm an cdv ct u0 h0=>by
  obtain⟨a0,u1,rfl,h1⟩:=cut1 h0
  obtain⟨a1,u2,rfl,h2⟩:=cut1 h1
  obtain⟨a2,u3,rfl,h3⟩:=cut1 h2
  obtain⟨a3,u4,rfl,h4⟩:=cut1 h3
  cases zbr9.mp h4
  exact h kV doc pm an cdv ct a0 a1 a2 a3
inductive Hv (K:zbm7) (x:Str) (st:Stmt) (f:Addr):Prop
 |mk {od an:Option Addr}{sl:Array (Option Value)}{oc kV dc pm cd ct:Value} (a:zbr8 K mainGlobals x=some (some (.ref f))) (l:K.lookup f=some ⟨oc,od,.func (zbs7 x x (zo5 st) (zk7 st) (zc4 st) .none kV dc pm an cd ct),sl⟩) (c:zby2 K cd x=true) (k:zbs0 K (.ref f)=true):Hv K x st f
theorem Hv.fn {K:zbm7}{x:Str}{st:Stmt}{f:Addr} (h:Hv K x st f):∃fd,L2.Fun K x x st f fd:=by
 cases h with
 |mk a l c k=>exact⟨_,fun_mk l c k⟩
theorem Hv.mg {K:zbm7}{x:Str}{st:Stmt}{f:Addr}{hp:Heap}{mg:Str→Option Value} (h:Hv K x st f) (X:K.In hp) (G:hp.Ns mainGlobals mg):mg x=some (.ref f):=by
 cases h with
 |mk a l c k=>exact PySem.W.mg_of X G a
theorem zm6 {N P:List Str}{sc:Scope} (h1:sc.kind=.function) (h2:sc.isCoroutine=false) (h3:sc.isGenerator=false) (h5:N.take P.length=P) (h:(decide N.Nodup&&(decide (∀x∈P,sc.names.lookup x=some .local∨sc.names.lookup x=some .cell)&&decide (∀y∈sc.names,y.2≠.free)))=true):FnScope N P sc:=by
 rw [zbo2,zbo2,decide_eq_true_eq,decide_eq_true_eq,decide_eq_true_eq]at h
 exact⟨h1,h2,h3,h.1,h5,h.2.1,h.2.2⟩
theorem Hv.bt {K:zbm7}{x:Str}{st:Stmt}{f:Addr}{fd:FuncData}{p:Str} (F:L2.Fun K x x st f fd) (h:∀(kV doc pm:Value) (an:Option Addr) (cdv ct:Value) (v:Value),bindArgs (zbs7 x x (zo5 st) (zk7 st) (zc4 st) .none kV doc pm an cdv ct) ⟨[v],[]⟩=pure [(p,v)]) (s:zbo3) (v:Value):BindsTo s fd ⟨[v],[]⟩ [(p,v)]:=by
 obtain⟨oc,od,kV,doc,pm,an,cdv,ct,osl,rfl,lk,hcd⟩:=F.ex
 exact .of_eq (h ..)
noncomputable def locB (sc:Scope) (x:Str):Bool:=match sc.names.lookup x with
 |some .local=>true
 |some .cell=>true
 |_=>false
theorem za8 {sc:Scope}{x:Str} (h:locB sc x=true):L2.Loc sc x:=by
 unfold locB at h
 unfold L2.Loc
 cases e:sc.names.lookup x with
 |none=>rw [e]at h;cases h
 |some k=>rw [e]at h;cases k<;>first | exact .inl rfl | exact .inr rfl | cases h
end DL
namespace L2
open PySem.Spec
noncomputable def clOf (cells:List (Str×Addr)):List (Str×NameKind)→List (Str×Addr)→List (Str×Addr)
 |[],acc=>acc
 |(n,k)::r,acc=>if k == .free then clOf cells r ((n,(cells.lookup n).getD 0)::acc) else clOf cells r acc
theorem zu9 {cells:List (Str×Addr)}:∀ {names:List (Str×NameKind)}{acc:List (Str×Addr)}{x:Str}{c:Addr},(∀y∈names,y.2=.free→∃c,cells.lookup y.1=some c)→(clOf cells names acc).lookup x=some c→acc.lookup x=some c∨cells.lookup x=some c
 |[],acc,x,c,_,h=>.inl h
 |(n,k)::r,acc,x,c,hy,h=>by
  unfold clOf at h
  have hr:∀y∈r,y.2=.free→∃c,cells.lookup y.1=some c:=fun y h1=>hy y (zbm9 _ h1)
  split at h
  ·rename_i hk
   rcases zu9 hr h with z | z
   ·rw [zbq2]at z
    split at z
    ·rename_i e
     have e:x=n:=by simpa using e
     obtain⟨c',hc'⟩:=hy (n,k) (zbn1 ..) (by simpa using hk)
     simp only [hc',zbu0]at z
     cases z
     rw [e];exact .inr hc'
    ·exact .inl z
   ·exact .inr z
  ·exact zu9 hr h
theorem zad1 {cells:List (Str×Addr)}:∀ {names:List (Str×NameKind)}{acc:List (Str×Addr)}{x:Str},(∃c,acc.lookup x=some c)→∃c,(clOf cells names acc).lookup x=some c
 |[],acc,x,h=>h
 |(n,k)::r,acc,x,h=>by
  unfold clOf
  split
  ·refine zad1 ?_
   rw [zbq2]
   split
   ·exact⟨_,rfl⟩
   ·exact h
  ·exact zad1 h
theorem zz6 {cells:List (Str×Addr)}:∀ {names:List (Str×NameKind)}{acc:List (Str×Addr)}{x:Str},(x,NameKind.free)∈names→∃c,(clOf cells names acc).lookup x=some c
 |(n,k)::r,acc,x,h=>by
  unfold clOf
  rcases zbn5.mp h with z | z
  ·cases z
   rw [if_pos (by rfl)]
   refine zad1 ⟨(cells.lookup n).getD 0,?_⟩
   simp [zbq2]
  ·split
   ·exact zz6 z
   ·exact zz6 z
theorem zx6 {scope:Scope}{env:Env} (h:∀y∈scope.names,y.2=.free→∃c,env.cells.lookup y.1=some c):closureFor scope env=pure (clOf env.cells scope.names []):=by
 unfold closureFor
 have key:∀(names:List (Str×NameKind)) (acc:List (Str×Addr)),(∀y∈names,y.2=.free→∃c,env.cells.lookup y.1=some c) →
   (forIn names acc fun (x:Str×NameKind) (cs:List (Str×Addr))=>(do
    if x.2 == .free then
     let a ← cellOf env x.1
     pure (ForInStep.yield ((x.1,a)::cs))
    else pure (ForInStep.yield cs):Sem (ForInStep (List (Str×Addr)))))=pure (clOf env.cells names acc):=by
  intro names
  induction names with
  |nil=>intro acc _;rfl
  |cons y r ih =>
   intro acc hy
   obtain⟨n,k⟩:=y
   have hr:∀y∈r,y.2=.free→∃c,env.cells.lookup y.1=some c:=fun y h1=>hy y (zbm9 _ h1)
   rw [List.forIn_cons]
   unfold clOf
   by_cases hk:(k == NameKind.free)=true
   ·obtain⟨c,hc⟩:=hy (n,k) (zbn1 ..) (by simpa using hk)
    have hc':cellOf env n=pure c:=by unfold cellOf;rw [hc]
    simp only [hk,if_true,hc']
    rw [← ih _ hr]
    simp only [hc,zbu0]
    rfl
   ·have hk':(k == NameKind.free)=false:=by simpa using hk
    simp only [hk',zbv2,if_false]
    rw [← ih _ hr]
    rfl
 have:=key scope.names [] h
 simp only [bind_pure_comp]at this ⊢
 rw [this]
 rfl
theorem zi1 {env:Env}:∀ {names:List (Str×NameKind)}{x:Str}{k':NameKind},(names.map fun (n,k)=>if (k == NameKind.free&&env.scope.kind == .function&&env.kindOf n == some .cell) then (n,NameKind.cell) else (n,k)).lookup x=some k' →
  ∃k,(x,k)∈names∧(k'=k∨(k=.free∧k'=.cell))
 |[],x,k',h=>by simp at h
 |(n,k)::r,x,k',h=>by
  rw [zbn7]at h
  by_cases hc:(k == NameKind.free&&env.scope.kind == .function&&env.kindOf n == some .cell)=true
  ·simp only [hc,if_true,zbq2]at h
   split at h
   ·rename_i e
    have e:x=n:=by simpa using e
    cases h
    simp only [zbo2,beq_iff_eq]at hc
    have hk:k=.free:=by simpa using hc.1.1
    exact⟨k,by rw [e];exact zbn1 ..,.inr ⟨hk,rfl⟩⟩
   ·obtain⟨q,a,b⟩:=zi1 h
    exact⟨q,zbm9 _ a,b⟩
  ·have hc':(k == NameKind.free&&env.scope.kind == .function&&env.kindOf n == some .cell)=false:=by simpa using hc
   simp only [hc',zbv2,if_false,zbq2]at h
   split at h
   ·rename_i e
    have e:x=n:=by simpa using e
    cases h
    exact⟨_,by rw [e];exact zbn1 ..,.inl rfl⟩
   ·obtain⟨q,a,b⟩:=zi1 h
    exact⟨q,zbm9 _ a,b⟩
theorem zy2 {prog:Program}{w:World}{A:Around}{R:Result→zbo3→Prop}{s:zbo3}{elt target iter:Expr}{ifs:List Expr}{scope:Scope}{pos:Pos}{it acc:Value}{env:Env} (I:Nat→zbo3→Prop)
  (turn:∀n s,I n s→wpAny (model prog w) A (pyNext it) (fun r s₁=>match r with
   |none=>R (.ok .next) s₁
   |some v=>wpAny (model prog w) A (letOwnedTupleGo target it v) (fun _ s₁'=>wpAny (model prog w) A (assign target env v) (fun _ s₂ =>
     wpAny (model prog w) A (forIn ifs true fun c r=>if r=true then do let ok ← isTrue c env (eval c env);pure (ForInStep.yield ok) else pure (ForInStep.yield r)) (fun ok s₃ =>
      if ok=true then wpAny (model prog w) A (eval elt env) (fun x s₄ =>
       wpAny (model prog w) A (call (.builtin "list.append") [acc,x]) (fun _ s₅ => ∃m,m<n∧I m s₅) (fun _ _=>False) s₄) (fun _ _=>False) s₃
      else ∃m,m<n∧I m s₃) (fun _ _=>False) s₂) (fun _ _=>False) s₁') (fun _ _=>False) s₁) (fun _ _=>False) s)
  (n:Nat) (h:I n s):codeAny (model prog w) A (.compLoop (.ListComp elt [⟨target,iter,ifs,0⟩] scope pos) 0 it acc env) R s:=by
 refine codeAny_loop rfl I (fun n s hI=>?_) n h
 show wpAny _ A ((compTurn (.ListComp elt [⟨target,iter,ifs,0⟩] scope pos) 0 it acc env).onRaise (fun x=>do noteFrame x env;theTreesLotGoes x)) _ _ s
 refine wpAny_noted ?_
 rw [compTurn_list]
 refine zbn6 (wpAny_standAt (zbn6 (wpAny_mono (turn n s hI) (fun r s₁ h₁=>?_) fun _ _ h'=>h'.elim)))
 cases r with
 |none=>exact zbp3 h₁
 |some v =>
  refine zbn6 (wpAny_mono h₁ (fun _ s₁' h₁'=>?_) fun _ _ h'=>h'.elim)
  refine zbn6 (wpAny_mono h₁' (fun _ s₂ h₂=>zbn6 (wpAny_mono h₂ (fun ok s₃ h₃=>?_) fun _ _ h'=>h'.elim)) fun _ _ h'=>h'.elim)
  cases ok with
  |false=>exact zbp3 ⟨rfl,h₃⟩
  |true =>
   exact zbn6 (zbn6 (wpAny_mono h₃ (fun x s₄ h₄=>zbn6 (wpAny_mono h₄ (fun _ s₅ h₅=>zbp3 (zbp3 ⟨rfl,h₅⟩)) fun _ _ h'=>h'.elim)) fun _ _ h'=>h'.elim))
theorem zah7 {x:Str}{c:Addr}:∀ {names:List (Str×NameKind)}{n:Nat}{acc:List (Str×Addr)},(cellsFrom n names acc).lookup x=some c→acc.lookup x=some c∨n≤c
 |[],n,acc,h=>.inl h
 |(y,k)::r,n,acc,h=>by
  unfold cellsFrom at h
  split at h
  ·rcases zah7 h with z | z
   ·rw [zbq2]at z
    split at z
    ·cases z;exact .inr (zbp4 _)
    ·exact .inl z
   ·exact .inr (by lia)
  ·exact zah7 h
theorem zax5 {x:Str}:∀ {names:List (Str×NameKind)}{n:Nat}{acc:List (Str×Addr)},(∃c,acc.lookup x=some c)→∃c,(cellsFrom n names acc).lookup x=some c
 |[],n,acc,h=>h
 |(y,k)::r,n,acc,h=>by
  unfold cellsFrom
  split
  ·refine zax5 ?_
   rw [zbq2]
   split
   ·exact⟨_,rfl⟩
   ·exact h
  ·exact zax5 h
theorem zas9 {x:Str}:∀ {names:List (Str×NameKind)}{n:Nat}{acc:List (Str×Addr)},(x,NameKind.cell)∈names→∃c,(cellsFrom n names acc).lookup x=some c
 |(y,k)::r,n,acc,h=>by
  unfold cellsFrom
  rcases zbn5.mp h with z | z
  ·cases z
   rw [if_pos (by rfl)]
   exact zax5 ⟨n,by simp [zbq2]⟩
  ·split
   ·exact zas9 z
   ·exact zas9 z
theorem cf_ge {x:Str}{c:Addr}{lo:Nat}:∀ {names:List (Str×NameKind)}{n:Nat}{acc:List (Str×Addr)},lo≤n→(∀c,acc.lookup x=some c→lo≤c)→(cellsFrom n names acc).lookup x=some c→lo≤c
 |[],n,acc,_,ha,h=>ha c h
 |(y,k)::r,n,acc,hn,ha,h=>by
  unfold cellsFrom at h
  split at h
  ·refine cf_ge (n:=n+1) (by lia) (fun c' h'=>?_) h
   rw [zbq2]at h'
   split at h'
   ·cases h';exact hn
   ·exact ha c' h'
  ·exact cf_ge hn ha h
theorem zbk2 {x:Str}{c:Addr}:∀ {names:List (Str×NameKind)}{n:Nat}{acc:List (Str×Addr)},(x,NameKind.cell)∈names→(cellsFrom n names acc).lookup x=some c→n≤c
 |(y,k)::r,n,acc,hm,h=>by
  unfold cellsFrom at h
  rcases zbn5.mp hm with z | z
  ·cases z
   rw [if_pos (by rfl)]at h
   refine cf_ge (lo:=n) (n:=n+1) (by lia) (fun c' h'=>?_) h
   rw [zbq2,beq_self_eq_true]at h'
   cases h'
   exact zbp4 _
  ·split at h
   ·have:=zbk2 z h;lia
   ·exact zbk2 z h
theorem zbk1 {x:Str}:∀ {names:List (Str×NameKind)}{n:Nat}{acc:List (Str×Addr)},(x,NameKind.cell)∉names→(cellsFrom n names acc).lookup x=acc.lookup x
 |[],n,acc,_=>rfl
 |(y,k)::r,n,acc,h=>by
  have hr:(x,NameKind.cell)∉r:=fun z=>h (zbm9 _ z)
  unfold cellsFrom
  split
  ·rename_i hk
   rw [zbk1 hr,zbq2]
   split
   ·rename_i e
    exact absurd (zbn5.mpr (.inl (by rw [show x=y by simpa using e,show k=NameKind.cell by simpa using hk]))) h
   ·rfl
  ·exact zbk1 hr
theorem zbk3:∀ {names:List (Str×NameKind)}{n:Nat}{acc:List (Str×Addr)},(∀x c,acc.lookup x=some c→c<n)→(∀x y c,acc.lookup x=some c→acc.lookup y=some c→x=y) →
  ∀x y c,(cellsFrom n names acc).lookup x=some c→(cellsFrom n names acc).lookup y=some c→x=y
 |[],n,acc,_,hi=>hi
 |(z,k)::r,n,acc,hb,hi=>by
  unfold cellsFrom
  split
  ·refine zbk3 (n:=n+1) (fun x c h=>?_) (fun x y c h1 h2=>?_)
   ·rw [zbq2]at h
    split at h
    ·cases h;exact zbs1 _
    ·exact zbu6 (hb x c h)
   ·rw [zbq2]at h1 h2
    split at h1
    ·rename_i e1
     cases h1
     split at h2
     ·rename_i e2;rw [show x=z by simpa using e1,show y=z by simpa using e2]
     ·exact absurd (hb y _ h2) (zbt0 _)
    ·split at h2
     ·cases h2;exact absurd (hb x _ h1) (zbt0 _)
     ·exact hi x y c h1 h2
  ·exact zbk3 hb hi
theorem zat0 {x:Str}{c:Addr}:∀ {names:List (Str×NameKind)}{h:Heap}{acc:List (Str×Addr)},(∀c,acc.lookup x=some c→∃v,h.IsCell c v)→(cellsFrom h.objs.size names acc).lookup x=some c→∃v,(pushCells h names).IsCell c v
 |[],h,acc,ha,e=>ha c e
 |(y,k)::r,h,acc,ha,e=>by
  unfold cellsFrom at e
  unfold pushCells
  split at e
  ·rename_i hk
   rw [if_pos hk]
   rw [show h.objs.size+1=(h.push { cls:=.type "cell",data:=.cell none }).objs.size from (zbu4 ..).symm]at e
   refine zat0 (fun c' e'=>?_) e
   rw [zbq2]at e'
   split at e'
   ·cases e';exact⟨none,_,zbp5 _ rfl,rfl⟩
   ·obtain⟨v,z⟩:=ha c' e'
    exact⟨v,z.keeps fun b o q=>zbn8 _ q⟩
  ·rename_i hk
   rw [if_neg hk]
   exact zat0 ha e
theorem zn8 {M:Model}{A:Around}{E:Value→zbo3→Prop}{s:zbo3}{scope:Scope}{globals:Addr}{cl:List (Str×Addr)}{qual:Str}{func:Option Addr}{code:Value}{env:Env}{builtins:Addr}{Q:Env→zbo3→Prop}
  (hQ:∀h',h'.Ns s.heap.objs.size (fun _=>none)→(∀b o,s.heap.get? b=some o→h'.get? b=some o)→(∀x c,(∀c,cl.lookup x=some c→∃v,s.heap.IsCell c v)→(cellsFrom (s.heap.objs.size+1) scope.names cl).lookup x=some c→∃v,h'.IsCell c v) →
   Q (newEnv scope s.heap.objs.size globals (cellsFrom (s.heap.objs.size+1) scope.names cl) qual func code (some env) builtins) { s with heap:=h',toks:=s.toks }) :
  wpAny M A (newFunctionEnv scope globals cl [] qual func code (some env) builtins) Q E s:=by
 simp only [newFunctionEnv,zcc3,if_true]
 refine zbn6 (wpAny_alloc ?_)
 refine zbn6 (wpAny_layCells _ (fun name kind cells=>by cases hkc:kind == NameKind.cell<;>simp [hkc]) _ _ _ _ ?_)
 have sz:(s.heap.push { cls:=.type "dict",data:=.dict #[] }).objs.size=s.heap.objs.size+1:=zbu4 ..
 rw [show ({ s with heap:=s.heap.push { cls:=.type "dict",data:=.dict #[] } }:zbo3).heap.objs.size=s.heap.objs.size+1 from sz]
 rw [List.forIn_nil]
 refine zbn6 (zbp3 (zbp3 ?_))
 refine hQ _ ((Heap.Ns.new s.heap (.type "dict")).keeps (pushCells_keeps _ _)) (fun b o e=>pushCells_keeps _ _ b o (zbn8 _ e)) fun x c ha e=>?_
 rw [← sz]at e
 exact zat0 (fun c' e'=>let ⟨v,z⟩:=ha c' e';⟨v,z.keeps fun b o q=>zbn8 _ q⟩) e
noncomputable abbrev blk (X:Cx) (N':List Str) (scope:Scope) (C:Addr) (s₃:zbo3) (H₃:Hp) (fp:List Addr) (pins:List (Addr×Obj)):Cx :=
 { X with N:=N',s₀:=s₃,H₀:=H₃,env:=compEnvC scope (cellsFrom (C+1) scope.names (clOf X.env.cells scope.names [])) C X.env,outer:=X.stack,stack:=X.stack,ex:=fp,fn:=fun x=>scope.names.lookup x == some .cell,calm:=true,pn:=X.pn++pins,xe:=fun _ _=>False }
structure CompSc (X:Cx) (scope:Scope):Prop where
 kind:scope.kind=.function
 free:∀y∈scope.names,y.2=.free→X.env.kindOf y.1=some .cell∨X.env.kindOf y.1=some .free
 names:∀y∈scope.names,scope.names.lookup y.1=some y.2
section
variable {X:Cx}{pins:List (Addr×Obj)}{σ:L2.St}{H:Hp}{s:zbo3}{scope:Scope}{N':List Str}{fp:List Addr}
theorem CompSc.frees (S:CompSc X scope) (ok:X.Ok):∀y∈scope.names,y.2=.free→∃c,X.env.cells.lookup y.1=some c:=fun y hy hf=>ok.has y.1 (S.free y hy hf)
theorem CompSc.cells (S:CompSc X scope) (ok:X.Ok) {x:Str}{c:Addr} (h:(clOf X.env.cells scope.names []).lookup x=some c):X.env.cells.lookup x=some c:=by
 rcases zu9 (S.frees ok) h with z | z
 ·simp at z
 ·exact z
theorem CompSc.nc (S:CompSc X scope) {x:Str} (h:(x,NameKind.free)∈scope.names):(x,NameKind.cell)∉scope.names:=fun z=>by
 have w1:=S.names _ h
 have w2:=S.names _ z
 rw [show (x,NameKind.cell).1=(x,NameKind.free).1 from rfl,w1]at w2
 cases w2
theorem CompSc.cls (S:CompSc X scope) (I:Inv X pins σ H s) {x:Str}{c:Addr} (h:(clOf X.env.cells scope.names []).lookup x=some c):c<s.heap.objs.size:=by
 obtain⟨v,o,ho,_⟩:=I.cell x c (S.cells I.ok h)
 exact zbo6 ho
theorem CompSc.old (S:CompSc X scope) (I:Inv X pins σ H s) {x:Str}{c:Addr} (h:(cellsFrom (s.heap.objs.size+1) scope.names (clOf X.env.cells scope.names [])).lookup x=some c):X.env.cells.lookup x=some c∨s.heap.objs.size<c:=by
 rcases zah7 h with z | z
 ·exact .inl (S.cells I.ok z)
 ·exact .inr z
theorem blk_ok (I:Inv X pins σ H s) (S:CompSc X scope) (hc:X.calm=true) (hf:∀b∈fp,FpOk X pins H b) (hlt:∀b∈fp,b<s.heap.objs.size):(blk X N' scope s.heap.objs.size s H fp pins).Ok where
 mod:=I.ok.mod
 kind:=S.kind
 glob:=I.ok.glob
 blt:=I.ok.blt
 above:=zbp4 _
 inj:=zbk3 (fun x c h=>zbu6 (S.cls I h)) fun x y c h1 h2=>I.ok.inj x y c (S.cells I.ok h1) (S.cells I.ok h2)
 has:=fun x hx=>by
  have hx:(relabel scope X.env).names.lookup x=some .cell∨(relabel scope X.env).names.lookup x=some .free:=hx
  have:(x,NameKind.free)∈scope.names∨(x,NameKind.cell)∈scope.names:=by
   rcases hx with hx | hx
   ·obtain⟨k,a,b⟩:=zi1 hx
    rcases b with b | b
    ·rw [← b]at a;exact .inr a
    ·rw [b.1]at a;exact .inl a
   ·obtain⟨k,a,b⟩:=zi1 hx
    rcases b with b | b
    ·rw [← b]at a;exact .inl a
    ·cases b.2
  rcases this with z | z
  ·exact zax5 (zz6 z)
  ·exact zas9 z
 cab:=fun x c h e=>by
  have h:(scope.names.lookup x == some NameKind.cell)=true:=h
  have h:scope.names.lookup x=some .cell:=by simpa using h
  exact Nat.le_of_succ_le (zbk2 (PySem.mem_of_lookup h) e)
 hd:=fun _=>I.ok.hd hc
 frames:=I.ok.frames
 stk:=.inl rfl
 exf:=fun b hb=>⟨zbp8 (hlt b hb),fun x c h=>by
  rcases S.old I h with z | z
  ·exact (hf b hb).2.2.2.2.1 x c z
  ·exact zbw0 (zby4 (hlt b hb) z)⟩
 bs:=fun b o e=>I.bs b o e
 bsz:=zbs6 I.ok.bsz I.sz
 noex:=fun b o e hb=>by
  rcases (hf b hb).2.2.2.1 with z | z
  ·exact I.ok.noex b o e z
  ·exact absurd (zbo7 (zbo6 e) (zbs6 I.ok.bsz z)) (zbt0 _)
 exfs:=fun b hb z=>(zbn5.mp (I.stkSub b z)).elim (hf b hb).2.1 (hf b hb).2.2.1
 funs:=I.stack
 frf:=I.stkFree
 tabs:=fun p hp=>I.base.tbls _ _ (I.ok.tabs p hp)
theorem zat2 (I:Inv X pins σ H s) (S:CompSc X scope) (hc:X.calm=true) (hf:∀b∈fp,FpOk X pins H b) (hlt:∀b∈fp,b<s.heap.objs.size) {h1:Heap}{t1:Nat}{m:Str→Option Value}{σ':L2.St}
  (hns:h1.Ns s.heap.objs.size m) (hk:∀b o,s.heap.get? b=some o→h1.get? b=some o) (hcl:∀x c,(∀c,(clOf X.env.cells scope.names []).lookup x=some c→∃v,s.heap.IsCell c v)→(cellsFrom (s.heap.objs.size+1) scope.names (clOf X.env.cells scope.names [])).lookup x=some c→∃v,h1.IsCell c v) (hl:σ'.length=N'.length)
  (cap:∀(i:Nat) (x:Str) (v:V),N'[i]?=some x→σ'[i]?=some (some v)→(x,NameKind.free)∈scope.names∧∃j:Nat,X.N[j]?=some x∧σ[j]?=some (some v)) :
  Inv (blk X N' scope s.heap.objs.size s H fp pins) [] σ' H { s with heap:=h1,toks:=t1 } where
 ok:=blk_ok I S hc hf hlt
 os:=rfl
 bare:=I.bare
 base:=Un.kept hk
 loc:=⟨m,hns,fun i x v e1 e2 vs=>by
  obtain⟨hfree,j,j1,j2⟩:=cap i x v e1 e2
  obtain⟨m0,hn0,hl0⟩:=I.loc
  have vis:Vis X.env.scope x:=by
   rcases S.free _ hfree rfl with z | z
   ·exact .inr (.inl z)
   ·exact .inr (.inr z)
  obtain⟨u,r,l⟩:=hl0 j x v j1 j2 vis
  refine⟨u,r,?_⟩
  rcases l with ⟨k,_⟩ | ⟨k,c,e,z⟩
  ·exfalso
   rcases S.free _ hfree rfl with q | q
   ·rw [k]at q;cases q
   ·rw [k]at q;cases q
  ·obtain⟨c',hc'⟩:=zz6 (cells:=X.env.cells) (acc:=[]) hfree
   have e':=S.cells I.ok hc'
   rw [e]at e';cases e'
   refine .inr ⟨?_,c,by rw [show (blk X N' scope s.heap.objs.size s H fp pins).env.cells.lookup x=_ from zbk1 (S.nc hfree)];exact hc',?_⟩
   ·have vs:(relabel scope X.env).names.lookup x=some .local∨(relabel scope X.env).names.lookup x=some .cell∨(relabel scope X.env).names.lookup x=some .free:=vs
    rcases vs with q | q
    ·obtain⟨k2,a,b⟩:=zi1 q
     rcases b with b | b
     ·rw [← b]at a
      have w1:=S.names _ a
      have w2:=S.names _ hfree
      rw [show (x,NameKind.local).1=(x,NameKind.free).1 from rfl,w2]at w1
      cases w1
     ·cases b.2
    ·exact q
   ·obtain⟨o,ho,hd⟩:=z
    exact⟨o,hk _ _ ho,hd⟩⟩
 cell:=fun x c h=>hcl x c (fun c' h'=>I.cell x c' (S.cells I.ok h')) h
 free:=I.hok.fresh (zbp4 _)
 freeC:=fun x c h=>by
  rcases S.old I h with z | z
  ·exact I.freeC x c z
  ·exact I.hok.fresh (zby1 z)
 pin:=fun p hp=>by
  have hp:p∈(X.pn++pins)++[]:=hp
  rw [zbr4]at hp
  obtain⟨a,b,c,d,e⟩:=I.pin p hp
  exact⟨hk _ _ a,b,zbp8 (zbo6 a),fun z=>(zbn5.mp (I.stkSub _ z)).elim c d,e⟩
 hok:=I.hok.kept hk
 len:=hl
theorem zai2 {H3 H':Hp}{s':zbo3}{h'':Heap}{σ':L2.St}{C:Addr}{pins':List (Addr×Obj)} (I:Inv X pins σ H3 s) (hf:∀b∈fp,FpOk X pins H3 b) (hC:C=s.heap.objs.size) (I':Inv (blk X N' scope C s H3 fp pins) pins' σ' H' s') (hb:Heap.SameBut C s'.heap h''):Inv X pins σ H' { s' with heap:=h'' }:=by
 subst hC
 have bs:Un (frs X.stack) fp H3 H' s.heap s'.heap:=I'.base
 have nC:∀b o,s.heap.get? b=some o→b≠s.heap.objs.size:=fun b o e=>zbp8 (zbo6 e)
 have tr:∀b,b≠s.heap.objs.size→h''.get? b=s'.heap.get? b:=fun b n=>hb.2 b n
 have u:Un (frs X.stack) fp H3 H' s.heap h'' :=
  ⟨fun b o e n h1 h2=>(tr b (nC b o e)).trans (bs.keep b o e n h1 h2),fun b o e n h1 h2=>by obtain⟨sl,q⟩:=bs.slot b o e n h1 h2;exact⟨sl,(tr b (nC b o e)).trans q⟩,bs.free,
   fun b o e h1=>by obtain⟨o',q⟩:=bs.there b o e h1;exact⟨o',(tr b (nC b o e)).trans q⟩,bs.tups,bs.frzs,bs.tbls⟩
 have cf:H' s.heap.objs.size=none:=I'.free
 have hok:HOk X.prog X.w H' h'':=fun b o e=>by
  have nb:b≠s.heap.objs.size:=fun z=>by rw [z,cf]at e;cases e
  refine (I'.hok b o e).stay (fun c v hc q=>(tr c ?_).trans q) (fun _ q=>q) (fun _ _ q=>q) fun _ _ _ q=>q
  rcases hc with w | w
  ·rw [w];exact nb
  ·exact fun z=>by rw [z,cf]at w;cases w
 obtain⟨h0,g0,d0,t0,o0⟩:=s'
 have e:o0=s.os:=I'.os
 subst e
 exact I.call (g':=g0) (t':=t0) (d':=d0) u hok I'.bare fun b hb'=>by
  obtain⟨f0,f1,f2,f3,f4,f5⟩:=hf b hb'
  exact⟨f3,f1,f4,f5⟩
end
end L2
namespace L2
open PySem.Spec
noncomputable def PTs (Y:Cx) (ifs:List Expr) (t:TT):Prop :=
 ∀(pins:List (Addr×Obj)) (s:zbo3) (σ:L2.St) (H:Hp) (Q:Bool→Hp→Prop),Inv Y pins σ H s→t σ H Q →
  wpAny (model Y.prog Y.w) Y.A (forIn ifs true fun c r=>if r=true then do let ok ← isTrue c Y.env (eval c Y.env);pure (ForInStep.yield ok) else pure (ForInStep.yield r)) (TP Y pins σ Q) Y.xe s
theorem pts_nil {Y:Cx}:PTs Y [] (fun _ H Q=>Q true H):=fun pins s σ H Q I h=>wpAny_tests_nil ⟨H,I,h⟩
noncomputable def capV (n:Nat) (cap:List Nat) (σ:L2.St):L2.St:=zbn4 n none++cap.map fun j=>(σ[j]?).getD none
noncomputable def zap2 (n:Nat) (cap:List Nat) (wi:TI) (g:TG) (tt:TT) (te:TE):TE:=fun σ H Q=>wi σ H fun J H1 => ∀D,H1 D=none→∃W:Nat→Nat→L2.St→Hp→Prop,(∃m,W 0 m (capV n cap σ) (upd H1 D (.lst [])))∧∀i m σ' H',W i m σ' H' →
 (J.stop i H'∧Q (.ref D) H')∨(J.go i H'∧∃N:L2.St→Hp→Prop,(∀σ'' H'',N σ'' H''→∃m',m' < m∧W (i+1) m' σ'' H'')∧∀x H2,J.yld i H' x H2→g x σ' H2 fun σ2 H3=>tt σ2 H3 fun b H4 =>
  if b=true then te σ2 H4 fun v H5 => ∃vs,H5 D=some (.lst vs)∧vs.length<sizeLine∧N σ2 (upd H5 D (.lst (vs++[v]))) else N σ2 H4)
theorem zbe6 {X:Cx}{elt tg iter:Expr}{ifs:List Expr}{scope:Scope}{pos:Pos}{n:Nat}{cap:List Nat}{N':List Str}{wi:TI}{g:TG}{tt:TT}{te:TE} (S:CompSc X scope) (hc:X.calm=true) (hi:PI X tg iter wi)
  (hN:N'.length=n+cap.length) (hcap:∀(k:Nat) (j:Nat),cap[k]?=some j→∃x,N'[n+k]?=some x∧X.N[j]?=some x∧(x,NameKind.free)∈scope.names)
  (hg:∀C s₃ H₃ fp pins,PG (blk X N' scope C s₃ H₃ fp pins) tg g) (ht:∀C s₃ H₃ fp pins,PTs (blk X N' scope C s₃ H₃ fp pins) ifs tt) (he:∀C s₃ H₃ fp pins,PE (blk X N' scope C s₃ H₃ fp pins) elt te)
  (hs:∀x,foldedSetIterable iter X.env x=pure x:=by intro _;rfl):PE X (.ListComp elt [⟨tg,iter,ifs,0⟩] scope pos) (zap2 n cap wi g tt te):=by
 intro pins s σ H Q I h
 rw [eval_ListComp]
 refine wpAny_comprehension_free (use:=none) rfl hs (zx6 (S.frees I.ok)) S.kind (fun x hx hl=>by rw [S.names x hx,hl]) (thn (hi pins s σ H _ I h) fun v s1 h1=>thn h1 fun itv s2 h2=>?_)
 obtain⟨it,fp,tn,J,H2,e,I2,T,st2,f2,R⟩:=h2
 subst e
 have lt2:∀b∈fp,b<s2.heap.objs.size:=fun b hb=>by obtain⟨o,e,_⟩:=T.obj _ _ st2 b hb;exact zbo6 e
 have hD:H2 s2.heap.objs.size=none:=I2.fresh
 obtain⟨W,⟨m0,w0⟩,turn⟩:=R s2.heap.objs.size hD
 have I3:Inv X pins σ (upd H2 s2.heap.objs.size (.lst [])) { s2 with heap:=s2.heap.push { cls:=.type "list",data:=.seq ([]:List Value).toArray },toks:=s2.toks }:=I2.lnew (t':=s2.toks) .nil (by simp)
 have f3:∀b∈fp,FpOk X pins (upd H2 s2.heap.objs.size (.lst [])) b:=fun b hb=>⟨by rw [zc8 (zbp8 (lt2 b hb))];exact (f2 b hb).1,(f2 b hb).2⟩
 refine wpAny_newObj_type (zn8 fun h₁ hns₁ hk hcl₁=>?_)
 have lt3:∀b∈fp,b<(s2.heap.push { cls:=.type "list",data:=.seq ([]:List Value).toArray }).objs.size:=fun b hb=>by rw [zbu4];exact zbu6 (lt2 b hb)
 have I4:Inv (blk X N' scope (s2.heap.push { cls:=.type "list",data:=.seq ([]:List Value).toArray }).objs.size { s2 with heap:=s2.heap.push { cls:=.type "list",data:=.seq ([]:List Value).toArray },toks:=s2.toks } (upd H2 s2.heap.objs.size (.lst [])) fp pins) [] (capV n cap σ) (upd H2 s2.heap.objs.size (.lst [])) { s2 with heap:=h₁,toks:=s2.toks } :=
  zat2 I3 S hc f3 lt3 (t1:=s2.toks) hns₁ hk hcl₁ (by simp [capV,hN]) (fun i x v e1 e2=>by
   unfold capV at e2
   by_cases hi:i<n
   ·rw [zbt8 (by simpa using hi),zbq1]at e2
    split at e2<;>cases e2
   ·rw [zbt5 (by simpa using hi),zbr1,zbp7]at e2
    cases ej:cap[i - n]? with
    |none=>rw [ej]at e2;cases e2
    |some j =>
     rw [ej]at e2
     obtain⟨x',a1,a2,a3⟩:=hcap (i - n) j ej
     have:n+(i - n)=i:=by lia
     rw [this,e1]at a1
     cases a1
     refine⟨a3,j,a2,?_⟩
     have e2:(σ[j]?).getD none=some v:=by simpa using e2
     cases q:σ[j]? with
     |none=>rw [q]at e2;cases e2
     |some z=>rw [q]at e2;have:z=some v:=e2;rw [this])
 have loop:codeAny (model X.prog X.w) X.A (.compLoop (.ListComp elt [⟨tg,iter,ifs,0⟩] scope pos) 0 (.ref it) (.ref s2.heap.objs.size) (compEnvC scope (cellsFrom ((s2.heap.push { cls:=.type "list",data:=.seq ([]:List Value).toArray }).objs.size+1) scope.names (clOf X.env.cells scope.names [])) (s2.heap.push { cls:=.type "list",data:=.seq ([]:List Value).toArray }).objs.size X.env))
   (compPost (model X.prog X.w) X.A X.xe none (EP X pins σ Q) (.ref s2.heap.objs.size) (s2.heap.push { cls:=.type "list",data:=.seq ([]:List Value).toArray }).objs.size) { s2 with heap:=h₁,toks:=s2.toks }:=by
  generalize hY:(blk X N' scope (s2.heap.push { cls:=.type "list",data:=.seq ([]:List Value).toArray }).objs.size { s2 with heap:=s2.heap.push { cls:=.type "list",data:=.seq ([]:List Value).toArray },toks:=s2.toks } (upd H2 s2.heap.objs.size (.lst [])) fp pins)=Y at I4
  have st4:tn 0 h₁:=T.keep _ _ _ st2 fun b hb o e=>hk b o (zbn8 _ e)
  have stat:∀ {H':Hp},(∀b∈fp,H' b=none)→∀b∈fp,FpOk Y [] H' b:=fun hn b hb=>by
   subst hY
   obtain⟨f0,f1,f2',f3',f4,f5⟩:=f3 b hb
   exact⟨hn b hb,zbp8 (lt3 b hb),fun z=>(zbn5.mp (I3.stkSub b z)).elim f1 f2',.inl hb,fun x c e=>(by
    rcases S.old I3 e with z | z
    ·exact f4 x c z
    ·exact zbw0 (zby4 (lt3 b hb) z)),fun p hp=>f5 p (by simpa using hp)⟩
  have hgY:PG Y tg g:=hY ▸ hg _ _ _ _ _
  have htY:PTs Y ifs tt:=hY ▸ ht _ _ _ _ _
  have heY:PE Y elt te:=hY ▸ he _ _ _ _ _
  have yp:Y.prog=X.prog:=by subst hY;rfl
  have yw:Y.w=X.w:=by subst hY;rfl
  have yK:Y.K=X.K:=by subst hY;rfl
  have yA:Y.A=X.A:=by subst hY;rfl
  have yc:Y.calm=true:=by subst hY;rfl
  have yx:Y.xe=fun _ _=>False:=by subst hY;rfl
  have ye:Y.env=compEnvC scope (cellsFrom ((s2.heap.push { cls:=.type "list",data:=.seq ([]:List Value).toArray }).objs.size+1) scope.names (clOf X.env.cells scope.names [])) (s2.heap.push { cls:=.type "list",data:=.seq ([]:List Value).toArray }).objs.size X.env:=by subst hY;rfl
  rw [← ye]
  refine zy2 (fun n s' => ∃i σ' H',Inv Y [] σ' H' s'∧tn i s'.heap∧(∀b∈fp,H' b=none)∧W i n σ' H') ?_ m0 ⟨0,_,_,I4,st4,fun b hb=>(f3 b hb).1,w0⟩
  rintro n s3 ⟨i,σ3,H3,I5,st3,fr3,w3⟩
  rcases turn i n σ3 H3 w3 with ⟨stop,qn⟩ | ⟨go,N,hNN,step⟩
  ·have d:=T.done Y yp yw yK yc i [] s3 σ3 H3 (fun _ _=>False) I5 (stat fr3) st3 stop
   rw [yA]at d
   refine thn d fun r s4 ⟨hr,I6⟩=>?_
   subst hr
   obtain⟨m,hm,_⟩:=I6.loc
   rw [ye]at hm
   refine⟨m,hm,fun h' hb=>⟨.ref s2.heap.objs.size,H3,?_,rfl,qn⟩⟩
   subst hY
   exact zai2 I3 f3 rfl I6 hb
  ·have d:=T.item Y yp yw yK yc i [] s3 σ3 H3 (fun _ _=>False) I5 (stat fr3) st3 go
   rw [yA]at d
   refine thn d fun r s4 ⟨u,hr,h4⟩=>?_
   subst hr
   refine thn h4 fun _ s5 ⟨x,H5,I6,r5,y5,st5,fr5⟩=>?_
   have I6':=I6.pinned (stat fr5) (T.obj _ _ st5)
   have a:=hgY _ s5 σ3 H5 x u _ I6' r5 (step x H5 y5)
   rw [yp,yw,yA,yx]at a
   refine thn a fun _ s6 ⟨σ6,H6,I7,q6⟩=>?_
   have b:=htY _ s6 σ6 H6 _ I7 q6
   rw [yp,yw,yA,yx]at b
   refine thn b fun ok s7 ⟨H7,I8,q7⟩=>?_
   have again:∀ {s9:zbo3}{H9:Hp},Inv Y ([]++zr4 fp s5.heap) σ6 H9 s9→N σ6 H9→∃m,m<n∧∃i σ' H',Inv Y [] σ' H' s9∧tn i s9.heap∧(∀b∈fp,H' b=none)∧W i m σ' H':=fun {s9 H9} I9 n9=>by
    obtain⟨m',hm,w9⟩:=hNN σ6 H9 n9
    refine⟨m',hm,i+1,σ6,H9,I9.unpinned,T.keep _ _ _ st5 fun b hb o e=>(I9.pin (b,o) (zbm6 _ (zbm6 _ (zf7 hb e)))).1,fun b hb=>?_,w9⟩
    obtain⟨o,e,d⟩:=T.obj _ _ st5 b hb
    exact (I9.pin (b,o) (zbm6 _ (zbm6 _ (zf7 hb e)))).2.1
   cases ok with
   |false=>exact iteF (again I8 (by simpa using q7))
   |true =>
    rw [if_pos rfl]at q7
    refine iteT ?_
    have c:=heY _ s7 σ6 H7 _ I8 q7
    rw [yp,yw,yA,yx]at c
    refine thn c fun z s8 ⟨vz,H8,I9,r9,vs,hv,hl,n9⟩=>?_
    have ap:=zo7 (X:=Y) ([]++zr4 fp s5.heap) s8 σ6 H8 (.ref s2.heap.objs.size) [vz] (.ref s2.heap.objs.size) [z] (fun _ H9=>N σ6 H9) I9 rfl (.cons r9 .nil) ⟨_,vs,vz,rfl,rfl,hv,hl,n9⟩
    rw [yp,yw,yA,yx]at ap
    exact thn ap fun _ s9 ⟨_,H9,I10,_,n10⟩=>again I10 n10
 exact codeAny_compStart_list loop (T.self _ 0 _ _ _ (T.keep _ _ _ st2 fun b hb o e=>hk b o (zbn8 _ e)) loop)
theorem ps_compU {X:Cx}{i₀:Nat}{y₀:Str}{py spos:Pos}{elt tg iter:Expr}{ifs:List Expr}{scope:Scope}{pos:Pos}{n:Nat}{cap:List Nat}{N':List Str}{wi:TI}{g:TG}{tt:TT}{te:TE} (S:CompSc X scope) (hc:X.calm=true) (hi:PI X tg iter wi)
  (hN:N'.length=n+cap.length) (hcap:∀(k:Nat) (j:Nat),cap[k]?=some j→∃x,N'[n+k]?=some x∧X.N[j]?=some x∧(x,NameKind.free)∈scope.names)
  (hg:∀C s₃ H₃ fp pins,PG (blk X N' scope C s₃ H₃ fp pins) tg g) (ht:∀C s₃ H₃ fp pins,PTs (blk X N' scope C s₃ H₃ fp pins) ifs tt) (he:∀C s₃ H₃ fp pins,PE (blk X N' scope C s₃ H₃ fp pins) elt te)
  (hNd:X.N.Nodup) (hi₀:X.N[i₀]?=some y₀) (hy:Loc X.env.scope y₀) (hsw:swapsWith (.ListComp elt [⟨tg,iter,ifs,0⟩] scope pos) (some (.Name y₀ py)) spos.line X.env=pure true) (hf:X.fn y₀=true∨X.env.scope.names.lookup y₀=some .local)
  (hs:∀x,foldedSetIterable iter X.env x=pure x:=by intro _;rfl):PS X (.Assign [.Name y₀ py] (.ListComp elt [⟨tg,iter,ifs,0⟩] scope pos) spos) (fun D σ H=>zap2 n cap wi g tt te σ H fun v H1=>D.nx (σ.set i₀ (some v)) H1):=by
 intro pins s σ H Ed I h
 rw [exec_Assign_Name_used y₀ py _ spos hsw]
 refine zbn6 (wpAny_standAt (zbn6 ?_))
 show wpAny (model X.prog X.w) X.A (comprehension (.ListComp elt [⟨tg,iter,ifs,0⟩] scope pos) scope X.env _ (newList []) false (eval iter X.env) (some (assign (.Name y₀ py) X.env)) >>= fun _=>pure ()) _ _ s
 refine zbn6 (thn (Q:=fun _ s'=>SP X pins Ed .next s') ?_ fun _ s' hq=>zbp3 (zbp3 hq))
 refine wpAny_comprehension_free (use:=some (assign (.Name y₀ py) X.env)) rfl hs (zx6 (S.frees I.ok)) S.kind (fun x hx hl=>by rw [S.names x hx,hl]) (thn (hi pins s σ H _ I h) fun v s1 h1=>thn h1 fun itv s2 h2=>?_)
 obtain⟨it,fp,tn,J,H2,e,I2,T,st2,f2,R⟩:=h2
 subst e
 have lt2:∀b∈fp,b<s2.heap.objs.size:=fun b hb=>by obtain⟨o,e,_⟩:=T.obj _ _ st2 b hb;exact zbo6 e
 have hD:H2 s2.heap.objs.size=none:=I2.fresh
 obtain⟨W,⟨m0,w0⟩,turn⟩:=R s2.heap.objs.size hD
 have I3:Inv X pins σ (upd H2 s2.heap.objs.size (.lst [])) { s2 with heap:=s2.heap.push { cls:=.type "list",data:=.seq ([]:List Value).toArray },toks:=s2.toks }:=I2.lnew (t':=s2.toks) .nil (by simp)
 have f3:∀b∈fp,FpOk X pins (upd H2 s2.heap.objs.size (.lst [])) b:=fun b hb=>⟨by rw [zc8 (zbp8 (lt2 b hb))];exact (f2 b hb).1,(f2 b hb).2⟩
 refine wpAny_newObj_type (zn8 fun h₁ hns₁ hk hcl₁=>?_)
 have lt3:∀b∈fp,b<(s2.heap.push { cls:=.type "list",data:=.seq ([]:List Value).toArray }).objs.size:=fun b hb=>by rw [zbu4];exact zbu6 (lt2 b hb)
 have I4:Inv (blk X N' scope (s2.heap.push { cls:=.type "list",data:=.seq ([]:List Value).toArray }).objs.size { s2 with heap:=s2.heap.push { cls:=.type "list",data:=.seq ([]:List Value).toArray },toks:=s2.toks } (upd H2 s2.heap.objs.size (.lst [])) fp pins) [] (capV n cap σ) (upd H2 s2.heap.objs.size (.lst [])) { s2 with heap:=h₁,toks:=s2.toks } :=
  zat2 I3 S hc f3 lt3 (t1:=s2.toks) hns₁ hk hcl₁ (by simp [capV,hN]) (fun i x v e1 e2=>by
   unfold capV at e2
   by_cases hi:i<n
   ·rw [zbt8 (by simpa using hi),zbq1]at e2
    split at e2<;>cases e2
   ·rw [zbt5 (by simpa using hi),zbr1,zbp7]at e2
    cases ej:cap[i - n]? with
    |none=>rw [ej]at e2;cases e2
    |some j =>
     rw [ej]at e2
     obtain⟨x',a1,a2,a3⟩:=hcap (i - n) j ej
     have:n+(i - n)=i:=by lia
     rw [this,e1]at a1
     cases a1
     refine⟨a3,j,a2,?_⟩
     have e2:(σ[j]?).getD none=some v:=by simpa using e2
     cases q:σ[j]? with
     |none=>rw [q]at e2;cases e2
     |some z=>rw [q]at e2;have:z=some v:=e2;rw [this])
 have loop:codeAny (model X.prog X.w) X.A (.compLoop (.ListComp elt [⟨tg,iter,ifs,0⟩] scope pos) 0 (.ref it) (.ref s2.heap.objs.size) (compEnvC scope (cellsFrom ((s2.heap.push { cls:=.type "list",data:=.seq ([]:List Value).toArray }).objs.size+1) scope.names (clOf X.env.cells scope.names [])) (s2.heap.push { cls:=.type "list",data:=.seq ([]:List Value).toArray }).objs.size X.env))
   (compPost (model X.prog X.w) X.A X.xe (some (assign (.Name y₀ py) X.env)) (fun _ s'=>SP X pins Ed .next s') (.ref s2.heap.objs.size) (s2.heap.push { cls:=.type "list",data:=.seq ([]:List Value).toArray }).objs.size) { s2 with heap:=h₁,toks:=s2.toks }:=by
  generalize hY:(blk X N' scope (s2.heap.push { cls:=.type "list",data:=.seq ([]:List Value).toArray }).objs.size { s2 with heap:=s2.heap.push { cls:=.type "list",data:=.seq ([]:List Value).toArray },toks:=s2.toks } (upd H2 s2.heap.objs.size (.lst [])) fp pins)=Y at I4
  have st4:tn 0 h₁:=T.keep _ _ _ st2 fun b hb o e=>hk b o (zbn8 _ e)
  have stat:∀ {H':Hp},(∀b∈fp,H' b=none)→∀b∈fp,FpOk Y [] H' b:=fun hn b hb=>by
   subst hY
   obtain⟨f0,f1,f2',f3',f4,f5⟩:=f3 b hb
   exact⟨hn b hb,zbp8 (lt3 b hb),fun z=>(zbn5.mp (I3.stkSub b z)).elim f1 f2',.inl hb,fun x c e=>(by
    rcases S.old I3 e with z | z
    ·exact f4 x c z
    ·exact zbw0 (zby4 (lt3 b hb) z)),fun p hp=>f5 p (by simpa using hp)⟩
  have hgY:PG Y tg g:=hY ▸ hg _ _ _ _ _
  have htY:PTs Y ifs tt:=hY ▸ ht _ _ _ _ _
  have heY:PE Y elt te:=hY ▸ he _ _ _ _ _
  have yp:Y.prog=X.prog:=by subst hY;rfl
  have yw:Y.w=X.w:=by subst hY;rfl
  have yK:Y.K=X.K:=by subst hY;rfl
  have yA:Y.A=X.A:=by subst hY;rfl
  have yc:Y.calm=true:=by subst hY;rfl
  have yx:Y.xe=fun _ _=>False:=by subst hY;rfl
  have ye:Y.env=compEnvC scope (cellsFrom ((s2.heap.push { cls:=.type "list",data:=.seq ([]:List Value).toArray }).objs.size+1) scope.names (clOf X.env.cells scope.names [])) (s2.heap.push { cls:=.type "list",data:=.seq ([]:List Value).toArray }).objs.size X.env:=by subst hY;rfl
  rw [← ye]
  refine zy2 (fun n s' => ∃i σ' H',Inv Y [] σ' H' s'∧tn i s'.heap∧(∀b∈fp,H' b=none)∧W i n σ' H') ?_ m0 ⟨0,_,_,I4,st4,fun b hb=>(f3 b hb).1,w0⟩
  rintro n s3 ⟨i,σ3,H3,I5,st3,fr3,w3⟩
  rcases turn i n σ3 H3 w3 with ⟨stop,qn⟩ | ⟨go,N,hNN,step⟩
  ·have d:=T.done Y yp yw yK yc i [] s3 σ3 H3 (fun _ _=>False) I5 (stat fr3) st3 stop
   rw [yA]at d
   refine thn d fun r s4 ⟨hr,I6⟩=>?_
   subst hr
   obtain⟨m,hm,_⟩:=I6.loc
   rw [ye]at hm
   subst hY
   have IX:=zai2 I3 f3 rfl I6 (h'':=s4.heap) ⟨rfl,fun _ _=>rfl⟩
   have cf:H3 (s2.heap.push { cls:=.type "list",data:=.seq ([]:List Value).toArray }).objs.size=none:=I6.free
   have fC:FpOk X pins H3 (s2.heap.push { cls:=.type "list",data:=.seq ([]:List Value).toArray }).objs.size:=I3.fpOk (zbp4 _) cf
   obtain⟨c0,c1,c2,c3,c4,c5⟩:=fC
   refine wpAny_assign_Name (zaj1 (s:=s4) IX hNd hi₀ hy (v:=.ref s2.heap.objs.size) rfl (fun s5 I7 ⟨a,sb,ha⟩=>?_) hf)
   have na:a≠(s2.heap.push { cls:=.type "list",data:=.seq ([]:List Value).toArray }).objs.size:=by
    rcases ha with z | z
    ·rw [z];exact fun w=>c1 w.symm
    ·exact c4 _ _ z
   refine⟨m,hm.sameBut sb (Ne.symm na),fun h' hb=>⟨_,H3,?_,qn⟩⟩
   exact I7.turned (t':=s5.toks) (fun b o n e=>(hb.2 b n).trans e) c0 c1 c3 c4 c5
  ·have d:=T.item Y yp yw yK yc i [] s3 σ3 H3 (fun _ _=>False) I5 (stat fr3) st3 go
   rw [yA]at d
   refine thn d fun r s4 ⟨u,hr,h4⟩=>?_
   subst hr
   refine thn h4 fun _ s5 ⟨x,H5,I6,r5,y5,st5,fr5⟩=>?_
   have I6':=I6.pinned (stat fr5) (T.obj _ _ st5)
   have a:=hgY _ s5 σ3 H5 x u _ I6' r5 (step x H5 y5)
   rw [yp,yw,yA,yx]at a
   refine thn a fun _ s6 ⟨σ6,H6,I7,q6⟩=>?_
   have b:=htY _ s6 σ6 H6 _ I7 q6
   rw [yp,yw,yA,yx]at b
   refine thn b fun ok s7 ⟨H7,I8,q7⟩=>?_
   have again:∀ {s9:zbo3}{H9:Hp},Inv Y ([]++zr4 fp s5.heap) σ6 H9 s9→N σ6 H9→∃m,m<n∧∃i σ' H',Inv Y [] σ' H' s9∧tn i s9.heap∧(∀b∈fp,H' b=none)∧W i m σ' H':=fun {s9 H9} I9 n9=>by
    obtain⟨m',hm,w9⟩:=hNN σ6 H9 n9
    refine⟨m',hm,i+1,σ6,H9,I9.unpinned,T.keep _ _ _ st5 fun b hb o e=>(I9.pin (b,o) (zbm6 _ (zbm6 _ (zf7 hb e)))).1,fun b hb=>?_,w9⟩
    obtain⟨o,e,d⟩:=T.obj _ _ st5 b hb
    exact (I9.pin (b,o) (zbm6 _ (zbm6 _ (zf7 hb e)))).2.1
   cases ok with
   |false=>exact iteF (again I8 (by simpa using q7))
   |true =>
    rw [if_pos rfl]at q7
    refine iteT ?_
    have c:=heY _ s7 σ6 H7 _ I8 q7
    rw [yp,yw,yA,yx]at c
    refine thn c fun z s8 ⟨vz,H8,I9,r9,vs,hv,hl,n9⟩=>?_
    have ap:=zo7 (X:=Y) ([]++zr4 fp s5.heap) s8 σ6 H8 (.ref s2.heap.objs.size) [vz] (.ref s2.heap.objs.size) [z] (fun _ H9=>N σ6 H9) I9 rfl (.cons r9 .nil) ⟨_,vs,vz,rfl,rfl,hv,hl,n9⟩
    rw [yp,yw,yA,yx]at ap
    exact thn ap fun _ s9 ⟨_,H9,I10,_,n10⟩=>again I10 n10
 exact codeAny_compStart_list loop (T.self _ 0 _ _ _ (T.keep _ _ _ st2 fun b hb o e=>hk b o (zbn8 _ e)) loop)
end L2
namespace DL
open PySem.Spec L2
structure Src (K:zbm7) (ds:List D) (J:It) (Good:List Addr→Hp→Prop):Prop where
 keep:∀P H P' H',Good P H→Same (hide P H) (hide P' H')→Good P' H'
 stop:∀P H,Good P H→J.stop ds.length H
 go:∀P H i,Good P H→i<ds.length→J.go i H
 yld:∀P H i x H',Good P H→Lists H P→J.yld i H x H'→i<ds.length→Same H H'∧∃d,ds[i]?=some d∧Rep K (hide P H') d x
noncomputable abbrev DI:=Th→Option (Bool×List D)
noncomputable def hidF (b:Bool) (A F:List Addr):List Addr:=if b then A++F else F
noncomputable def dI (K:zbm7) (F:List Addr) (fs:DI):TI:=fun σ H R => ∃A t b ds,RS K F H A t σ∧fs t=some (b,ds)∧∀J H1 Good,Same H H1→Src K ds J Good→Good (hidF b A F) H1→R J H1
theorem PI.imp {X:Cx}{tg iter:Expr}{t t':TI} (h:PI X tg iter t) (i:∀σ H R,t' σ H R→t σ H R):PI X tg iter t':=fun pins s σ H R I q=>h pins s σ H R I (i σ H R q)
noncomputable def fsL (f:DE):DI:=fun t=>(f t).bind fun r=>match r.d with
 |.lst ds=>some (r.ok,ds)
 |_=>none
noncomputable def fsR1 (f:DE):DI:=fun t=>(f t).bind fun r=>match r.d with
 |.int n=>if bigI n then some (true,rngD 0 n.toNat) else none
 |_=>none
noncomputable def fsR2 (f f':DE):DI:=fun t=>(f t).bind fun r=>(f' t).bind fun r'=>match r.d,r'.d with
 |.int lo,.int n=>if bigI n&&bigI lo then some (true,rngD lo (n - lo).toNat) else none
 |_,_=>none
theorem src_list {K:zbm7}{p:Addr}{vs:List V}{ds:List D} (hl:vs.length=ds.length):Src K ds (Itl K p) (fun P H=>SqL K (hide P H) p vs∧Reps K (hide P H) ds vs) where
 keep:=fun P H P' H' q s=>⟨SqL.mono s q.1,Reps.mono s q.2⟩
 stop:=fun P H q=>⟨vs,SqL.mono (zc2 _ _) q.1,by lia⟩
 go:=fun P H i q hi=>⟨vs,vs[i]'(by lia),SqL.mono (zc2 _ _) q.1,zbn9 (by lia)⟩
 yld:=fun P H i x H' q mu y hi=>by
  obtain⟨e1,e2⟩:=y
  subst e1
  exact⟨Same.refl _,q.2.getV (e2 vs (SqL.mono (zc2 _ _) q.1))⟩
theorem zbc7 {K:zbm7}{lo:Int}{n:Nat}:Src K (rngD lo n) (Itr lo n) (fun _ _=>True) where
 keep:=fun _ _ _ _ _ _=>trivial
 stop:=fun P H _=>by rw [zx0];exact zbp4 n
 go:=fun P H i _ hi=>by rw [zx0]at hi;exact hi
 yld:=fun P H i x H' _ _ y hi=>by
  rw [zx0]at hi
  obtain⟨e1,e2⟩:=y
  subst e1
  refine⟨Same.refl _,.int (lo+i),by simp [rngD,hi],?_⟩
  rw [e2];exact .int _
theorem RepEv.hidF {K:zbm7}{F A:List Addr}{H H':Hp}{r:Ev}{v:V} (m:Lists H (A++F)) (gs:Same H H') (q:RepEv K F A H H' r v):Rep K (hide (DL.hidF r.ok A F) H') r.d v:=by
 unfold DL.hidF
 split
 ·rename_i c;exact q.clean m gs c
 ·exact q.cleanF m
section
variable {X:Cx}{F:List Addr}{a b c:Expr}{es:List Expr}{fa fb fc:DE}{pos:Pos}{tg:Expr}
theorem zl2 (hl:PE X a (dE X.K F fa)):PI X tg a (dI X.K F (fsL fa)):=by
 refine PI.imp (zbe2 hl) ?_
 rintro σ H R ⟨A,t,b,ds,RR,e,h⟩
 unfold fsL at e
 cases e1:fa t with
 |none=>rw [e1]at e;cases e
 |some r =>
  rw [e1]at e
  refine⟨A,t,r,RR,e1,fun v H1 gs q=>?_⟩
  have e:(match r.d with | .lst ds=>some (r.ok,ds) |_=>none)=some (b,ds):=e
  split at e
  case h_2=>cases e
  rename_i ds' z
  cases e
  have cl:=RepEv.hidF RR.mu gs q
  rw [z]at cl
  cases cl with
  |@lst _ p vs h1 h2=>exact⟨p,rfl,⟨vs,SqL.mono (zc2 _ _) h1⟩,h _ H1 _ gs (src_list h2.length) ⟨h1,h2⟩⟩
theorem zh7 {p1 p2:Pos} (hgr:Gl X "range") (hm:X.mg "range"=none) (ha:PE X a (dE X.K F fa)) (hst:zbo8 [a] X.env=[(false,eval a X.env)]:=by rfl):PI X tg (.Call (.Name "range" p1) [a] [] p2) (dI X.K F (fsR1 fa)):=by
 refine PI.imp (zak6 hgr hm (zh0 ha zm1 hst) hst) ?_
 rintro σ H R ⟨A,t,b,ds,RR,e,h⟩
 unfold fsR1 at e
 cases e1:fa t with
 |none=>rw [e1]at e;cases e
 |some r =>
  rw [e1]at e
  refine⟨A,t,r,RR,e1,fun v H1 gs q=>?_⟩
  have e:(match r.d with | .int n=>if bigI n then some (true,rngD 0 n.toNat) else none | _=>none)=some (b,ds):=e
  split at e
  case h_2=>cases e
  rename_i n z
  split at e
  case isFalse=>cases e
  rename_i ok
  simp only [bigI,decide_eq_true_eq]at ok
  cases e
  have p:=q.full
  rw [z]at p
  cases ze7 p
  exact⟨n,rfl,by lia,by lia,h _ H1 _ gs zbc7 trivial⟩
theorem pid_rng2 {p1 p2:Pos} (hgr:Gl X "range") (hm:X.mg "range"=none) (ha:PE X a (dE X.K F fa)) (hb:PE X b (dE X.K F fb)) (hst:zbo8 [a,b] X.env=[(false,eval a X.env),(false,eval b X.env)]:=by rfl) (hst2:zbo8 [b] X.env=[(false,eval b X.env)]:=by rfl) :
  PI X tg (.Call (.Name "range" p1) [a,b] [] p2) (dI X.K F (fsR2 fa fb)):=by
 refine PI.imp (zak5 hgr hm (zh0 ha (zh0 hb zm1 hst2) (by rw [hst,hst2])) hst hst2) ?_
 rintro σ H R ⟨A,t,b,ds,RR,e,h⟩
 unfold fsR2 at e
 cases e1:fa t with
 |none=>rw [e1]at e;cases e
 |some r =>
  cases e2:fb t with
  |none=>rw [e1,e2]at e;cases e
  |some r' =>
   rw [e1,e2]at e
   refine⟨A,t,r,RR,e1,fun v H1 gs q=>⟨A,t,r',RR.grow gs,e2,fun v2 H2 gs2 q2=>?_⟩⟩
   have e:(match r.d,r'.d with
    |.int lo,.int n=>if bigI n&&bigI lo then some (true,rngD lo (n - lo).toNat) else none
    |_,_=>none)=some (b,ds):=e
   split at e
   case h_2=>cases e
   rename_i lo n z1 z2
   split at e
   case isFalse=>cases e
   rename_i ok
   simp only [bigI,zbo2,decide_eq_true_eq]at ok
   cases e
   have p:=q.full
   rw [z1]at p
   cases ze7 p
   have p':=q2.full
   rw [z2]at p'
   cases ze7 p'
   exact⟨lo,n,rfl,⟨by lia,by lia,by lia,by lia⟩,h _ H2 _ (gs.trans gs2) zbc7 trivial⟩
end
noncomputable def capD (t:Th):List Nat→Option (Bool×List D)
 |[]=>some (true,[])
 |j::js=>(capD t js).bind fun q=>match t[j]? with
  |some (.val d)=>some (q.1,d::q.2)
  |some (.own xs)=>some (false,.lst xs::q.2)
  |some (.dp d)=>some (false,d::q.2)
  |_=>none
theorem zz7 {K:zbm7}{F A:List Addr}{H:Hp}{t:Th}{σ:L2.St} (R:RS K F H A t σ):∀ {cap:List Nat}{b:Bool}{ds:List D},capD t cap=some (b,ds)→∃vs:List V,(cap.map fun j=>(σ[j]?).getD none)=vs.map some∧Reps K (hide (hidF b A F) H) ds vs
 |[],b,ds,e=>by cases e;exact⟨[],rfl,.nil⟩
 |j::js,b,ds,e=>by
  unfold capD at e
  cases e1:capD t js with
  |none=>rw [e1]at e;cases e
  |some q =>
   obtain⟨b',ds'⟩:=q
   rw [e1]at e
   obtain⟨vs,h1,h2⟩:=zz7 R e1
   have e:(match t[j]? with
    |some (.val d)=>some (b',d::ds')
    |some (.own xs)=>some (false,.lst xs::ds')
    |some (.dp d)=>some (false,d::ds')
    |_=>none)=some (b,ds):=e
   have less:∀c:Bool,Same (hide (A++F) H) (hide (hidF c A F) H):=fun c=>zb5 H fun x z=>by
    cases c with
    |true=>exact z
    |false=>exact zbm6 _ z
   split at e
   ·rename_i d z
    cases e
    obtain⟨v,a1,a2⟩:=R.rel.getVal z
    exact⟨v::vs,by simp [a1,h1],.cons (Rep.mono (less _) a2) h2⟩
   ·rename_i xs z
    cases e
    obtain⟨p,us,a1,a2,a3,a4⟩:=R.rel.getOwn z
    refine⟨.ref p::vs,by simp [a1,h1],.cons (.lst (SqL.of (zd1 a3 (R.dj p a2))) (Reps.mono (less false) a4)) (Reps.mono (zb5 H fun x z=>?_) h2)⟩
    cases b' with
    |true=>exact zbm6 _ z
    |false=>exact z
   ·rename_i d z
    cases e
    obtain⟨v,B,a1,a2,a3,a4⟩:=R.rel.getDp R.nd z
    refine⟨v::vs,by simp [a1,h1],.cons (a4.rep (less false) fun b hb o w=>zd1 w (R.dj b (a2 b hb))) (Reps.mono (zb5 H fun x z=>?_) h2)⟩
    cases b' with
    |true=>exact zbm6 _ z
    |false=>exact z
   ·cases e
noncomputable def ze4 (k:D→Th→Option Th) (ft:DT) (fe:DE):List D→Th→Option (List D)
 |[],_=>some []
 |d::ds,t=>(k d t).bind fun t1=>(ft t1).bind fun b=>if b then (fe t1).bind fun r=>(ze4 k ft fe ds t1).map fun xs=>r.d::xs else ze4 k ft fe ds t1
noncomputable def zf8 (n:Nat) (cap:List Nat) (fs:DI) (k:D→Th→Option Th) (ft:DT) (fe:DE):DE:=fun t=>(fs t).bind fun q=>(capD t cap).bind fun c=>if q.2.length≤50000 then (ze4 k ft fe q.2 (zbn4 n Sl.no++c.2.map Sl.val)).bind fun xs=>if (q.1&&c.1)||flats xs then some (.nw xs) else none else none
theorem zad0 {k:D→Th→Option Th}{ft:DT}{fe:DE}:∀ {ds:List D}{t:Th}{xs:List D},ze4 k ft fe ds t=some xs→xs.length≤ds.length
 |[],t,xs,e=>by cases e;simp
 |d::ds,t,xs,e=>by
  unfold ze4 at e
  cases e1:k d t with
  |none=>rw [e1]at e;cases e
  |some t1 =>
   rw [e1]at e
   have e:((ft t1).bind fun b=>if b then (fe t1).bind fun r=>(ze4 k ft fe ds t1).map fun xs=>r.d::xs else ze4 k ft fe ds t1)=some xs:=e
   cases e2:ft t1 with
   |none=>rw [e2]at e;cases e
   |some b =>
    rw [e2]at e
    cases b with
    |false=>have:=zad0 (ds:=ds) (t:=t1) e;simp;lia
    |true =>
     have e:((fe t1).bind fun r=>(ze4 k ft fe ds t1).map fun xs=>r.d::xs)=some xs:=e
     cases e3:fe t1 with
     |none=>rw [e3]at e;cases e
     |some r =>
      rw [e3]at e
      have e:((ze4 k ft fe ds t1).map fun xs=>r.d::xs)=some xs:=e
      cases e4:ze4 k ft fe ds t1 with
      |none=>rw [e4]at e;cases e
      |some ys=>rw [e4]at e;cases e;have:=zad0 e4;simp;lia
end DL
namespace DL
open PySem.Spec L2
theorem RSl.noVals {K:zbm7}{H0 H:Hp}{vs:List V}{ds:List D} (r:Reps K H0 ds vs):∀n,RSl K H0 H (zbn4 n Sl.no++ds.map Sl.val) (zbn4 n none++vs.map some) []
 |0=>by simpa using RSl.start (t:=[]) (σ:=[]) .nil r
 |n+1=>.no (RSl.noVals r n)
theorem zl4 {P:List Addr}{H:Hp}{p:Addr}{o:HO} (hp:p∈P):Same (hide P H) (hide P (upd H p o)):=fun b u e=>by
 obtain⟨n,e⟩:=zk4 e
 exact zd1 (by rw [zc8 (fun z=>n (by rw [z];exact hp))];exact e) n
theorem RS.updF {K:zbm7}{P:List Addr}{H:Hp}{t:Th}{σ:L2.St}{p:Addr}{ws:List V} (R:RS K P H [] t σ) (hp:p∈P):RS K P (upd H p (.lst ws)) [] t σ where
 mu:=fun q hq=>by
  by_cases z:q=p
  ·exact⟨mL ws,by rw [z];exact zc1⟩
  ·obtain⟨us,w⟩:=R.mu q hq
   exact⟨us,by rw [zc8 z];exact w⟩
 nd:=zbr7
 dj:=fun p hp=>by cases hp
 rel:=RSl.mono (zl4 hp) R.rel fun q hq=>by cases hq
theorem zs8 {K:zbm7}{P A:List Addr}{H:Hp}{t:Th}{σ:L2.St} (R:RS K P H A t σ) (g:Gr [] H A H):A=[]:=by
 cases A with
 |nil=>rfl
 |cons a r =>
  rcases g.nw a (zbn1 ..) with z | z
  ·cases z
  ·obtain⟨vs,q⟩:=R.mu a (zbm8 _ (zbn1 ..))
   rw [q]at z;cases z
noncomputable def zc3:DT:=fun _=>some true
theorem PTs.imp {Y:Cx}{ifs:List Expr}{t t':TT} (h:PTs Y ifs t) (i:∀σ H Q,t' σ H Q→t σ H Q):PTs Y ifs t':=fun pins s σ H Q I q=>h pins s σ H Q I (i σ H Q q)
theorem zd4 {Y:Cx}{F:List Addr}:PTs Y [] (dT Y.K F zc3):=PTs.imp pts_nil fun σ H Q ⟨A,t,b,R,e,h⟩=>by cases e;exact h H (Same.refl H)
theorem zau1 {X:Cx}{F:List Addr}{n:Nat}{cap:List Nat}{fs:DI}{g:TG}{kt:D→Th→Option Th}{ft:DT}{fe:DE} (hk:∀F',TgOk X.K F' g kt) {σ:L2.St}{H:Hp}{Q:VK} (h:dE X.K F (zf8 n cap fs kt ft fe) σ H Q) :
  zap2 n cap (dI X.K F fs) g (fun σ H Q => ∃F',dT X.K F' ft σ H Q) (fun σ H Q => ∃F',dE X.K F' fe σ H Q) σ H Q:=by
 obtain⟨A,t,r,R,e,h⟩:=h
 unfold zf8 at e
 cases e1:fs t with
 |none=>rw [e1]at e;cases e
 |some q =>
  obtain⟨b,ds⟩:=q
  cases e2:capD t cap with
  |none=>rw [e1,e2]at e;cases e
  |some q2 =>
   obtain⟨c,caps⟩:=q2
   rw [e1,e2]at e
   have e:(if ds.length≤50000 then (ze4 kt ft fe ds (zbn4 n Sl.no++caps.map Sl.val)).bind fun xs=>if (b&&c)||flats xs then some (Ev.nw xs) else none else none)=some r:=e
   split at e
   case isFalse=>cases e
   rename_i hlen
   cases e3:ze4 kt ft fe ds (zbn4 n Sl.no++caps.map Sl.val) with
   |none=>rw [e3]at e;cases e
   |some xs =>
    rw [e3]at e
    have e:(if (b&&c)||flats xs then some (Ev.nw xs) else none)=some r:=e
    split at e
    case isFalse=>cases e
    rename_i ok
    cases e
    have xl:=zad0 e3
    obtain⟨cvs,cv1,cv2⟩:=zz7 R e2
    -- what is hidden from the block,but its own list
    obtain⟨F',F'def⟩:∃F',F'=hidF (b&&c) A F:=⟨_,rfl⟩
    have subF:∀x∈F',x∈A++F:=fun x hx=>by
     rw [F'def]at hx
     unfold hidF at hx
     split at hx
     ·exact hx
     ·exact zbm6 _ hx
    have lessB:∀H:Hp,Same (hide (hidF b A F) H) (hide F' H):=fun H=>zb5 H fun x hx=>by
     rw [F'def]at hx
     cases b<;>cases c<;>simp [hidF]at hx ⊢<;>first | exact hx | exact .inr hx | (rcases hx with z | z<;>simp [z])
    have lessC:∀H:Hp,Same (hide (hidF c A F) H) (hide F' H):=fun H=>zb5 H fun x hx=>by
     rw [F'def]at hx
     cases b<;>cases c<;>simp [hidF]at hx ⊢<;>first | exact hx | exact .inr hx | (rcases hx with z | z<;>simp [z])
    have wi:zap2 n cap (dI X.K F fs) g (fun σ H Q => ∃F',dT X.K F' ft σ H Q) (fun σ H Q => ∃F',dE X.K F' fe σ H Q) σ H Q:=by
     refine⟨A,t,b,ds,R,e1,fun J H1 Good gs src gd Dd hD=>?_⟩
     have H1A:Lists H1 (A++F):=R.mu.mono gs
     have st0:Same (hide F' H1) (hide (Dd::F') (upd H1 Dd (.lst []))):=zi6 hD
     refine⟨fun i m σ' H'=>i+m=ds.length∧∃th acc rest vs,RS X.K (Dd::F') H' [] th σ'∧ze4 kt ft fe (ds.drop i) th=some rest∧acc++rest=xs∧H' Dd=some (.lst vs)∧Reps X.K (hide (Dd::F') H') acc vs∧Same H1 H'∧Good (Dd::F') H',
      ⟨ds.length,by lia,_,[],xs,[],⟨?_,zbr7,fun p hp=>(by cases hp),?_⟩,by simpa using e3,rfl,zc1,.nil,zd2 hD,src.keep _ _ _ _ gd (fun b o z=>st0 _ _ (lessB _ _ _ z))⟩,?_⟩
     ·intro q hq
      have hq:q∈Dd::F':=hq
      rcases zbn5.mp hq with z | z
      ·exact⟨mL [],by rw [z];exact zc1⟩
      ·obtain⟨us,w⟩:=H1A q (subF q z)
       exact⟨us,(zd2 hD) _ _ w⟩
     ·unfold capV
      rw [cv1]
      exact RSl.noVals (Reps.mono (fun b o z=>st0 _ _ (lessC H1 _ _ (zb6 gs _ _ z))) cv2) n
     ·rintro i m σ' H' ⟨hm,th,acc,rest,vs,RR,ec,ex,hv,hr,sm,gg⟩
      cases m with
      |zero =>
       have z:i=ds.length:=by lia
       subst z
       rw [zbw4]at ec
       cases ec
       rw [zbr4]at ex
       subst ex
       refine .inl ⟨src.stop _ _ gg,h _ H' (gs.trans sm) ⟨Dd,vs,rfl,Same.free gs hD,hv,?_⟩⟩
       rcases zcb0 _ _ ▸ ok with k | k
       ·have:F'=A++F:=by rw [F'def];unfold hidF;rw [k];rfl
        rw [← this];exact hr
       ·refine Reps.hid (P:=Dd ::(A++F)) (fun q hq=>?_) k (Reps.mono (zc2 _ _) hr)
        rcases zbn5.mp hq with z | z
        ·exact⟨mL vs,by rw [z];exact hv⟩
        ·obtain⟨us,w⟩:=H1A q z
         exact⟨us,sm _ _ w⟩
      |succ m =>
       have hil:i<ds.length:=by lia
       refine .inr ⟨src.go _ _ i gg hil,fun σ' H'=>i+1+m=ds.length∧∃th acc rest vs,RS X.K (Dd::F') H' [] th σ'∧ze4 kt ft fe (ds.drop (i+1)) th=some rest∧acc++rest=xs∧H' Dd=some (.lst vs)∧Reps X.K (hide (Dd::F') H') acc vs∧Same H1 H'∧Good (Dd::F') H',
        fun σ' H' q=>⟨m,zbs1 m,q⟩,fun x H2 y=>?_⟩
       obtain⟨gs2,d,hd,rd⟩:=src.yld _ _ i x H2 gg RR.mu y hil
       have ed:ds.drop i=d::ds.drop (i+1):=by
        have hd':ds[i]=d:=by
         rw [zbn9 hil]at hd
         exact Option.some.inj hd
        rw [← hd']
        exact zbp1 hil
       rw [ed]at ec
       unfold ze4 at ec
       cases k1:kt d th with
       |none=>rw [k1]at ec;cases ec
       |some t1 =>
        rw [k1]at ec
        have ec:((ft t1).bind fun b=>if b then (fe t1).bind fun r=>(ze4 kt ft fe (ds.drop (i+1)) t1).map fun xs=>r.d::xs else ze4 kt ft fe (ds.drop (i+1)) t1)=some rest:=ec
        refine hk (Dd::F') σ' H2 [] th t1 d x _ (RR.grow gs2) rd k1 fun σ2 A2 gr2 R2=>?_
        have A20:=zs8 R2 gr2
        subst A20
        cases k2:ft t1 with
        |none=>rw [k2]at ec;cases ec
        |some bb =>
         rw [k2]at ec
         refine⟨Dd::F',[],t1,bb,R2,k2,fun H3 gs3=>?_⟩
         cases bb with
         |false =>
          refine iteF ⟨by lia,t1,acc,rest,vs,R2.grow gs3,ec,ex,gs3 _ _ (gs2 _ _ hv),Reps.mono (zb6 (gs2.trans gs3)) hr,(sm.trans gs2).trans gs3,src.keep _ _ _ _ gg (zb6 (gs2.trans gs3))⟩
         |true =>
          have ec:((fe t1).bind fun r=>(ze4 kt ft fe (ds.drop (i+1)) t1).map fun xs=>r.d::xs)=some rest:=ec
          cases k3:fe t1 with
          |none=>rw [k3]at ec;cases ec
          |some re =>
           rw [k3]at ec
           have ec:((ze4 kt ft fe (ds.drop (i+1)) t1).map fun xs=>re.d::xs)=some rest:=ec
           cases k4:ze4 kt ft fe (ds.drop (i+1)) t1 with
           |none=>rw [k4]at ec;cases ec
           |some ys =>
            rw [k4]at ec
            cases ec
            refine iteT ⟨Dd::F',[],t1,re,R2.grow gs3,k3,fun v H4 gs4 q4=>⟨vs,gs4 _ _ (gs3 _ _ (gs2 _ _ hv)),?_,?_⟩⟩
            ·have l1:=hr.length
             have l2:acc.length+(ys.length+1)=xs.length:=by rw [← ex];simp
             exact zbo7 (show vs.length<50000 by lia) (by rw [sizeLine_eq];decide)
            ·have s4:=(gs2.trans gs3).trans gs4
             have hu:Same (hide (Dd::F') H4) (hide (Dd::F') (upd H4 Dd (.lst (vs++[v])))):=zl4 (zbn1 ..)
             have rv:=q4.cleanF ((R2.grow gs3).mu)
             refine⟨by lia,t1,acc++[re.d],ys,vs++[v],RS.updF ((R2.grow gs3).grow gs4) (zbn1 ..),k4,by simpa using ex,zc1,?_,?_,?_⟩
             ·exact (Reps.mono (fun b o z=>hu _ _ (zb6 s4 _ _ z)) hr).app (Reps.one (Rep.mono hu rv))
             ·exact fun b o z=>by
               rw [zc8 (fun w=>by rw [w,hD]at z;cases z)]
               exact s4 _ _ (sm _ _ z)
             ·exact src.keep _ _ _ _ gg (fun b o z=>hu _ _ (zb6 s4 _ _ z))
    exact wi
theorem ped_comp {X:Cx}{F:List Addr}{elt tg iter:Expr}{ifs:List Expr}{scope:Scope}{pos:Pos}{n:Nat}{cap:List Nat}{N':List Str}{fs:DI}{g:TG}{kt:D→Th→Option Th}{ft:DT}{fe:DE} (S:CompSc X scope) (hc:X.calm=true) (hi:PI X tg iter (dI X.K F fs))
  (hN:N'.length=n+cap.length) (hcap:∀(k:Nat) (j:Nat),cap[k]?=some j→∃x,N'[n+k]?=some x∧X.N[j]?=some x∧(x,NameKind.free)∈scope.names)
  (hg:∀C s₃ H₃ fp pins,PG (blk X N' scope C s₃ H₃ fp pins) tg g) (hk:∀F',TgOk X.K F' g kt) (ht:∀C s₃ H₃ fp pins F',PTs (blk X N' scope C s₃ H₃ fp pins) ifs (dT X.K F' ft)) (he:∀C s₃ H₃ fp pins F',PE (blk X N' scope C s₃ H₃ fp pins) elt (dE X.K F' fe))
  (hs:∀x,foldedSetIterable iter X.env x=pure x:=by intro _;rfl):PE X (.ListComp elt [⟨tg,iter,ifs,0⟩] scope pos) (dE X.K F (zf8 n cap fs kt ft fe)) :=
 PE.imp (zbe6 (g:=g) S hc hi hN hcap hg (fun C s₃ H₃ fp pins pins' s σ H Q I ⟨F',q⟩=>ht C s₃ H₃ fp pins F' pins' s σ H Q I q) (fun C s₃ H₃ fp pins pins' s σ H Q I ⟨F',q⟩=>he C s₃ H₃ fp pins F' pins' s σ H Q I q) hs) fun _ _ _ h=>zau1 hk h
noncomputable def zac6 (names:List (Str×NameKind)) (kind:Str→Option NameKind):Bool:=names.all fun y=>(y.2 != .free||kind y.1 == some .cell||kind y.1 == some .free)&&(names.lookup y.1 == some y.2)
theorem zax3 {X:Cx}{scope:Scope} (hk:scope.kind=.function:=by rfl) (h:zac6 scope.names X.env.kindOf=true:=by rfl):CompSc X scope:=by
 have h':=zbt9.mp h
 refine⟨hk,fun y hy hf=>?_,fun y hy=>?_⟩
 ·have:=h' y hy
  simp only [zbo2,zcb0,bne_iff_ne,beq_iff_eq]at this
  rcases this.1 with (z | z) |z
  ·exact absurd hf z
  ·exact .inl z
  ·exact .inr z
 ·have:=h' y hy
  simp only [zbo2,beq_iff_eq]at this
  exact this.2
noncomputable def zah8 (N' N:List Str) (n:Nat) (names:List (Str×NameKind)):Nat→List Nat→Bool
 |_,[]=>true
 |k,j::js=>(match N'[n+k]?,N[j]? with
  |some x,some y=>x == y&&names.any fun z=>z.1 == x&&z.2 == .free
  |_,_=>false)&&zah8 N' N n names (k+1) js
theorem zw7 {N' N:List Str}{n:Nat}{names:List (Str×NameKind)}:∀ {cap:List Nat}{k0:Nat},zah8 N' N n names k0 cap=true→∀(k j:Nat),cap[k]?=some j→∃x,N'[n+(k0+k)]?=some x∧N[j]?=some x∧(x,NameKind.free)∈names
 |[],k0,_,k,j,e=>by simp at e
 |i::js,k0,h,k,j,e=>by
  unfold zah8 at h
  rw [zbo2]at h
  cases k with
  |zero =>
   simp at e
   subst e
   have h1:=h.1
   split at h1
   ·rename_i x y z1 z2
    rw [zbo2,beq_iff_eq,List.any_eq_true]at h1
    obtain⟨e1,w,w1,w2⟩:=h1
    rw [zbo2,beq_iff_eq,beq_iff_eq]at w2
    obtain⟨a,b⟩:=w
    simp only at w2
    rw [w2.1,w2.2]at w1
    exact⟨x,by simpa using z1,by rw [z2,e1],w1⟩
   ·cases h1
  |succ k =>
   obtain⟨x,a,b,c⟩:=zw7 h.2 k j (by simpa using e)
   exact⟨x,by rw [show k0+(k+1)=k0+1+k by lia];exact a,b,c⟩
theorem zi2 {X:Cx}{F:List Addr}{elt tg iter:Expr}{ifs:List Expr}{scope:Scope}{pos:Pos}{fs:DI}{g:TG}{kt:D→Th→Option Th}{ft:DT}{fe:DE} (n:Nat) (cap:List Nat) (N':List Str) (hc:X.calm=true) (hi:PI X tg iter (dI X.K F fs))
  (hg:∀C s₃ H₃ fp pins,PG (blk X N' scope C s₃ H₃ fp pins) tg g) (hk:∀F',TgOk X.K F' g kt) (ht:∀C s₃ H₃ fp pins F',PTs (blk X N' scope C s₃ H₃ fp pins) ifs (dT X.K F' ft)) (he:∀C s₃ H₃ fp pins F',PE (blk X N' scope C s₃ H₃ fp pins) elt (dE X.K F' fe))
  (hkd:scope.kind=.function:=by rfl) (hcs:zac6 scope.names X.env.kindOf=true:=by rfl) (hN:N'.length=n+cap.length:=by rfl) (hcap:zah8 N' X.N n scope.names 0 cap=true:=by rfl)
  (hs:∀x,foldedSetIterable iter X.env x=pure x:=by intro _;rfl):PE X (.ListComp elt [⟨tg,iter,ifs,0⟩] scope pos) (dE X.K F (zf8 n cap fs kt ft fe)) :=
 ped_comp (zax3 hkd hcs) hc hi hN (fun k j e=>by simpa using zw7 hcap k j e) hg hk ht he hs
end DL
namespace L2
open PySem.Spec
noncomputable abbrev EMS:=Addr→L2.St→Hp→(L2.St→Hp→Prop)→Prop
noncomputable def emT (e:Expr) (g2:Comprehension) (acc:Value) (env:Env):Sem Unit:=do
 let x ← eval g2.iter env
 standAt g2.iter.pos
 let x ← foldedSetIterable g2.iter env x
 let _ ← runOwn (.compStart e 1 (← holding [x] (pyIter x)) acc env) env
theorem zas8 {elt target iter:Expr}{ifs:List Expr}{g2:Comprehension}{scope:Scope}{pos:Pos}{it acc:Value}{env:Env} (h2:g2.is_async=0) :
  compTurn (.ListComp elt [⟨target,iter,ifs,0⟩,g2] scope pos) 0 it acc env=(do
   standAt iter.pos
   match ← pyNext it with
   |none=>pure (.done .next)
   |some v =>
    letOwnedTupleGo target it v
    assign target env v
    let mut ok:=true
    for c in ifs do
     if ok then ok ← isTrue c env (eval c env)
    if ok then emT (.ListComp elt [⟨target,iter,ifs,0⟩,g2] scope pos) g2 acc env
    again (.compLoop (.ListComp elt [⟨target,iter,ifs,0⟩,g2] scope pos) 0 it acc env)):=by
 obtain⟨t2,i2,f2,a2⟩:=g2
 have h2:a2=0:=h2
 subst h2
 simp only [emT,bind_assoc,pure_bind]
 rfl
theorem zas7 {elt iter:Expr}{ifs:List Expr}{g1:Comprehension}{target:Expr}{scope:Scope}{pos:Pos}{it acc:Value}{env:Env} :
  compTurn (.ListComp elt [g1,⟨target,iter,ifs,0⟩] scope pos) 1 it acc env=(do
   standAt iter.pos
   match ← pyNext it with
   |none=>pure (.done .next)
   |some v =>
    letOwnedTupleGo target it v
    assign target env v
    let mut ok:=true
    for c in ifs do
     if ok then ok ← isTrue c env (eval c env)
    if ok then (do let _ ← call (.builtin "list.append") [acc, ← eval elt env])
    again (.compLoop (.ListComp elt [g1,⟨target,iter,ifs,0⟩] scope pos) 1 it acc env)):=by rfl
theorem zac9 {prog:Program}{w:World}{A:Around}{R:Result→zbo3→Prop}{s:zbo3}{elt target:Expr}{ip:Pos}{gens:List Comprehension}{depth:Nat}{ifs:List Expr}{scope:Scope}{pos:Pos}{it acc:Value}{env:Env} (em:Sem Unit)
  (heq:compTurn (.ListComp elt gens scope pos) depth it acc env=(do
   standAt ip
   match ← pyNext it with
   |none=>pure (.done .next)
   |some v =>
    letOwnedTupleGo target it v
    assign target env v
    let mut ok:=true
    for c in ifs do
     if ok then ok ← isTrue c env (eval c env)
    if ok then em
    again (.compLoop (.ListComp elt gens scope pos) depth it acc env))) (I:Nat→zbo3→Prop)
  (turn:∀n s,I n s→wpAny (model prog w) A (pyNext it) (fun r s₁=>match r with
   |none=>R (.ok .next) s₁
   |some v=>wpAny (model prog w) A (letOwnedTupleGo target it v) (fun _ s₁'=>wpAny (model prog w) A (assign target env v) (fun _ s₂ =>
     wpAny (model prog w) A (forIn ifs true fun c r=>if r=true then do let ok ← isTrue c env (eval c env);pure (ForInStep.yield ok) else pure (ForInStep.yield r)) (fun ok s₃ =>
      if ok=true then wpAny (model prog w) A em (fun _ s₅ => ∃m,m<n∧I m s₅) (fun _ _=>False) s₃
      else ∃m,m<n∧I m s₃) (fun _ _=>False) s₂) (fun _ _=>False) s₁') (fun _ _=>False) s₁) (fun _ _=>False) s)
  (n:Nat) (h:I n s):codeAny (model prog w) A (.compLoop (.ListComp elt gens scope pos) depth it acc env) R s:=by
 refine codeAny_loop rfl I (fun n s hI=>?_) n h
 show wpAny _ A ((compTurn (.ListComp elt gens scope pos) depth it acc env).onRaise (fun x=>do noteFrame x env;theTreesLotGoes x)) _ _ s
 refine wpAny_noted ?_
 rw [heq]
 refine zbn6 (wpAny_standAt (zbn6 (wpAny_mono (turn n s hI) (fun r s₁ h₁=>?_) fun _ _ h'=>h'.elim)))
 cases r with
 |none=>exact zbp3 h₁
 |some v =>
  refine zbn6 (wpAny_mono h₁ (fun _ s₁' h₁'=>?_) fun _ _ h'=>h'.elim)
  refine zbn6 (wpAny_mono h₁' (fun _ s₂ h₂=>zbn6 (wpAny_mono h₂ (fun ok s₃ h₃=>?_) fun _ _ h'=>h'.elim)) fun _ _ h'=>h'.elim)
  cases ok with
  |false=>exact zbp3 ⟨rfl,h₃⟩
  |true=>exact zbn6 (wpAny_mono h₃ (fun _ s₅ h₅=>zbp3 ⟨rfl,h₅⟩) fun _ _ h'=>h'.elim)
theorem zu8 {prog:Program}{w:World}{A:Around}{R:Result→zbo3→Prop}{s:zbo3}{elt target iter ifs g1 scope pos it acc env}
  (h0:codeAny (model prog w) A (.compLoop (.ListComp elt [g1,⟨target,iter,ifs,0⟩] scope pos) 1 it acc env) R s)
  (h:wpAny (model prog w) A (pyIter it) (fun it' s'=>codeAny (model prog w) A (.compLoop (.ListComp elt [g1,⟨target,iter,ifs,0⟩] scope pos) 1 it' acc env) R s')
   (notedBy (model prog w) A env fun x s'=>R (.error x) s') s) :
  codeAny (model prog w) A (.compStart (.ListComp elt [g1,⟨target,iter,ifs,0⟩] scope pos) 1 it acc env) R s:=by
 refine codeAny_of_tree ?_
 show wpAny _ _ ((compStart (.ListComp elt [g1,⟨target,iter,ifs,0⟩] scope pos) 1 it acc env).onRaise (fun x=>do noteFrame x env;standAt theWindowsPlace)) _ _ s
 refine wpAny_notedAt ?_
 unfold compStart
 show wpAny _ _ (ask >>= _) _ _ s
 refine zbn6 (wpAny_askSetting (wpAny_ite ?_))
 split
 ·first
   |exact zbn6 (zbp3 (zbp3 (And.intro rfl h0)))
   |exact zbp3 (And.intro rfl h0)
 ·first
   |exact zbn6 (wpAny_rule (zbn6 (wpAny_standAt (zbn6 (wpAny_mono h (fun it' s' h'=>zbp3 (And.intro rfl h')) fun _ _ x=>x)))))
   |(refine zbn6 (wpAny_rule ?_);show wpAny _ _ (standAt iter.pos >>= _) _ _ s;exact zbn6 (wpAny_standAt (zbn6 (wpAny_mono h (fun it' s' h'=>zbp3 (And.intro rfl h')) fun _ _ x=>x))))
noncomputable def tCompG (n:Nat) (cap:List Nat) (wi:TI) (g:TG) (tt:TT) (em:EMS):TE:=fun σ H Q=>wi σ H fun J H1 => ∀D,H1 D=none→∃W:Nat→Nat→L2.St→Hp→Prop,(∃m,W 0 m (capV n cap σ) (upd H1 D (.lst [])))∧∀i m σ' H',W i m σ' H' →
 (J.stop i H'∧Q (.ref D) H')∨(J.go i H'∧∃N:L2.St→Hp→Prop,(∀σ'' H'',N σ'' H''→∃m',m' < m∧W (i+1) m' σ'' H'')∧∀x H2,J.yld i H' x H2→g x σ' H2 fun σ2 H3=>tt σ2 H3 fun b H4 =>
  if b=true then em D σ2 H4 N else N σ2 H4)
noncomputable def PEm (Y:Cx) (tree:Sem Unit) (em:L2.St→Hp→(L2.St→Hp→Prop)→Prop):Prop :=
 ∀(pins:List (Addr×Obj)) (s:zbo3) (σ:L2.St) (H:Hp) (R:L2.St→Hp→Prop),Inv Y pins σ H s→em σ H R→wpAny (model Y.prog Y.w) Y.A tree (fun _ s' => ∃σ' H',Inv Y pins σ' H' s'∧R σ' H') Y.xe s
noncomputable def tInner (wi:TI) (g:TG) (tt:TT) (te:TE):EMS:=fun D σ H R=>wi σ H fun J H1 => ∃W:Nat→Nat→L2.St→Hp→Prop,(∃m,W 0 m σ H1)∧∀i m σ' H',W i m σ' H' →
 (J.stop i H'∧R σ' H')∨(J.go i H'∧∃N:L2.St→Hp→Prop,(∀σ'' H'',N σ'' H''→∃m',m' < m∧W (i+1) m' σ'' H'')∧∀x H2,J.yld i H' x H2→g x σ' H2 fun σ2 H3=>tt σ2 H3 fun b H4 =>
  if b=true then te σ2 H4 fun v H5 => ∃vs,H5 D=some (.lst vs)∧vs.length<sizeLine∧N σ2 (upd H5 D (.lst (vs++[v]))) else N σ2 H4)
theorem zbe3 {Y:Cx}{elt tg iter:Expr}{ifs:List Expr}{g1:Comprehension}{scope:Scope}{pos:Pos}{wi:TI}{g:TG}{tt:TT}{te:TE}{D:Addr} (yc:Y.calm=true) (yx:Y.xe=fun _ _=>False) (hi:PI Y tg iter wi) (hg:PG Y tg g) (ht:PTs Y ifs tt) (he:PE Y elt te)
  (hs:∀x,foldedSetIterable iter Y.env x=pure x:=by intro _;rfl):PEm Y (emT (.ListComp elt [g1,⟨tg,iter,ifs,0⟩] scope pos) ⟨tg,iter,ifs,0⟩ (.ref D) Y.env) (tInner wi g tt te D):=by
 intro pins s σ H R I h
 unfold emT
 refine zbn6 (thn (hi pins s σ H _ I h) fun v s1 h1=>zbn6 (wpAny_standAt (zbn6 (wpAny_of_eq (hs v) (zbn6 (wpAny_holding (thn h1 fun itv s2 h2=>?_)))))))
 obtain⟨it,fp,tn,J,H2,e,I2,T,st2,f2,W,⟨m0,w0⟩,turn⟩:=h2
 subst e
 refine zbn6 (wpAny_runOwn ?_)
 have stat:∀ {H':Hp},(∀b∈fp,H' b=none)→∀b∈fp,FpOk Y pins H' b:=fun hn b hb=>⟨hn b hb,(f2 b hb).2⟩
 have loop:∀s2',Inv Y pins σ H2 s2'→tn 0 s2'.heap→codeAny (model Y.prog Y.w) Y.A (.compLoop (.ListComp elt [g1,⟨tg,iter,ifs,0⟩] scope pos) 1 (.ref it) (.ref D) Y.env)
   (fun r s'=>match r with | .ok f=>wpAny (model Y.prog Y.w) Y.A (pure ()) (fun _ s' => ∃σ' H',Inv Y pins σ' H' s'∧R σ' H') Y.xe s' | .error e=>cameBackBy (model Y.prog Y.w) Y.A Y.env Y.xe e s') s2':=by
  intro s2' I2' st2'
  refine zac9 (do let _ ← call (.builtin "list.append") [.ref D, ← eval elt Y.env]) zas7 (fun n s' => ∃i σ' H',Inv Y pins σ' H' s'∧tn i s'.heap∧(∀b∈fp,H' b=none)∧W i n σ' H') ?_ m0 ⟨0,_,_,I2',st2',fun b hb=>(f2 b hb).1,w0⟩
  rintro n s3 ⟨i,σ3,H3,I5,st3,fr3,w3⟩
  rcases turn i n σ3 H3 w3 with ⟨stop,qn⟩ | ⟨go,N,hNN,step⟩
  ·refine thn (T.done Y rfl rfl rfl yc i pins s3 σ3 H3 (fun _ _=>False) I5 (stat fr3) st3 stop) fun r s4 ⟨hr,I6⟩=>?_
   subst hr
   exact zbp3 ⟨σ3,H3,I6,qn⟩
  ·refine thn (T.item Y rfl rfl rfl yc i pins s3 σ3 H3 (fun _ _=>False) I5 (stat fr3) st3 go) fun r s4 ⟨u,hr,h4⟩=>?_
   subst hr
   refine thn h4 fun _ s5 ⟨x,H5,I6,r5,y5,st5,fr5⟩=>?_
   have I6':=I6.pinned (stat fr5) (T.obj _ _ st5)
   have a:=hg _ s5 σ3 H5 x u _ I6' r5 (step x H5 y5)
   rw [yx]at a
   refine thn a fun _ s6 ⟨σ6,H6,I7,q6⟩=>?_
   have b:=ht _ s6 σ6 H6 _ I7 q6
   rw [yx]at b
   refine thn b fun ok s7 ⟨H7,I8,q7⟩=>?_
   have again:∀ {s9:zbo3}{H9:Hp},Inv Y (pins++zr4 fp s5.heap) σ6 H9 s9→N σ6 H9→∃m,m<n∧∃i σ' H',Inv Y pins σ' H' s9∧tn i s9.heap∧(∀b∈fp,H' b=none)∧W i m σ' H':=fun {s9 H9} I9 n9=>by
    obtain⟨m',hm,w9⟩:=hNN σ6 H9 n9
    refine⟨m',hm,i+1,σ6,H9,I9.unpinned,T.keep _ _ _ st5 fun b hb o e=>(I9.pin (b,o) (zbm6 _ (zbm6 _ (zf7 hb e)))).1,fun b hb=>?_,w9⟩
    obtain⟨o,e,d⟩:=T.obj _ _ st5 b hb
    exact (I9.pin (b,o) (zbm6 _ (zbm6 _ (zf7 hb e)))).2.1
   cases ok with
   |false=>exact iteF (again I8 (by simpa using q7))
   |true =>
    rw [if_pos rfl]at q7
    refine iteT ?_
    have c:=he _ s7 σ6 H7 _ I8 q7
    rw [yx]at c
    refine zbn6 (thn c fun z s8 ⟨vz,H8,I9,r9,vs,hv,hl,n9⟩=>zbn6 ?_)
    have ap:=zo7 (X:=Y) (pins++zr4 fp s5.heap) s8 σ6 H8 (.ref D) [vz] (.ref D) [z] (fun _ H9=>N σ6 H9) I9 rfl (.cons r9 .nil) ⟨_,vs,vz,rfl,rfl,hv,hl,n9⟩
    rw [yx]at ap
    exact thn ap fun _ s9 ⟨_,H9,I10,_,n10⟩=>zbp3 (again I10 n10)
 exact zu8 (loop s2 I2 st2) (T.self _ 0 _ _ _ st2 (loop s2 I2 st2))
theorem pe_compG {X:Cx}{elt tg iter:Expr}{ifs:List Expr}{scope:Scope}{pos:Pos}{n:Nat}{cap:List Nat}{N':List Str}{wi:TI}{g:TG}{tt:TT}{em:EMS}{g2:Comprehension} (S:CompSc X scope) (hc:X.calm=true) (hi:PI X tg iter wi)
  (hN:N'.length=n+cap.length) (hcap:∀(k:Nat) (j:Nat),cap[k]?=some j→∃x,N'[n+k]?=some x∧X.N[j]?=some x∧(x,NameKind.free)∈scope.names)
  (hg:∀C s₃ H₃ fp pins,PG (blk X N' scope C s₃ H₃ fp pins) tg g) (ht:∀C s₃ H₃ fp pins,PTs (blk X N' scope C s₃ H₃ fp pins) ifs tt) (he:∀C s₃ H₃ fp pins D,PEm (blk X N' scope C s₃ H₃ fp pins) (emT (.ListComp elt [⟨tg,iter,ifs,0⟩,g2] scope pos) g2 (.ref D) (blk X N' scope C s₃ H₃ fp pins).env) (em D))
  (h2:g2.is_async=0) (hs:∀x,foldedSetIterable iter X.env x=pure x:=by intro _;rfl):PE X (.ListComp elt [⟨tg,iter,ifs,0⟩,g2] scope pos) (tCompG n cap wi g tt em):=by
 intro pins s σ H Q I h
 rw [eval_ListComp]
 refine wpAny_comprehension_free (use:=none) rfl hs (zx6 (S.frees I.ok)) S.kind (fun x hx hl=>by rw [S.names x hx,hl]) (thn (hi pins s σ H _ I h) fun v s1 h1=>thn h1 fun itv s2 h2=>?_)
 obtain⟨it,fp,tn,J,H2,e,I2,T,st2,f2,R⟩:=h2
 subst e
 have lt2:∀b∈fp,b<s2.heap.objs.size:=fun b hb=>by obtain⟨o,e,_⟩:=T.obj _ _ st2 b hb;exact zbo6 e
 have hD:H2 s2.heap.objs.size=none:=I2.fresh
 obtain⟨W,⟨m0,w0⟩,turn⟩:=R s2.heap.objs.size hD
 have I3:Inv X pins σ (upd H2 s2.heap.objs.size (.lst [])) { s2 with heap:=s2.heap.push { cls:=.type "list",data:=.seq ([]:List Value).toArray },toks:=s2.toks }:=I2.lnew (t':=s2.toks) .nil (by simp)
 have f3:∀b∈fp,FpOk X pins (upd H2 s2.heap.objs.size (.lst [])) b:=fun b hb=>⟨by rw [zc8 (zbp8 (lt2 b hb))];exact (f2 b hb).1,(f2 b hb).2⟩
 refine wpAny_newObj_type (zn8 fun h₁ hns₁ hk hcl₁=>?_)
 have lt3:∀b∈fp,b<(s2.heap.push { cls:=.type "list",data:=.seq ([]:List Value).toArray }).objs.size:=fun b hb=>by rw [zbu4];exact zbu6 (lt2 b hb)
 have I4:Inv (blk X N' scope (s2.heap.push { cls:=.type "list",data:=.seq ([]:List Value).toArray }).objs.size { s2 with heap:=s2.heap.push { cls:=.type "list",data:=.seq ([]:List Value).toArray },toks:=s2.toks } (upd H2 s2.heap.objs.size (.lst [])) fp pins) [] (capV n cap σ) (upd H2 s2.heap.objs.size (.lst [])) { s2 with heap:=h₁,toks:=s2.toks } :=
  zat2 I3 S hc f3 lt3 (t1:=s2.toks) hns₁ hk hcl₁ (by simp [capV,hN]) (fun i x v e1 e2=>by
   unfold capV at e2
   by_cases hi:i<n
   ·rw [zbt8 (by simpa using hi),zbq1]at e2
    split at e2<;>cases e2
   ·rw [zbt5 (by simpa using hi),zbr1,zbp7]at e2
    cases ej:cap[i - n]? with
    |none=>rw [ej]at e2;cases e2
    |some j =>
     rw [ej]at e2
     obtain⟨x',a1,a2,a3⟩:=hcap (i - n) j ej
     have:n+(i - n)=i:=by lia
     rw [this,e1]at a1
     cases a1
     refine⟨a3,j,a2,?_⟩
     have e2:(σ[j]?).getD none=some v:=by simpa using e2
     cases q:σ[j]? with
     |none=>rw [q]at e2;cases e2
     |some z=>rw [q]at e2;have:z=some v:=e2;rw [this])
 have loop:codeAny (model X.prog X.w) X.A (.compLoop (.ListComp elt [⟨tg,iter,ifs,0⟩,g2] scope pos) 0 (.ref it) (.ref s2.heap.objs.size) (compEnvC scope (cellsFrom ((s2.heap.push { cls:=.type "list",data:=.seq ([]:List Value).toArray }).objs.size+1) scope.names (clOf X.env.cells scope.names [])) (s2.heap.push { cls:=.type "list",data:=.seq ([]:List Value).toArray }).objs.size X.env))
   (compPost (model X.prog X.w) X.A X.xe none (EP X pins σ Q) (.ref s2.heap.objs.size) (s2.heap.push { cls:=.type "list",data:=.seq ([]:List Value).toArray }).objs.size) { s2 with heap:=h₁,toks:=s2.toks }:=by
  generalize hY:(blk X N' scope (s2.heap.push { cls:=.type "list",data:=.seq ([]:List Value).toArray }).objs.size { s2 with heap:=s2.heap.push { cls:=.type "list",data:=.seq ([]:List Value).toArray },toks:=s2.toks } (upd H2 s2.heap.objs.size (.lst [])) fp pins)=Y at I4
  have st4:tn 0 h₁:=T.keep _ _ _ st2 fun b hb o e=>hk b o (zbn8 _ e)
  have stat:∀ {H':Hp},(∀b∈fp,H' b=none)→∀b∈fp,FpOk Y [] H' b:=fun hn b hb=>by
   subst hY
   obtain⟨f0,f1,f2',f3',f4,f5⟩:=f3 b hb
   exact⟨hn b hb,zbp8 (lt3 b hb),fun z=>(zbn5.mp (I3.stkSub b z)).elim f1 f2',.inl hb,fun x c e=>(by
    rcases S.old I3 e with z | z
    ·exact f4 x c z
    ·exact zbw0 (zby4 (lt3 b hb) z)),fun p hp=>f5 p (by simpa using hp)⟩
  have hgY:PG Y tg g:=hY ▸ hg _ _ _ _ _
  have htY:PTs Y ifs tt:=hY ▸ ht _ _ _ _ _
  have heY:PEm Y (emT (.ListComp elt [⟨tg,iter,ifs,0⟩,g2] scope pos) g2 (.ref s2.heap.objs.size) Y.env) (em s2.heap.objs.size):=by subst hY;exact he _ _ _ _ _ _
  have yp:Y.prog=X.prog:=by subst hY;rfl
  have yw:Y.w=X.w:=by subst hY;rfl
  have yK:Y.K=X.K:=by subst hY;rfl
  have yA:Y.A=X.A:=by subst hY;rfl
  have yc:Y.calm=true:=by subst hY;rfl
  have yx:Y.xe=fun _ _=>False:=by subst hY;rfl
  have ye:Y.env=compEnvC scope (cellsFrom ((s2.heap.push { cls:=.type "list",data:=.seq ([]:List Value).toArray }).objs.size+1) scope.names (clOf X.env.cells scope.names [])) (s2.heap.push { cls:=.type "list",data:=.seq ([]:List Value).toArray }).objs.size X.env:=by subst hY;rfl
  rw [← ye]
  refine zac9 (emT (.ListComp elt [⟨tg,iter,ifs,0⟩,g2] scope pos) g2 (.ref s2.heap.objs.size) Y.env) (zas8 h2) (fun n s' => ∃i σ' H',Inv Y [] σ' H' s'∧tn i s'.heap∧(∀b∈fp,H' b=none)∧W i n σ' H') ?_ m0 ⟨0,_,_,I4,st4,fun b hb=>(f3 b hb).1,w0⟩
  rintro n s3 ⟨i,σ3,H3,I5,st3,fr3,w3⟩
  rcases turn i n σ3 H3 w3 with ⟨stop,qn⟩ | ⟨go,N,hNN,step⟩
  ·have d:=T.done Y yp yw yK yc i [] s3 σ3 H3 (fun _ _=>False) I5 (stat fr3) st3 stop
   rw [yA]at d
   refine thn d fun r s4 ⟨hr,I6⟩=>?_
   subst hr
   obtain⟨m,hm,_⟩:=I6.loc
   rw [ye]at hm
   refine⟨m,hm,fun h' hb=>⟨.ref s2.heap.objs.size,H3,?_,rfl,qn⟩⟩
   subst hY
   exact zai2 I3 f3 rfl I6 hb
  ·have d:=T.item Y yp yw yK yc i [] s3 σ3 H3 (fun _ _=>False) I5 (stat fr3) st3 go
   rw [yA]at d
   refine thn d fun r s4 ⟨u,hr,h4⟩=>?_
   subst hr
   refine thn h4 fun _ s5 ⟨x,H5,I6,r5,y5,st5,fr5⟩=>?_
   have I6':=I6.pinned (stat fr5) (T.obj _ _ st5)
   have a:=hgY _ s5 σ3 H5 x u _ I6' r5 (step x H5 y5)
   rw [yp,yw,yA,yx]at a
   refine thn a fun _ s6 ⟨σ6,H6,I7,q6⟩=>?_
   have b:=htY _ s6 σ6 H6 _ I7 q6
   rw [yp,yw,yA,yx]at b
   refine thn b fun ok s7 ⟨H7,I8,q7⟩=>?_
   have again:∀ {s9:zbo3}{σ9:L2.St}{H9:Hp},Inv Y ([]++zr4 fp s5.heap) σ9 H9 s9→N σ9 H9→∃m,m<n∧∃i σ' H',Inv Y [] σ' H' s9∧tn i s9.heap∧(∀b∈fp,H' b=none)∧W i m σ' H':=fun {s9 σ9 H9} I9 n9=>by
    obtain⟨m',hm,w9⟩:=hNN σ9 H9 n9
    refine⟨m',hm,i+1,σ9,H9,I9.unpinned,T.keep _ _ _ st5 fun b hb o e=>(I9.pin (b,o) (zbm6 _ (zbm6 _ (zf7 hb e)))).1,fun b hb=>?_,w9⟩
    obtain⟨o,e,d⟩:=T.obj _ _ st5 b hb
    exact (I9.pin (b,o) (zbm6 _ (zbm6 _ (zf7 hb e)))).2.1
   cases ok with
   |false=>exact iteF (again I8 (by simpa using q7))
   |true =>
    rw [if_pos rfl]at q7
    refine iteT ?_
    have c:=heY _ s7 σ6 H7 _ I8 q7
    rw [yp,yw,yA,yx]at c
    exact thn c fun _ s8 ⟨σ8,H8,I9,n9⟩=>again I9 n9
 exact codeAny_compStart_list loop (T.self _ 0 _ _ _ (T.keep _ _ _ st2 fun b hb o e=>hk b o (zbn8 _ e)) loop)
end L2
namespace DL
open PySem.Spec L2
noncomputable def zs1 (k:D→Th→Option Th) (ft:DT) (fe:DE):List D→Th→Option (List D×Th)
 |[],t=>some ([],t)
 |d::ds,t=>(k d t).bind fun t1=>(ft t1).bind fun b=>if b then (fe t1).bind fun r=>(zs1 k ft fe ds t1).map fun q=>(r.d::q.1,q.2) else zs1 k ft fe ds t1
noncomputable def zs2 (k:D→Th→Option Th) (ft:DT) (fs2:DI) (k2:D→Th→Option Th) (ft2:DT) (fe:DE):List D→Th→Option (List D)
 |[],_=>some []
 |d::ds,t=>(k d t).bind fun t1=>(ft t1).bind fun b=>if b then (fs2 t1).bind fun q=>(zs1 k2 ft2 fe q.2 t1).bind fun p=>(zs2 k ft fs2 k2 ft2 fe ds p.2).map fun xs=>p.1++xs else zs2 k ft fs2 k2 ft2 fe ds t1
noncomputable def zaf0 (n:Nat) (cap:List Nat) (fs:DI) (k:D→Th→Option Th) (ft:DT) (fs2:DI) (k2:D→Th→Option Th) (ft2:DT) (fe:DE):DE:=fun t=>(fs t).bind fun q=>(capD t cap).bind fun c =>
 (zs2 k ft fs2 k2 ft2 fe q.2 (zbn4 n Sl.no++c.2.map Sl.val)).bind fun xs=>if xs.length≤50000&&flats xs then some (.nw xs) else none
theorem zbc1 {X:Cx}{F:List Addr}{n:Nat}{cap:List Nat}{fs fs2:DI}{g g2:TG}{kt kt2:D→Th→Option Th}{ft ft2:DT}{fe:DE} (hk:∀F',TgOk X.K F' g kt) (hk2:∀F',TgOk X.K F' g2 kt2) {σ:L2.St}{H:Hp}{Q:VK} (h:dE X.K F (zaf0 n cap fs kt ft fs2 kt2 ft2 fe) σ H Q) :
  tCompG n cap (dI X.K F fs) g (fun σ H Q => ∃F',dT X.K F' ft σ H Q) (tInner (fun σ H R => ∃F',dI X.K F' fs2 σ H R) g2 (fun σ H Q => ∃F',dT X.K F' ft2 σ H Q) (fun σ H Q => ∃F',dE X.K F' fe σ H Q)) σ H Q:=by
 obtain⟨A,t,r,R,e,h⟩:=h
 unfold zaf0 at e
 cases e1:fs t with
 |none=>rw [e1]at e;cases e
 |some q =>
  obtain⟨b,ds⟩:=q
  cases e2:capD t cap with
  |none=>rw [e1,e2]at e;cases e
  |some q2 =>
   obtain⟨c,caps⟩:=q2
   rw [e1,e2]at e
   simp only [zbn0]at e
   cases e3:zs2 kt ft fs2 kt2 ft2 fe ds (zbn4 n Sl.no++caps.map Sl.val) with
   |none=>rw [e3]at e;cases e
   |some xs =>
    rw [e3]at e
    simp only [zbn0]at e
    split at e
    case isFalse=>cases e
    rename_i ok
    rw [zbo2,decide_eq_true_eq]at ok
    cases e
    obtain⟨cvs,cv1,cv2⟩:=zz7 R e2
    obtain⟨F',F'def⟩:∃F',F'=hidF (b&&c) A F:=⟨_,rfl⟩
    have subF:∀x∈F',x∈A++F:=fun x hx=>by
     rw [F'def]at hx
     unfold hidF at hx
     split at hx
     ·exact hx
     ·exact zbm6 _ hx
    have lessB:∀H:Hp,Same (hide (hidF b A F) H) (hide F' H):=fun H=>zb5 H fun x hx=>by
     rw [F'def]at hx
     cases b<;>cases c<;>simp [hidF]at hx ⊢<;>first | exact hx | exact .inr hx | (rcases hx with z | z<;>simp [z])
    have lessC:∀H:Hp,Same (hide (hidF c A F) H) (hide F' H):=fun H=>zb5 H fun x hx=>by
     rw [F'def]at hx
     cases b<;>cases c<;>simp [hidF]at hx ⊢<;>first | exact hx | exact .inr hx | (rcases hx with z | z<;>simp [z])
    refine⟨A,t,b,ds,R,e1,fun J H1 Good gs src gd Dd hD=>?_⟩
    have H1A:Lists H1 (A++F):=R.mu.mono gs
    have st0:Same (hide F' H1) (hide (Dd::F') (upd H1 Dd (.lst []))):=zi6 hD
    refine⟨fun i m σ' H'=>i+m=ds.length∧∃th acc rest vs,RS X.K (Dd::F') H' [] th σ'∧zs2 kt ft fs2 kt2 ft2 fe (ds.drop i) th=some rest∧acc++rest=xs∧H' Dd=some (.lst vs)∧Reps X.K (hide (Dd::F') H') acc vs∧Same H1 H'∧Good (Dd::F') H',
     ⟨ds.length,by lia,_,[],xs,[],⟨?_,zbr7,fun p hp=>(by cases hp),?_⟩,by simpa using e3,rfl,zc1,.nil,zd2 hD,src.keep _ _ _ _ gd (fun b o z=>st0 _ _ (lessB _ _ _ z))⟩,?_⟩
    ·intro q hq
     have hq:q∈Dd::F':=hq
     rcases zbn5.mp hq with z | z
     ·exact⟨mL [],by rw [z];exact zc1⟩
     ·obtain⟨us,w⟩:=H1A q (subF q z)
      exact⟨us,(zd2 hD) _ _ w⟩
    ·unfold capV
     rw [cv1]
     exact RSl.noVals (Reps.mono (fun b o z=>st0 _ _ (lessC H1 _ _ (zb6 gs _ _ z))) cv2) n
    ·rintro i m σ' H' ⟨hm,th,acc,rest,vs,RR,ec,ex,hv,hr,sm,gg⟩
     cases m with
     |zero =>
      have z:i=ds.length:=by lia
      subst z
      rw [zbw4]at ec
      cases ec
      rw [zbr4]at ex
      subst ex
      refine .inl ⟨src.stop _ _ gg,h _ H' (gs.trans sm) ⟨Dd,vs,rfl,Same.free gs hD,hv,?_⟩⟩
      refine Reps.hid (P:=Dd ::(A++F)) (fun q hq=>?_) ok.2 (Reps.mono (zc2 _ _) hr)
      rcases zbn5.mp hq with z | z
      ·exact⟨mL vs,by rw [z];exact hv⟩
      ·obtain⟨us,w⟩:=H1A q z
       exact⟨us,sm _ _ w⟩
     |succ m =>
      have hil:i<ds.length:=by lia
      refine .inr ⟨src.go _ _ i gg hil,fun σ' H'=>i+1+m=ds.length∧∃th acc rest vs,RS X.K (Dd::F') H' [] th σ'∧zs2 kt ft fs2 kt2 ft2 fe (ds.drop (i+1)) th=some rest∧acc++rest=xs∧H' Dd=some (.lst vs)∧Reps X.K (hide (Dd::F') H') acc vs∧Same H1 H'∧Good (Dd::F') H',
       fun σ' H' q=>⟨m,zbs1 m,q⟩,fun x H2 y=>?_⟩
      obtain⟨gs2,d,hd,rd⟩:=src.yld _ _ i x H2 gg RR.mu y hil
      have ed:ds.drop i=d::ds.drop (i+1):=by
       have hd':ds[i]=d:=by
        rw [zbn9 hil]at hd
        exact Option.some.inj hd
       rw [← hd']
       exact zbp1 hil
      rw [ed]at ec
      unfold zs2 at ec
      cases k1:kt d th with
      |none=>rw [k1]at ec;cases ec
      |some t1 =>
       rw [k1]at ec
       simp only [zbn0]at ec
       refine hk (Dd::F') σ' H2 [] th t1 d x _ (RR.grow gs2) rd k1 fun σ2 A2 gr2 R2=>?_
       have A20:=zs8 R2 gr2
       subst A20
       cases k2:ft t1 with
       |none=>rw [k2]at ec;cases ec
       |some bb =>
        rw [k2]at ec
        simp only [zbn0]at ec
        refine⟨Dd::F',[],t1,bb,R2,k2,fun H3 gs3=>?_⟩
        cases bb with
        |false =>
         refine iteF ⟨by lia,t1,acc,rest,vs,R2.grow gs3,by simpa using ec,ex,gs3 _ _ (gs2 _ _ hv),Reps.mono (zb6 (gs2.trans gs3)) hr,(sm.trans gs2).trans gs3,src.keep _ _ _ _ gg (zb6 (gs2.trans gs3))⟩
        |true =>
         simp only [if_true]at ec
         cases k3:fs2 t1 with
         |none=>rw [k3]at ec;cases ec
         |some q2 =>
          obtain⟨b2,ds2⟩:=q2
          rw [k3]at ec
          simp only [zbn0]at ec
          cases k4:zs1 kt2 ft2 fe ds2 t1 with
          |none=>rw [k4]at ec;cases ec
          |some pp =>
           obtain⟨xs1,tE⟩:=pp
           rw [k4]at ec
           simp only [zbn0]at ec
           cases k5:zs2 kt ft fs2 kt2 ft2 fe (ds.drop (i+1)) tE with
           |none=>rw [k5]at ec;cases ec
           |some ys =>
            rw [k5]at ec
            cases ec
            refine iteT ⟨Dd::F',[],t1,b2,ds2,R2.grow gs3,k3,fun J2 H4 Good2 gs4 src2 gd2=>?_⟩
            have gd2:Good2 (Dd::F') H4:=by
             have e9:hidF b2 [] (Dd::F')=Dd::F':=by unfold hidF;split<;>simp
             rw [e9]at gd2;exact gd2
            have s4:=(gs2.trans gs3).trans gs4
            refine⟨fun j k σj Hj=>j+k=ds2.length∧∃tj aj rj vj,RS X.K (Dd::F') Hj [] tj σj∧zs1 kt2 ft2 fe (ds2.drop j) tj=some (rj,tE)∧aj++(rj++ys)=xs∧Hj Dd=some (.lst vj)∧Reps X.K (hide (Dd::F') Hj) aj vj∧Same H1 Hj∧Good (Dd::F') Hj∧Good2 (Dd::F') Hj,
             ⟨ds2.length,by lia,t1,acc,xs1,vs,(R2.grow gs3).grow gs4,by simpa using k4,ex,s4 _ _ hv,Reps.mono (zb6 s4) hr,sm.trans s4,src.keep _ _ _ _ gg (zb6 s4),gd2⟩,?_⟩
            rintro j k σj Hj ⟨hjk,tj,aj,rj,vj,Rj,ej,exj,hvj,hrj,smj,ggj,gg2⟩
            cases k with
            |zero =>
             have z:j=ds2.length:=by lia
             subst z
             rw [zbw4]at ej
             cases ej
             exact .inl ⟨src2.stop _ _ gg2,by lia,_,aj,ys,vj,Rj,k5,by simpa using exj,hvj,hrj,smj,ggj⟩
            |succ k =>
             have hjl:j<ds2.length:=by lia
             refine .inr ⟨src2.go _ _ j gg2 hjl,fun σj Hj=>j+1+k=ds2.length∧∃tj aj rj vj,RS X.K (Dd::F') Hj [] tj σj∧zs1 kt2 ft2 fe (ds2.drop (j+1)) tj=some (rj,tE)∧aj++(rj++ys)=xs∧Hj Dd=some (.lst vj)∧Reps X.K (hide (Dd::F') Hj) aj vj∧Same H1 Hj∧Good (Dd::F') Hj∧Good2 (Dd::F') Hj,
              fun σ' H' q=>⟨k,zbs1 k,q⟩,fun xj H5 yj=>?_⟩
             obtain⟨gs5,dj,hdj,rdj⟩:=src2.yld _ _ j xj H5 gg2 Rj.mu yj hjl
             have edj:ds2.drop j=dj::ds2.drop (j+1):=by
              have hd':ds2[j]=dj:=by
               rw [zbn9 hjl]at hdj
               exact Option.some.inj hdj
              rw [← hd']
              exact zbp1 hjl
             rw [edj]at ej
             unfold zs1 at ej
             cases w1:kt2 dj tj with
             |none=>rw [w1]at ej;cases ej
             |some t6 =>
              rw [w1]at ej
              simp only [zbn0]at ej
              refine hk2 (Dd::F') σj H5 [] tj t6 dj xj _ (Rj.grow gs5) rdj w1 fun σ6 A6 gr6 R6=>?_
              have A60:=zs8 R6 gr6
              subst A60
              cases w2:ft2 t6 with
              |none=>rw [w2]at ej;cases ej
              |some b6 =>
               rw [w2]at ej
               simp only [zbn0]at ej
               refine⟨Dd::F',[],t6,b6,R6,w2,fun H6 gs6=>?_⟩
               cases b6 with
               |false =>
                exact iteF ⟨by lia,t6,aj,rj,vj,R6.grow gs6,by simpa using ej,exj,gs6 _ _ (gs5 _ _ hvj),Reps.mono (zb6 (gs5.trans gs6)) hrj,(smj.trans gs5).trans gs6,src.keep _ _ _ _ ggj (zb6 (gs5.trans gs6)),src2.keep _ _ _ _ gg2 (zb6 (gs5.trans gs6))⟩
               |true =>
                simp only [if_true]at ej
                cases w3:fe t6 with
                |none=>rw [w3]at ej;cases ej
                |some re =>
                 rw [w3]at ej
                 simp only [zbn0]at ej
                 cases w4:zs1 kt2 ft2 fe (ds2.drop (j+1)) t6 with
                 |none=>rw [w4]at ej;cases ej
                 |some qq =>
                  obtain⟨zs,tz⟩:=qq
                  rw [w4]at ej
                  cases ej
                  refine iteT ⟨Dd::F',[],t6,re,R6.grow gs6,w3,fun v H7 gs7 q7=>⟨vj,gs7 _ _ (gs6 _ _ (gs5 _ _ hvj)),?_,?_⟩⟩
                  ·have l1:=hrj.length
                   have l2:aj.length+(zs.length+1+ys.length)=xs.length:=by rw [← exj];simp;lia
                   exact zbo7 (show vj.length<50000 by lia) (by rw [sizeLine_eq];decide)
                  ·have s7:=(gs5.trans gs6).trans gs7
                   have hu:Same (hide (Dd::F') H7) (hide (Dd::F') (upd H7 Dd (.lst (vj++[v])))):=zl4 (zbn1 ..)
                   have rv:=q7.cleanF ((R6.grow gs6).mu)
                   refine⟨by lia,t6,aj++[re.d],zs,vj++[v],RS.updF ((R6.grow gs6).grow gs7) (zbn1 ..),w4,by simpa using exj,zc1,?_,?_,?_,?_⟩
                   ·exact (Reps.mono (fun b o z=>hu _ _ (zb6 s7 _ _ z)) hrj).app (Reps.one (Rep.mono hu rv))
                   ·exact fun b o z=>by
                     rw [zc8 (fun w=>by rw [w,hD]at z;cases z)]
                     exact s7 _ _ (smj _ _ z)
                   ·exact src.keep _ _ _ _ ggj (fun b o z=>hu _ _ (zb6 s7 _ _ z))
                   ·exact src2.keep _ _ _ _ gg2 (fun b o z=>hu _ _ (zb6 s7 _ _ z))
theorem zaz3 {X:Cx}{F:List Addr}{elt tg iter tg2 iter2:Expr}{ifs ifs2:List Expr}{scope:Scope}{pos:Pos}{fs fs2:DI}{g g2:TG}{kt kt2:D→Th→Option Th}{ft ft2:DT}{fe:DE} (n:Nat) (cap:List Nat) (N':List Str) (hc:X.calm=true) (hi:PI X tg iter (dI X.K F fs))
  (hg:∀C s₃ H₃ fp pins,PG (blk X N' scope C s₃ H₃ fp pins) tg g) (hk:∀F',TgOk X.K F' g kt) (ht:∀C s₃ H₃ fp pins F',PTs (blk X N' scope C s₃ H₃ fp pins) ifs (dT X.K F' ft))
  (hi2:∀C s₃ H₃ fp pins F',PI (blk X N' scope C s₃ H₃ fp pins) tg2 iter2 (dI X.K F' fs2)) (hg2:∀C s₃ H₃ fp pins,PG (blk X N' scope C s₃ H₃ fp pins) tg2 g2) (hk2:∀F',TgOk X.K F' g2 kt2) (ht2:∀C s₃ H₃ fp pins F',PTs (blk X N' scope C s₃ H₃ fp pins) ifs2 (dT X.K F' ft2))
  (he:∀C s₃ H₃ fp pins F',PE (blk X N' scope C s₃ H₃ fp pins) elt (dE X.K F' fe))
  (hkd:scope.kind=.function:=by rfl) (hcs:zac6 scope.names X.env.kindOf=true:=by rfl) (hN:N'.length=n+cap.length:=by rfl) (hcap:zah8 N' X.N n scope.names 0 cap=true:=by rfl)
  (hs:∀x,foldedSetIterable iter X.env x=pure x:=by intro _;rfl) (hs2:∀C s₃ H₃ fp pins x,foldedSetIterable iter2 (blk X N' scope C s₃ H₃ fp pins).env x=pure x:=by intros;rfl) :
  PE X (.ListComp elt [⟨tg,iter,ifs,0⟩,⟨tg2,iter2,ifs2,0⟩] scope pos) (dE X.K F (zaf0 n cap fs kt ft fs2 kt2 ft2 fe)) :=
 PE.imp (pe_compG (g:=g) (zax3 hkd hcs) hc hi hN (fun k j e=>by simpa using zw7 hcap k j e) hg (fun C s₃ H₃ fp pins pins' s σ H Q I ⟨F',q⟩=>ht C s₃ H₃ fp pins F' pins' s σ H Q I q)
  (fun C s₃ H₃ fp pins D=>zbe3 rfl rfl (fun pins' s σ H R I ⟨F',q⟩=>hi2 C s₃ H₃ fp pins F' pins' s σ H R I q) (hg2 C s₃ H₃ fp pins) (fun pins' s σ H Q I ⟨F',q⟩=>ht2 C s₃ H₃ fp pins F' pins' s σ H Q I q) (fun pins' s σ H Q I ⟨F',q⟩=>he C s₃ H₃ fp pins F' pins' s σ H Q I q) (hs2 C s₃ H₃ fp pins)) rfl hs) fun _ _ _ h=>zbc1 hk hk2 h
section
variable {X:Cx}{F:List Addr}{a b c:Expr}{es:List Expr}{fa fb fc:DE}{pos:Pos}
noncomputable def zm7:List Ev→Option Ev:=fun rs=>match rs with
 |[r]=>(match r.d with
  |.lst ds=>if r.ok||flats ds then some (.nw ds) else none
  |_=>none)
 |_=>none
theorem zq6:CallD X F (.type "list") zm7:=CallD.of zao0 fun H0 H A xs rs e Q m g q ek hq=>by
 unfold zm7 at ek
 split at ek
 ·rename_i r
  cases q with
  |cons q1 q2 =>
   cases q2
   split at ek
   ·rename_i ds z
    split at ek
    case isFalse=>cases ek
    rename_i c
    cases ek
    obtain⟨p,vs,rfl,h1,h2⟩:=q1.items m g z c
    exact⟨p,vs,rfl,.inl h1,fun l hl=>hq _ _ (zd2 hl) ⟨l,vs,rfl,Same.free g hl,zc1,Reps.mono (zi6 hl) h2⟩⟩
   ·cases ek
 ·cases ek
noncomputable def k2I (f:Int→Int→Int):List Ev→Option Ev:=fun rs=>match rs with
 |[r1,r2]=>(match r1.d,r2.d with
  |.int i,.int j=>some (.cl (.int (f i j)))
  |_,_=>none)
 |_=>none
theorem cd_2I {v:Value}{f:Int→Int→Int} (h:zp0 X v (fun xs H Q => ∃i j,xs=[.int i,.int j]∧Q (.int (f i j)) H)):CallD X F v (k2I f):=CallD.of h fun H0 H A xs rs e Q m g q ek hq=>by
 unfold k2I at ek
 split at ek
 ·rename_i r1 r2
  cases q with
  |cons q1 q' =>
   cases q' with
   |cons q2 q3 =>
    cases q3
    split at ek
    ·rename_i i j z1 z2
     cases ek
     have p1:=q1.full
     have p2:=q2.full
     rw [z1]at p1;rw [z2]at p2
     cases ze7 p1;cases ze7 p2
     exact⟨i,j,rfl,hq _ H (Same.refl H) (.int _)⟩
    ·cases ek
 ·cases ek
theorem cd_min (hc:X.calm=true):CallD X F (.builtin "min") (k2I fun i j=>if j<i then j else i):=cd_2I (zbk9 hc)
theorem zbk4 (hc:X.calm=true):CallD X F (.builtin "max") (k2I fun i j=>if j > i then j else i):=cd_2I (zbl1 hc)
noncomputable def dSlF (lo:DE) (f:DE):DE:=fun t=>(f t).bind fun r=>(lo t).bind fun l=>match r.d,l.d with
 |.lst ds,.int i=>if r.ok||flats ds then some (.nw (ds.drop (HT.sIx ds.length 0 (some i)))) else none
 |_,_=>none
theorem zaz2 {p2:Pos} (ha:PE X a (dE X.K F fa)) (hb:PE X b (dE X.K F fb)):PE X (.Subscript a (.Slice (some b) none none p2) pos) (dE X.K F (dSlF fb fa)):=by
 refine PE.imp (zav6 zbc9 ha (zbd8 hb) zbd9) ?_
 rintro σ H Q ⟨A,t,r,R,e,h⟩
 unfold dSlF at e
 cases e1:fa t with
 |none=>rw [e1]at e;cases e
 |some r1 =>
  cases e2:fb t with
  |none=>rw [e1,e2]at e;cases e
  |some r2 =>
   rw [e1,e2]at e
   refine⟨A,t,r1,R,e1,fun x H1 gs1 q1=>⟨A,t,r2,R.grow gs1,e2,fun y H2 gs2 q2=>?_⟩⟩
   have e:(match r1.d,r2.d with
    |.lst ds,.int i=>if r1.ok||flats ds then some (Ev.nw (ds.drop (HT.sIx ds.length 0 (some i)))) else none
    |_,_=>none)=some r:=e
   split at e
   case h_2=>cases e
   rename_i ds i z1 z2
   split at e
   case isFalse=>cases e
   rename_i c
   cases e
   have p2':=q2.full
   rw [z2]at p2'
   cases ze7 p2'
   have gs:=gs1.trans gs2
   obtain⟨p,vs,rfl,h1,h2⟩:=(q1.mono gs2).items R.mu gs z1 c
   refine⟨i,rfl,p,vs,rfl,h1,fun l hl=>h _ _ (gs.trans (zd2 hl)) ⟨l,_,rfl,Same.free gs hl,zc1,Reps.mono (zi6 hl) ?_⟩⟩
   have hle:=HT.sIx_le ds.length 0 (by lia) (some i)
   have e:cutV vs (some i) none=vs.drop (HT.sIx ds.length 0 (some i)):=by
    unfold cutV
    rw [h2.length,HT.sIx_none]
    apply zbt1
    rw [zcd7,h2.length]
    exact zbp4 _
   rw [e]
   exact h2.drop _
noncomputable def dSlU (hi:DE) (f:DE):DE:=fun t=>(f t).bind fun r=>(hi t).bind fun l=>match r.d,l.d with
 |.lst ds,.int i=>if r.ok||flats ds then some (.nw (ds.take (HT.sIx ds.length ds.length (some i)))) else none
 |_,_=>none
theorem zae1 {p2:Pos} (ha:PE X a (dE X.K F fa)) (hb:PE X b (dE X.K F fb)):PE X (.Subscript a (.Slice none (some b) none p2) pos) (dE X.K F (dSlU fb fa)):=by
 refine PE.imp (zav6 zbc9 ha zbd9 (zbd8 hb)) ?_
 rintro σ H Q ⟨A,t,r,R,e,h⟩
 unfold dSlU at e
 cases e1:fa t with
 |none=>rw [e1]at e;cases e
 |some r1 =>
  cases e2:fb t with
  |none=>rw [e1,e2]at e;cases e
  |some r2 =>
   rw [e1,e2]at e
   refine⟨A,t,r1,R,e1,fun x H1 gs1 q1=>⟨A,t,r2,R.grow gs1,e2,fun y H2 gs2 q2=>?_⟩⟩
   have e:(match r1.d,r2.d with
    |.lst ds,.int i=>if r1.ok||flats ds then some (Ev.nw (ds.take (HT.sIx ds.length ds.length (some i)))) else none
    |_,_=>none)=some r:=e
   split at e
   case h_2=>cases e
   rename_i ds i z1 z2
   split at e
   case isFalse=>cases e
   rename_i c
   cases e
   have p2':=q2.full
   rw [z2]at p2'
   cases ze7 p2'
   have gs:=gs1.trans gs2
   obtain⟨p,vs,rfl,h1,h2⟩:=(q1.mono gs2).items R.mu gs z1 c
   refine⟨i,rfl,p,vs,rfl,h1,fun l hl=>h _ _ (gs.trans (zd2 hl)) ⟨l,_,rfl,Same.free gs hl,zc1,Reps.mono (zi6 hl) ?_⟩⟩
   have e:cutV vs none (some i)=vs.take (HT.sIx ds.length ds.length (some i)):=by
    unfold cutV
    rw [h2.length,HT.sIx_none]
    simp
   rw [e]
   exact h2.take _
noncomputable def kSetI (t:Th) (i:Nat) (r k:Ev):Option Out:=match t[i]?,k.d with
 |some (.own xs),.int n=>if r.ok then (ixN xs.length n).map fun j=>.nx (t.set i (.own (xs.set j r.d))) else none
 |_,_=>none
noncomputable def zbj0 (i:Nat) (fk fv:DE):DS:=fun t=>(fv t).bind fun r=>(fk t).bind fun k=>kSetI t i r k
theorem psd_seti (i:Nat) {x:Str}{p0 tpos:Pos} (hb:PE X b (dE X.K F fb)) (he:PE X a (dE X.K F fa)) (hN:X.N[i]?=some x:=by rfl) (hv:Vis X.env.scope x:=by first | exact Or.inl rfl | exact Or.inr (Or.inl rfl) |exact Or.inr (Or.inr rfl)) (hd:(x ==("__debug__":Str))=false:=by decide)
  (hcd:(x ==("__classdict__":Str))=false:=by decide)
  (ha:∀v,assign (.Subscript (.Name x p0) b tpos) X.env v=(do
   let ov ← holding [v] (eval (.Name x p0) X.env)
   let iv ← holding [v,ov] (eval b X.env)
   standAt tpos
   holding [v,ov,iv] (setItem ov iv v)
   release [v,ov,iv] []):=by intro _;rfl)
  (hs:swapsWithSole [.Subscript (.Name x p0) b tpos] a pos.line X.env=pure false:=by rfl) (hw:swappedStores [.Subscript (.Name x p0) b tpos] a X.env=pure none:=by rfl)
  (h1:(assignEach [.Subscript (.Name x p0) b tpos] X.env).map (·.2)=[assign (.Subscript (.Name x p0) b tpos) X.env]:=by rfl) :
  PS X (.Assign [.Subscript (.Name x p0) b tpos] a pos) (dS X.K F (zbj0 i fb fa)):=by
 refine PS.imp (zav4 he (pg_sub (zq7 (i:=i) hN hv hd hcd) hb zau4 ha) hs hw h1) ?_
 rintro E σ H ⟨A,t,o,R,e,h⟩
 unfold zbj0 at e
 cases e1:fa t with
 |none=>rw [e1]at e;cases e
 |some r =>
  cases e2:fb t with
  |none=>rw [e1,e2]at e;cases e
  |some kk =>
   rw [e1,e2]at e
   have e:kSetI t i r kk=some o:=e
   unfold kSetI at e
   split at e
   case h_2=>cases e
   rename_i xs n z1 z2
   split at e
   case isFalse=>cases e
   rename_i ok
   cases e3:ixN xs.length n with
   |none=>rw [e3]at e;cases e
   |some j =>
    rw [e3]at e
    cases e
    obtain⟨p,vs,a1,a2,a3,a4⟩:=R.rel.getOwn z1
    refine⟨A,t,r,R,e1,fun y H1 gs1 q1=>⟨_,a1,A,t,kk,R.grow gs1,e2,fun w H2 gs2 q2=>?_⟩⟩
    have p2:=q2.full
    rw [z2]at p2
    cases ze7 p2
    have gs:=gs1.trans gs2
    refine⟨p,vs,n,j,rfl,rfl,gs _ _ a3,by rw [a4.length];exact e3,?_⟩
    obtain⟨R',g'⟩:=(R.grow gs).write (es:=xs.set j r.d) (ws:=vs.set j y) z1 a1 (Reps.set ((q1.mono gs2).clean R.mu gs ok) j (Reps.mono (zb6 gs) a4))
    exact h _ _ _ ((Gr.of_same R.mu.left gs).trans g') R'
end
end DL
namespace DL
open PySem.Spec L2
section
variable {X:Cx}{F:List Addr}{a b c:Expr}{es:List Expr}{fa fb fc:DE}{g:DS}{pos:Pos}{tg:Expr}{gt:TG}{kt:D→Th→Option Th}
noncomputable def dCh (k k':Ev→Ev→Option Ev) (fa fb fc:DE):DT:=fun t=>(fa t).bind fun r1=>(fb t).bind fun r2=>(k r1 r2).bind fun r=>match r.d with
 |.bl true=>(fc t).bind fun r3=>(k' r2 r3).bind fun r'=>match r'.d with
  |.bl z=>some z
  |_=>none
 |.bl false=>some false
 |_=>none
noncomputable def rK (X:Cx) (F:List Addr) (k:Ev→Ev→Option Ev) (A:List Addr) (H0:Hp):R2:=fun x y H Q=>Lists H0 (A++F)∧Same H0 H∧∃r1 r2 r,RepEv X.K F A H0 H r1 x∧RepEv X.K F A H0 H r2 y∧k r1 r2=some r∧∀z H',Same H H'→RepEv X.K F A H0 H' r z→Q z H'
theorem OpD.toR {f:Value→Value→Sem Value}{k:Ev→Ev→Option Ev} (h:OpD X F f k) (A:List Addr) (H0:Hp):OpR X f (rK X F k A H0) :=
 fun pins s σ H x y v u Q I rx ry ⟨m,gs,r1,r2,r,q1,q2,e,hq⟩=>h pins s σ H0 H A x y v u Q r1 r2 r I m gs rx ry q1 q2 e hq
end
end DL
namespace DL
open PySem.Spec L2
noncomputable def zl3:List D→Option (List Int)
 |[]=>some []
 |.int i::r=>(zl3 r).map fun ns=>i::ns
 |_::_=>none
theorem zn4:∀ {ds:List D}{ns:List Int},zl3 ds=some ns→ds=ns.map D.int
 |[],ns,e=>by cases e;rfl
 |.int i::r,ns,e=>by
  unfold zl3 at e
  cases e1:zl3 r with
  |none=>rw [e1]at e;cases e
  |some m=>rw [e1]at e;cases e;rw [zn4 e1];rfl
 |.non::r,ns,e=>by cases e
 |.bl _::r,ns,e=>by cases e
 |.str _::r,ns,e=>by cases e
 |.tup _::r,ns,e=>by cases e
 |.lst _::r,ns,e=>by cases e
theorem intsD_map (ns:List Int):zl3 (ns.map D.int)=some ns:=by
 induction ns with
 |nil=>rfl
 |cons n r ih=>simp [zl3,ih]
theorem zg8 {K:zbm7}{H:Hp}:∀ {ns:List Int}{vs:List V},Reps K H (ns.map D.int) vs→vs=ns.map V.int
 |[],_,.nil=>rfl
 |n::r,_,.cons h q=>by cases ze7 h;rw [zg8 q];rfl
section
variable {X:Cx}{F:List Addr}{a b c:Expr}{es:List Expr}{fa fb fc:DE}{pos:Pos}
theorem call_sum (hc:X.calm=true):zp0 X (.builtin "sum") (fun xs H Q => ∃(p:Addr) (ns:List Int),xs=[.ref p]∧SqL X.K H p (ns.map V.int)∧Q (.int ns.sum) H):=by
 intro pins s σ H xs us Q I r h
 obtain⟨p,ns,rfl,hs,q⟩:=h
 obtain⟨u,rfl,ru⟩:=zy3 r
 cases ru
 obtain⟨its,rv,pl,_⟩:=I.list hs
 have hi:IntsAre its ns:=zl8 rv
 obtain⟨ys,e⟩:=hi.allInts.items
 have hl:s.heap.IsList p (intItems ys):=by rw [← e];exact PlainL.isL pl
 refine sum_intListG (I.ok.hd hc) hl fun h' tk t' hk=>⟨.int _,H,I.kept (t':=tk) hk,⟨t',rfl⟩,?_⟩
 have en:=nums_intItems ys
 rw [preSum_eq,zbt1 (by simp)]
 have e2:numsOf (intItems ys).toList=ns:=by rw [← e];exact hi.numsOf
 rw [← nums_intItems,e2]
 exact q
noncomputable def kSum:List Ev→Option Ev:=fun rs=>match rs with
 |[r]=>(match r.d with
  |.lst ds=>(zl3 ds).map fun ns=>.cl (.int ns.sum)
  |_=>none)
 |_=>none
theorem zax7 (hc:X.calm=true):CallD X F (.builtin "sum") kSum:=CallD.of (call_sum hc) fun H0 H A xs rs e Q m g q ek hq=>by
 unfold kSum at ek
 split at ek
 ·rename_i r
  cases q with
  |cons q1 q2 =>
   cases q2
   split at ek
   ·rename_i ds z
    cases e1:zl3 ds with
    |none=>rw [e1]at ek;cases ek
    |some ns =>
     rw [e1]at ek
     cases ek
     have p:=q1.full
     rw [z,zn4 e1]at p
     cases p with
     |lst h1 h2 =>
      rw [zg8 h2]at h1
      exact⟨_,ns,rfl,h1,hq _ H (Same.refl H) (.int _)⟩
   ·cases ek
 ·cases ek
end
end DL
namespace DL
open PySem.Spec L2
theorem zah5 (i j:Int):eqD (.int i) (.int j)=decide (i=j):=by
 rw [zbt4,eqD_true];simp
theorem sm_iff {i:Int}:sm i=true↔i.natAbs<bnd:=by simp [sm]
theorem sm_lt {i:Int} (h:i.natAbs<2 ^ 256):sm i=true:=sm_iff.mpr (zbo7 h (by unfold bnd;exact zbw1 (by decide) (by decide)))
theorem sm_of {i:Int} (h1 : -10000000000000000000000000000000000000000000000000000000000000000000000000000<i) (h2:i<10000000000000000000000000000000000000000000000000000000000000000000000000000):sm i=true:=by
 apply sm_lt
 have:(2:Nat) ^ 256=115792089237316195423570985008687907853269984665640564039457584007913129639936:=by decide
 lia
theorem fmod_pos {a b:Int} (h:0<b):0≤a.fmod b∧a.fmod b<b:=by
 rw [zbx5 a (by lia)]
 exact⟨Int.emod_nonneg a (by lia),Int.emod_lt_of_pos a h⟩
theorem zah4 (d:D):eqD d d=true:=eqD_true.mpr rfl
theorem za7 {g1 g2:DS}{t t':Th} (h:g1 t=some (.nx t')):dSeq g1 g2 t=g2 t':=by simp [dSeq,h]
theorem seq_rt {g1 g2:DS}{t:Th}{r:Ev} (h:g1 t=some (.rt r)):dSeq g1 g2 t=some (.rt r):=by simp [dSeq,h]
theorem RepDs.length {K:zbm7}{H0 H:Hp}:∀ {ds:List D}{vs:List V}{B:List Addr},RepDs K H0 H ds vs B→vs.length=ds.length
 |_,_,_,.nil=>rfl
 |_,_,_,.cons _ r=>by simp [RepDs.length r]
theorem RepDs.focus {K:zbm7}{H0 H:Hp}:∀ {ds:List D}{vs:List V}{B:List Addr},RepDs K H0 H ds vs B→∀ {j:Nat}{d:D},ds[j]?=some d→∃v B1,vs[j]?=some v∧RepD K H0 H d v B1∧(∀b∈B1,b∈B)∧(B.Nodup→B1.Nodup) ∧
  ∀H0' H' d2 B2,Same H0 H0'→RepD K H0' H' d2 v B2→B2.Sublist B1→(∀q∈B,q∉B1→∀o,H q=some o→H' q=some o)→B.Nodup→∃B',RepDs K H0' H' (ds.set j d2) vs B'∧B'.Sublist B
 |_,_,_,.nil,j,d,e=>by simp at e
 |_,_,_,.cons (v:=v) (B:=B) (C:=C) h r,0,d,e=>by
  simp at e;subst e
  refine⟨v,B,rfl,h,fun b hb=>zbm8 _ hb,fun n=>(zbo5.mp n).1,fun H0' H' d2 B2 s q sb k nd=>⟨B2++C,.cons q (RepDs.mono s r fun p hp o w=>?_),List.Sublist.append sb (List.Sublist.refl _)⟩⟩
  exact k p (zbm6 _ hp) (fun z=>(zbo5.mp nd).2.2 p z p hp rfl) o w
 |_,_,_,.cons (v:=v) (B:=B) (C:=C) h r,j+1,d,e=>by
  obtain⟨v1,B1,a1,a2,a3,a5,a4⟩:=RepDs.focus r (j:=j) (d:=d) (by simpa using e)
  refine⟨v1,B1,by simpa using a1,a2,fun b hb=>zbm6 _ (a3 b hb),fun n=>a5 (zbo5.mp n).2.1,fun H0' H' d2 B2 s q sb k nd=>?_⟩
  have n:=zbo5.mp nd
  obtain⟨B',b1,b2⟩:=a4 H0' H' d2 B2 s q sb (fun q hq=>k q (zbm6 _ hq)) n.2.1
  refine⟨B++B',.cons (RepD.mono s h fun p hp o w=>k p (zbm8 _ hp) (fun z=>n.2.2 p hp p (a3 p z) rfl) o w) b1,List.Sublist.append (List.Sublist.refl _) b2⟩
noncomputable def getP:D→List Int→Option D
 |d,[]=>some d
 |.tup ds,n::ns=>(atI ds n).bind fun x=>getP x ns
 |.lst ds,n::ns=>(atI ds n).bind fun x=>getP x ns
 |_,_::_=>none
noncomputable def putP:D→List Int→D→Option D
 |_,[],e=>some e
 |.tup ds,n::ns,e=>(ixN ds.length n).bind fun j=>(ds[j]?).bind fun x=>(putP x ns e).map fun y=>.tup (ds.set j y)
 |.lst ds,n::ns,e=>(ixN ds.length n).bind fun j=>(ds[j]?).bind fun x=>(putP x ns e).map fun y=>.lst (ds.set j y)
 |_,_::_,_=>none
noncomputable def Reach (K:zbm7) (H:Hp):V→List Int→V→Prop
 |v,[],w=>v=w
 |v,n::ns,w => ∃p vs x,v=.ref p∧(SqL K H p vs∨SqT K H p vs)∧atI vs n=some x∧Reach K H x ns w
theorem zan2:∀ {ds:List D}{j:Nat}{d:D},flats ds=true→ds[j]?=some d→flat d=true
 |[],j,d,_,e=>by simp at e
 |x::xs,0,d,f,e=>by simp [flats]at f;simp at e;subst e;exact f.1
 |x::xs,j+1,d,f,e=>by simp [flats]at f;exact zan2 f.2 (by simpa using e)
theorem flat_at {ds:List D}{n:Int}{d:D} (f:flats ds=true) (e:atI ds n=some d):flat d=true:=by
 unfold L2.atI at e
 cases e1:ixN ds.length n with
 |none=>rw [e1]at e;cases e
 |some j=>rw [e1]at e;exact zan2 f e
theorem zan3:∀(ns:List Int) {d d1:D},flat d=true→getP d ns=some d1→flat d1=true
 |[],d,d1,f,e=>by cases e;exact f
 |n::ns,.tup ds,d1,f,e=>by
  simp only [getP]at e
  cases e1:atI ds n with
  |none=>rw [e1]at e;cases e
  |some x=>rw [e1]at e;exact zan3 ns (flat_at (by simpa [flat] using f) e1) e
 |n::ns,.lst ds,d1,f,e=>by simp [flat]at f
 |n::ns,.non,d1,f,e=>by cases e
 |n::ns,.bl _,d1,f,e=>by cases e
 |n::ns,.int _,d1,f,e=>by cases e
 |n::ns,.str _,d1,f,e=>by cases e
noncomputable def Fin (K:zbm7) (H0 H:Hp) (d:D) (v:V) (B:List Addr) (ns:List Int) (p:Addr) (B1:List Addr):Prop :=
 ∀H0' H' es ws B2 d2,Same H0 H0'→H' p=some (.lst ws)→RepDs K H0' H' es ws B2→B2.Sublist B1→putP d ns (.lst es)=some d2→(∀q∈B,q≠p→∀o,H q=some o→H' q=some o)→B.Nodup→∃B',RepD K H0' H' d2 v B'∧B'.Sublist B
theorem atI_of {α:Type}{xs:List α}{n:Int}{x:α} (e:atI xs n=some x):∃j,ixN xs.length n=some j∧xs[j]?=some x:=by
 unfold L2.atI at e
 cases e1:ixN xs.length n with
 |none=>rw [e1]at e;cases e
 |some j=>rw [e1]at e;exact⟨j,rfl,e⟩
theorem RepD.focus {K:zbm7}{H0 H:Hp} (hs:Same H0 H):∀(ns:List Int) {d:D}{v:V}{B:List Addr}{ds1:List D},RepD K H0 H d v B→B.Nodup→getP d ns=some (.lst ds1) →
  ∃p vs1 B1,Reach K H v ns (.ref p)∧H p=some (.lst vs1)∧RepDs K H0 H ds1 vs1 B1∧p∈B∧(∀b∈B1,b∈B)∧p∉B1∧Fin K H0 H d v B ns p B1
 |[],d,v,B,ds1,h,nd,e=>by
  cases e
  cases h with
  |flat f r=>simp [DL.flat]at f
  |@lst _ p vs C h r =>
   refine⟨p,vs,C,rfl,h,r,zbn1 ..,fun b hb=>zbm9 _ hb,(zbo9.mp nd).1,fun H0' H' es ws B2 d2 s e1 e2 sb e3 k nd=>?_⟩
   cases e3
   exact⟨p::B2,.lst e1 e2,sb.cons₂ _⟩
 |n::ns,d,v,B,ds1,h,nd,e=>by
  cases h with
  |flat f r=>exact absurd (zan3 (n::ns) f e) (by simp [DL.flat])
  |dct _ h r=>simp [getP]at e
  |pdc h=>simp [getP]at e
  |@tup ds p0 vs C h r =>
   simp only [getP]at e
   cases e1:atI ds n with
   |none=>rw [e1]at e;cases e
   |some x =>
    rw [e1]at e
    obtain⟨j,j1,j2⟩:=atI_of e1
    obtain⟨v1,B1,a1,a2,a3,a5,a4⟩:=r.focus j2
    obtain⟨p,vs1,B2,b1,b2,b3,b4,b5,b6,b7⟩:=RepD.focus hs ns a2 (a5 nd) e
    have ea:atI vs n=some v1:=by unfold L2.atI;rw [r.length,j1];exact a1
    refine⟨p,vs1,B2,⟨p0,vs,v1,rfl,.inr (SqT.mono hs h),ea,b1⟩,b2,b3,a3 p b4,fun b hb=>a3 b (b5 b hb),b6,fun H0' H' es ws B3 d2 s e1' e2 sb e3 k nd'=>?_⟩
    simp only [putP,j1,zbn0,j2]at e3
    cases e4:putP x ns (.lst es) with
    |none=>rw [e4]at e3;cases e3
    |some y =>
     rw [e4]at e3
     cases e3
     obtain⟨B',c1,c2⟩:=b7 H0' H' es ws B3 y s e1' e2 sb e4 (fun q hq=>k q (a3 q hq)) (a5 nd')
     obtain⟨B'',c3,c4⟩:=a4 H0' H' y B' s c1 c2 (fun q hq nq=>k q hq fun z=>nq (z ▸ b4)) nd'
     exact⟨B'',.tup (SqT.mono s h) c3,c4⟩
  |@lst ds p0 vs C h r =>
   simp only [getP]at e
   have n0:=zbo9.mp nd
   cases e1:atI ds n with
   |none=>rw [e1]at e;cases e
   |some x =>
    rw [e1]at e
    obtain⟨j,j1,j2⟩:=atI_of e1
    obtain⟨v1,B1,a1,a2,a3,a5,a4⟩:=r.focus j2
    obtain⟨p,vs1,B2,b1,b2,b3,b4,b5,b6,b7⟩:=RepD.focus hs ns a2 (a5 n0.2) e
    have ea:atI vs n=some v1:=by unfold L2.atI;rw [r.length,j1];exact a1
    refine⟨p,vs1,B2,⟨p0,vs,v1,rfl,.inl (SqL.of h),ea,b1⟩,b2,b3,zbm9 _ (a3 p b4),fun b hb=>zbm9 _ (a3 b (b5 b hb)),b6,fun H0' H' es ws B3 d2 s e1' e2 sb e3 k nd'=>?_⟩
    simp only [putP,j1,zbn0,j2]at e3
    cases e4:putP x ns (.lst es) with
    |none=>rw [e4]at e3;cases e3
    |some y =>
     rw [e4]at e3
     cases e3
     obtain⟨B',c1,c2⟩:=b7 H0' H' es ws B3 y s e1' e2 sb e4 (fun q hq=>k q (zbm9 _ (a3 q hq))) (a5 n0.2)
     obtain⟨B'',c3,c4⟩:=a4 H0' H' y B' s c1 c2 (fun q hq nq=>k q (zbm9 _ hq) fun z=>nq (z ▸ b4)) n0.2
     exact⟨p0::B'',.lst (k p0 (zbn1 ..) (fun z=>n0.1 (z ▸ a3 p b4)) _ h) c3,c4.cons₂ _⟩
theorem RSl.focusDp {K:zbm7}{H0 H:Hp}:∀ {t:Th}{σ:L2.St}{A:List Addr},RSl K H0 H t σ A→A.Nodup→∀ {i:Nat}{d:D},t[i]?=some (.dp d)→∃v B,σ[i]?=some (some v)∧(∀b∈B,b∈A)∧B.Nodup∧RepD K H0 H d v B ∧
  ∀H0' H' d2 B2,Same H0 H0'→RepD K H0' H' d2 v B2→B2.Sublist B→(∀q∈A,q∉B→∀o,H q=some o→H' q=some o)→∃A2,RSl K H0' H' (t.set i (.dp d2)) σ A2∧A2.Sublist A:=by
 intro _ _ _ h
 induction h with
 |nil =>
  intro n i d e
  simp at e
 |@no _ _ _ _ r ih =>
  intro n i d e
  cases i with
  |zero =>
   simp at e
  |succ i =>
   obtain⟨v,B,a,b,n',c,k⟩:=ih n (i:=i) (d:=d) (by simpa using e)
   refine⟨v,B,by simpa using a,b,n',c,fun H0' H' d2 B2 s q sb w=>?_⟩
   obtain⟨A2,x,y⟩:=k H0' H' d2 B2 s q sb w
   exact⟨A2,.no x,y⟩
 |@val _ v _ _ _ h r ih =>
  intro n i d e
  cases i with
  |zero =>
   simp at e
  |succ i =>
   obtain⟨v,B,a,b,n',c,k⟩:=ih n (i:=i) (d:=d) (by simpa using e)
   refine⟨v,B,by simpa using a,b,n',c,fun H0' H' d2 B2 s q sb w=>?_⟩
   obtain⟨A2,x,y⟩:=k H0' H' d2 B2 s q sb w
   exact⟨A2,.val (Rep.mono s h) x,y⟩
 |@own p _ _ _ _ _ h1 h2 r ih =>
  intro n i d e
  cases i with
  |zero =>
   simp at e
  |succ i =>
   have n0:=zbo9.mp n
   obtain⟨v,B,a,b,n',c,k⟩:=ih n0.2 (i:=i) (d:=d) (by simpa using e)
   refine⟨v,B,by simpa using a,fun x hx=>zbm9 _ (b x hx),n',c,fun H0' H' d2 B2 s q sb w=>?_⟩
   obtain⟨A2,x,y⟩:=k H0' H' d2 B2 s q sb (fun q hq=>w q (zbm9 _ hq))
   exact⟨p::A2,.own (w p (zbn1 ..) (fun z=>n0.1 (b p z)) _ h1) (Reps.mono s h2) x,y.cons₂ _⟩
 |@dp _ v C _ _ _ h r ih =>
  intro n i d e
  cases i with
  |zero =>
   simp at e;subst e
   have n0:=zbo5.mp n
   refine⟨v,C,rfl,fun x hx=>zbm8 _ hx,n0.1,h,fun H0' H' d2 B2 s q sb w=>?_⟩
   exact⟨_,.dp q (RSl.mono s r fun p hp=>w p (zbm6 _ hp) fun z=>n0.2.2 p z p hp rfl),List.Sublist.append sb (List.Sublist.refl _)⟩
  |succ i =>
   have n0:=zbo5.mp n
   obtain⟨v,B,a,b,n',c,k⟩:=ih n0.2.1 (i:=i) (d:=d) (by simpa using e)
   refine⟨v,B,by simpa using a,fun x hx=>zbm6 _ (b x hx),n',c,fun H0' H' d2 B2 s q sb w=>?_⟩
   obtain⟨A2,x,y⟩:=k H0' H' d2 B2 s q sb (fun q hq=>w q (zbm6 _ hq))
   exact⟨C++A2,.dp (RepD.mono s h fun p hp=>w p (zbm8 _ hp) fun z=>n0.2.2 p hp p (b p z) rfl) x,List.Sublist.append (List.Sublist.refl _) y⟩
theorem RS.place {K:zbm7}{F A:List Addr}{H:Hp}{t:Th}{σ:L2.St}{i:Nat}{d:D}{ns:List Int}{ds1:List D} (R:RS K F H A t σ) (e:t[i]?=some (.dp d)) (e1:getP d ns=some (.lst ds1)) :
  ∃v p vs1 B1,σ[i]?=some (some v)∧Reach K H v ns (.ref p)∧H p=some (.lst vs1)∧RepDs K (hide (A++F) H) H ds1 vs1 B1∧p∉B1∧p∈A ∧
   ∀H1 es ws B2 d2,Same H H1→(∀H',(∀q,q≠p→H' q=H1 q)→Same (hide (A++F) H) (hide (A++F) H')→RepDs K (hide (A++F) H') H' es ws B2)→B2.Sublist B1→putP d ns (.lst es)=some d2 →
    ∃A2,RS K F (L2.upd H1 p (.lst ws)) A2 (t.set i (.dp d2)) σ∧Gr A H A2 (L2.upd H1 p (.lst ws)):=by
 obtain⟨v,B,a1,a2,a3,a4,a5⟩:=R.rel.focusDp R.nd e
 obtain⟨p,vs1,B1,b1,b2,b3,b4,b5,b6,b7⟩:=a4.focus (zc2 _ _) ns a3 e1
 refine⟨v,p,vs1,B1,a1,b1,b2,b3,b6,a2 p b4,fun H1 es ws B2 d2 gs mk sb ep=>?_⟩
 have pA:p∈A:=a2 p b4
 have hh:Same (hide (A++F) H) (hide (A++F) (L2.upd H1 p (.lst ws))):=fun b o q=>by
  obtain⟨n,q⟩:=zk4 q
  have nb:b≠p:=fun z=>n (zbm8 _ (z ▸ pA))
  exact zd1 (by rw [zc8 nb];exact gs _ _ q) n
 have kp:∀q∈A,q≠p→∀o,H q=some o→L2.upd H1 p (.lst ws) q=some o:=fun q _ n o h=>by rw [zc8 n];exact gs _ _ h
 obtain⟨B',c1,c2⟩:=b7 (hide (A++F) (L2.upd H1 p (.lst ws))) (L2.upd H1 p (.lst ws)) es ws B2 d2 hh zc1 (mk _ (fun q n=>zc8 n) hh) sb ep (fun q hq=>kp q (a2 q hq)) a3
 obtain⟨A2,d1,d3⟩:=a5 _ _ d2 B' hh c1 c2 (fun q hq nq=>kp q hq fun z=>nq (z ▸ b4))
 have sub:∀x∈A2,x∈A:=fun x hx=>d3.subset hx
 have mu:Lists (L2.upd H1 p (.lst ws)) (A++F):=fun q hq=>by
  by_cases z:q=p
  ·exact⟨mL ws,by rw [z];exact zc1⟩
  ·obtain⟨us,w⟩:=R.mu q hq
   exact⟨us,by rw [zc8 z];exact gs _ _ w⟩
 refine⟨A2,⟨fun q hq=>mu q ?_,R.nd.sublist d3,fun q hq=>R.dj q (sub q hq),RSl.mono (zb5 _ fun a z=>?_) d1 fun _ _ _ h=>h⟩,fun b o n h=>?_,fun b hb=>?_,fun b hb=>.inl (sub b hb)⟩
 ·exact (zbn2.mp hq).elim (fun z=>zbm8 _ (sub q z)) (fun z=>zbm6 _ z)
 ·exact (zbn2.mp z).elim (fun z=>zbm8 _ (sub a z)) (fun z=>zbm6 _ z)
 ·rw [zc8 (fun z=>n (by rw [z];exact pA))];exact gs _ _ h
 ·obtain⟨us,w⟩:=mu b (zbm8 _ hb)
  rw [w];simp
noncomputable def pthD:List DE→Th→Option (List Int)
 |[],_=>some []
 |f::fs,t=>(f t).bind fun r=>match r.d with
  |.int n=>(pthD fs t).map (n::·)
  |_=>none
theorem zak4 {f:DE}{t:Th}:∀ {fs:List DE}{ns':List Int},pthD (fs++[f]) t=some ns'→∃ns n r,pthD fs t=some ns∧f t=some r∧r.d=.int n∧ns'=ns++[n]
 |[],ns',e=>by
  simp only [zca7,pthD]at e
  cases e1:f t with
  |none=>rw [e1]at e;cases e
  |some r =>
   rw [e1]at e
   simp only [zbn0]at e
   split at e
   ·rename_i n z;cases e;exact⟨[],n,r,rfl,rfl,z,rfl⟩
   ·cases e
 |g::fs,ns',e=>by
  simp only [List.cons_append,pthD]at e
  cases e1:g t with
  |none=>rw [e1]at e;cases e
  |some r =>
   rw [e1]at e
   simp only [zbn0]at e
   split at e
   ·rename_i n z
    cases e2:pthD (fs++[f]) t with
    |none=>rw [e2]at e;cases e
    |some ms =>
     rw [e2]at e
     cases e
     obtain⟨ns,m,r',a1,a2,a3,a4⟩:=zak4 e2
     refine⟨n::ns,m,r',?_,a2,a3,by rw [a4];rfl⟩
     simp only [pthD,e1,zbn0,z,a1];rfl
   ·cases e
theorem Reach.snoc {K:zbm7}{H:Hp}{n:Int}{w:V}:∀ {ns:List Int}{v:V},Reach K H v (ns++[n]) w→∃p vs,Reach K H v ns (.ref p)∧(SqL K H p vs∨SqT K H p vs)∧atI vs n=some w
 |[],v,h=>by
  obtain⟨p,vs,x,rfl,h1,h2,h3⟩:=h
  cases h3
  exact⟨p,vs,rfl,h1,h2⟩
 |m::ns,v,h=>by
  obtain⟨p,vs,x,rfl,h1,h2,h3⟩:=h
  obtain⟨p',vs',a1,a2,a3⟩:=Reach.snoc h3
  exact⟨p',vs',⟨p,vs,x,rfl,h1,h2,a1⟩,a2,a3⟩
noncomputable def plE (K:zbm7) (F:List Addr) (i:Nat) (fs:List DE):TE:=fun σ H Q => ∃A t v ns w,RS K F H A t σ∧pthD fs t=some ns∧σ[i]?=some (some v)∧Reach K H v ns w∧∀H',Same H H'→Q w H'
section
variable {X:Cx}{F:List Addr}{a b c o:Expr}{es:List Expr}{fa fb fc:DE}{fs:List DE}{g g1 g2:DS}{ft fu:DT}{pos:Pos}{st:Stmt}{rest:List Stmt}{tg:Expr}{gt:TG}{kt:D→Th→Option Th}
theorem zr3 (i:Nat) {x:Str} (hN:X.N[i]?=some x:=by rfl) (hv:Vis X.env.scope x:=by first | exact Or.inl rfl | exact Or.inr (Or.inl rfl) |exact Or.inr (Or.inr rfl)) (hd:(x ==("__debug__":Str))=false:=by decide)
  (hcd:(x ==("__classdict__":Str))=false:=by decide):PE X (.Name x pos) (plE X.K F i []):=by
 refine PE.imp (zq7 (i:=i) hN hv hd hcd) ?_
 rintro σ H Q ⟨A,t,v,ns,w,R,e,h1,h2,h⟩
 cases e
 cases h2
 exact⟨v,h1,h H (Same.refl H)⟩
theorem zaa8 {i:Nat} (ha:PE X a (plE X.K F i fs)) (hb:PE X b (dE X.K F fb)) (hs:zat6 b:=by intro _ _;rfl):PE X (.Subscript a b pos) (plE X.K F i (fs++[fb])):=by
 refine PE.imp (pe_ix (ix_list.or ix_tup) ha hb hs) ?_
 rintro σ H Q ⟨A,t,v,ns,w,R,e,h1,h2,h⟩
 obtain⟨ms,n,r,a1,a2,a3,rfl⟩:=zak4 e
 obtain⟨p,vs,b1,b2,b3⟩:=h2.snoc
 refine⟨A,t,v,ms,.ref p,R,a1,h1,b1,fun H1 gs=>⟨A,t,r,R.grow gs,a2,fun y H2 gs2 q=>?_⟩⟩
 have p2:=q.full
 rw [a3]at p2
 cases ze7 p2
 rcases b2 with b2 | b2
 ·exact .inl ⟨p,vs,n,w,rfl,rfl,SqL.mono (gs.trans gs2) b2,b3,h H2 (gs.trans gs2)⟩
 ·exact .inr ⟨p,vs,n,w,rfl,rfl,SqT.mono (gs.trans gs2) b2,b3,h H2 (gs.trans gs2)⟩
noncomputable def zar9 (t:Th) (i:Nat) (ns:List Int) (r:Ev):Option Out:=match t[i]? with
 |some (.dp d)=>match getP d ns with
  |some (.lst ds)=>if flat r.d&&decide (ds.length<100000) then (putP d ns (.lst (ds++[r.d]))).map fun d2=>.nx (t.set i (.dp d2)) else none
  |_=>none
 |_=>none
noncomputable def zx5 (i:Nat) (fs:List DE) (f:DE):DS:=fun t=>(pthD fs t).bind fun ns=>(f t).bind (zar9 t i ns)
theorem RepDs.app1 {K:zbm7}{H0 H:Hp}{d:D}{v:V} (q:RepD K H0 H d v []):∀ {ds:List D}{vs:List V}{B:List Addr},RepDs K H0 H ds vs B→RepDs K H0 H (ds++[d]) (vs++[v]) B
 |_,_,_,.nil=>.cons (B:=[]) (C:=[]) q .nil
 |_,_,_,.cons h r=>.cons h (RepDs.app1 q r)
theorem Rep.off {K:zbm7}{H1 H':Hp}{P:List Addr}{p:Addr}{d:D}{v:V}{vs:List V} (m:Lists H1 P) (hp:H1 p=some (.lst vs)) (k:∀q,q≠p→H' q=H1 q) (f:flat d=true) (r:Rep K H1 d v):Rep K (hide P H') d v:=by
 have:=Rep.hid (P:=p::P) (fun b hb=>by
  rcases zbn5.mp hb with rfl | hb
  ·exact⟨mL vs,hp⟩
  ·exact m b hb) f r
 refine Rep.mono (fun b o h=>?_) this
 obtain⟨n,h⟩:=zk4 h
 exact zd1 (by rw [k b fun z=>n (z ▸ zbn1 ..)];exact h) fun z=>n (zbm9 _ z)
theorem zs7 (i:Nat) {apos cpos:Pos} (ho:PE X o (plE X.K F i fs)) (he:PE X a (dE X.K F fa)) (hst:zbo8 [a] X.env=[(false,eval a X.env)]:=by rfl)
  (hbase:attributeBase o "append" X.env (eval o X.env)=eval o X.env:=by rfl)
  (hfew:((zbu1 cpos (zbo8 [a] X.env)).all (fun x=>!x.1)&&(backToKw cpos (keywordEach [] X.env)).all (fun x=>x.1.isSome)
   && decide ([a].length+([]:List Keyword).length+(if ([]:List Keyword).isEmpty then 0 else 1)<30))=true:=by rfl)
  (hline:(apos.endLine == cpos.line)=true:=by rfl) (hplain:(zbu1 cpos (zbo8 [] X.env)).any (·.1)=false:=by rfl)
  (hsw:swapsWith (.Call (.Attribute o "append" apos) [a] [] cpos) none pos.line X.env=pure false:=by rfl) :
  PS X (.Expr (.Call (.Attribute o "append" apos) [a] [] cpos) pos) (dS X.K F (zx5 i fs fa)):=by
 refine PS.imp (zaa7 (zaz5 zbr3 zbw5 zbw6 zo7 ho (zh0 he zm1 hst) hbase hfew hline hst hplain) hsw) ?_
 rintro E σ H ⟨A,t,o,R,e,h⟩
 unfold zx5 at e
 cases e0:pthD fs t with
 |none=>rw [e0]at e;cases e
 |some ns =>
 cases e1:fa t with
 |none=>rw [e0,e1]at e;cases e
 |some r =>
  rw [e0,e1]at e
  have e:zar9 t i ns r=some o:=e
  unfold zar9 at e
  split at e
  case h_2=>cases e
  rename_i d z
  split at e
  case h_2=>cases e
  rename_i ds z1
  split at e
  case isFalse=>cases e
  rename_i ok
  simp only [zbo2,decide_eq_true_eq]at ok
  cases e3:putP d ns (.lst (ds++[r.d])) with
  |none=>rw [e3]at e;cases e
  |some d2 =>
   rw [e3]at e
   cases e
   obtain⟨v,p,vs1,B1,a1,a2,a3,a4,a5,a6,a7⟩:=R.place z z1
   refine⟨A,t,v,ns,.ref p,R,e0,a1,a2,fun H1 gs=>⟨.inl ⟨rfl,vs1,SqL.of (gs _ _ a3)⟩,A,t,r,R.grow gs,e1,fun y H2 gs2 q=>⟨p,vs1,y,rfl,rfl,gs2 _ _ (gs _ _ a3),?_,?_⟩⟩⟩
   ·have:vs1.length<100000:=by rw [a4.length];exact ok.2
    exact zbo7 this (by rw [sizeLine_eq];decide)
   ·have g2:=gs.trans gs2
    obtain⟨A2,R2,gr⟩:=a7 H2 (ds++[r.d]) (vs1++[y]) B1 d2 g2 (fun H' k hh=>by
     refine RepDs.app1 (.flat ok.1 (Rep.off (R.mu.mono g2) (g2 _ _ a3) k ok.1 q.full)) (RepDs.mono hh a4 fun b hb o w=>?_)
     rw [k b fun z=>a5 (z ▸ hb)]
     exact g2 _ _ w) (List.Sublist.refl _) e3
    exact h _ _ _ gr R2
end
end DL
namespace DL
open PySem.Spec L2
noncomputable def toDn:Ev→Option D
 |.cl d=>if flat d then some d else none
 |.tm d=>if flat d then some d else none
 |.nw xs=>if flats xs then some (.lst xs) else none
 |.dn d=>some d
theorem RepEv.toDn {K:zbm7}{F A:List Addr}{H H':Hp}{r:Ev}{v:V}{d:D} (m:Lists H (A++F)) (g:Same H H') (h:RepEv K F A H H' r v) (e:toDn r=some d):RepEv K F A H H' (.dn d) v:=by
 cases r with
 |cl d0 =>
  simp only [DL.toDn]at e
  split at e
  ·rename_i f;cases e
   exact⟨[],zbr7,fun b hb=>(by cases hb),.flat f h⟩
  ·cases e
 |tm d0 =>
  simp only [DL.toDn]at e
  split at e
  ·rename_i f;cases e
   exact⟨[],zbr7,fun b hb=>(by cases hb),.flat f (Rep.hid (m.mono g) f (Rep.mono (zc2 _ _) h))⟩
  ·cases e
 |nw xs =>
  simp only [DL.toDn]at e
  split at e
  ·rename_i f;cases e
   obtain⟨p,vs,rfl,h1,h2,h3⟩:=h
   exact⟨[p],by simp,fun b hb=>by simp at hb;subst hb;exact h1,.lst h2 (RepDs.of_flat f h3)⟩
  ·cases e
 |dn d0=>cases e;exact h
noncomputable abbrev DN:=Th→Option (D×List Nat)
noncomputable abbrev DNs:=Th→Option (List D×List Nat)
noncomputable def FromN (H:Hp) (t:Th) (σ:L2.St) (I:List Nat) (b:Addr):Prop:=H b=none∨∃i∈I,∃xs,t[i]?=some (.own xs)∧σ[i]?=some (some (.ref b))
noncomputable def dN (K:zbm7) (F:List Addr) (f:DN):TE:=fun σ H Q => ∃A t d I,RS K F H A t σ∧f t=some (d,I)∧∀v H' B,Same H H'→B.Nodup→(∀b∈B,FromN H t σ I b)→RepD K (hide (B++(A++F)) H') H' d v B→Q v H'
noncomputable def dNs (K:zbm7) (F:List Addr) (f:DNs):TA:=fun σ H Q => ∃A t ds I,RS K F H A t σ∧f t=some (ds,I)∧∀vs H' B,Same H H'→B.Nodup→(∀b∈B,FromN H t σ I b)→RepDs K (hide (B++(A++F)) H') H' ds vs B→Q vs H'
theorem RSl.ownUniq {K:zbm7}{H0 H:Hp}{b:Addr}:∀ {t:Th}{σ:L2.St}{A:List Addr},RSl K H0 H t σ A→A.Nodup→∀ {i j:Nat}{xs ys:List D},t[i]?=some (.own xs)→t[j]?=some (.own ys)→σ[i]?=some (some (.ref b))→σ[j]?=some (some (.ref b))→i=j:=by
 intro _ _ _ h
 induction h with
 |nil =>
  intro w0 i j xs ys e1 e2 s1 s2
  simp at e1
 |@no _ _ _ _ r ih =>
  intro n i j xs ys e1 e2 s1 s2
  cases i with
  |zero =>
   simp at e1
  |succ i =>
   cases j with
   |zero =>
    simp at e2
   |succ j =>
    exact congrArg (· + 1) (ih n (i:=i) (j:=j) (xs:=xs) (ys:=ys) (by simpa using e1) (by simpa using e2) (by simpa using s1) (by simpa using s2))
 |@val _ _ _ _ _ _ r ih =>
  intro n i j xs ys e1 e2 s1 s2
  cases i with
  |zero =>
   simp at e1
  |succ i =>
   cases j with
   |zero =>
    simp at e2
   |succ j =>
    exact congrArg (· + 1) (ih n (i:=i) (j:=j) (xs:=xs) (ys:=ys) (by simpa using e1) (by simpa using e2) (by simpa using s1) (by simpa using s2))
 |@own _ _ _ _ _ _ _ _ r ih =>
  intro n i j xs ys e1 e2 s1 s2
  cases i with
  |zero =>
   cases j with
   |zero =>
    exact rfl
   |succ j =>
    obtain⟨p,vs,a1,a2,_⟩:=r.getOwn (i:=j) (ds:=ys) (by simpa using e2)
    simp at s1 s2
    rw [a1]at s2
    simp at s2
    subst s1;subst s2
    exact absurd a2 (zbo9.mp n).1
  |succ i =>
   cases j with
   |zero =>
    obtain⟨p,vs,a1,a2,_⟩:=r.getOwn (i:=i) (ds:=xs) (by simpa using e1)
    simp at s1 s2
    rw [a1]at s1
    simp at s1
    subst s1;subst s2
    exact absurd a2 (zbo9.mp n).1
   |succ j =>
    exact congrArg (· + 1) (ih (zbo9.mp n).2 (i:=i) (j:=j) (xs:=xs) (ys:=ys) (by simpa using e1) (by simpa using e2) (by simpa using s1) (by simpa using s2))
 |@dp _ _ _ _ _ _ _ r ih =>
  intro n i j xs ys e1 e2 s1 s2
  cases i with
  |zero =>
   simp at e1
  |succ i =>
   cases j with
   |zero =>
    simp at e2
   |succ j =>
    exact congrArg (· + 1) (ih (zbo5.mp n).2.1 (i:=i) (j:=j) (xs:=xs) (ys:=ys) (by simpa using e1) (by simpa using e2) (by simpa using s1) (by simpa using s2))
section
variable {X:Cx}{F:List Addr}{a b c o:Expr}{es:List Expr}{fa fb fc:DE}{fs:List DE}{fn:DN}{fns:DNs}{pos:Pos}
noncomputable def nOf (f:DE):DN:=fun t=>(f t).bind fun r=>(toDn r).map fun d=>(d,[])
theorem pn_of (he:PE X a (dE X.K F fa)):PE X a (dN X.K F (nOf fa)):=by
 refine PE.imp he ?_
 rintro σ H Q ⟨A,t,d,I,R,e,h⟩
 unfold nOf at e
 cases e1:fa t with
 |none=>rw [e1]at e;cases e
 |some r =>
  rw [e1]at e
  simp only [zbn0]at e
  cases e2:toDn r with
  |none=>rw [e2]at e;cases e
  |some d0 =>
   rw [e2]at e
   cases e
   refine⟨A,t,r,R,e1,fun v H' gs q=>?_⟩
   obtain⟨B,b1,b2,b3⟩:=q.toDn R.mu gs e2
   exact h v H' B gs b1 (fun b hb=>.inl (b2 b hb)) b3
noncomputable def nNil:DNs:=fun _=>some ([],[])
noncomputable def zam0 (f:DN) (g:DNs):DNs:=fun t=>(f t).bind fun q=>(g t).bind fun w=>if q.2.all (fun i=>!w.2.contains i) then some (q.1::w.1,q.2++w.2) else none
theorem pns_nil:PA X [] (dNs X.K F nNil):=PA.imp zm1 fun σ H Q ⟨A,t,rs,I,R,e,h⟩=>by cases e;exact h [] H [] (Same.refl H) zbr7 (fun b hb=>by cases hb) .nil
theorem zag3 (ha:PE X a (dN X.K F fn)) (hr:PA X es (dNs X.K F fns)) (hs:zbo8 (a::es) X.env=(false,eval a X.env)::zbo8 es X.env:=by rfl):PA X (a::es) (dNs X.K F (zam0 fn fns)):=by
 refine PA.imp (zh0 ha hr hs) ?_
 rintro σ H Q ⟨A,t,ds,I,R,e,h⟩
 unfold zam0 at e
 cases e1:fn t with
 |none=>rw [e1]at e;cases e
 |some q1 =>
  cases e2:fns t with
  |none=>rw [e1,e2]at e;cases e
  |some q2 =>
   obtain⟨d1,I1⟩:=q1
   obtain⟨ds2,I2⟩:=q2
   rw [e1,e2]at e
   simp only [zbn0]at e
   split at e
   case isFalse=>cases e
   rename_i dj
   cases e
   have dj:∀i∈I1,i∉I2:=fun i hi=>by
    have:=zbt9.mp dj i hi
    simpa using this
   refine⟨A,t,d1,I1,R,e1,fun v H1 B1 g1 n1 f1 r1=>⟨A,t,ds2,I2,R.grow g1,e2,fun vs H2 B2 g2 n2 f2 r2=>?_⟩⟩
   have g:=g1.trans g2
   have l1:=r1.lists
   have l1':Lists H2 B1:=l1.mono g2
   have l2:=r2.lists
   have lA:=R.mu.mono g
   refine h _ H2 (B1++B2) g (zbo5.mpr ⟨n1,n2,fun x hx y hy e=>?_⟩) (fun b hb=>?_) (.cons (RepD.hid ((l1'.app l2).app lA) (zc2 _ _) (RepD.mono (zb6 g2) r1 fun _ _ _ w=>g2 _ _ w)) (RepDs.hid ((l1'.app l2).app lA) (zc2 _ _) r2))
   ·subst e
    obtain⟨ws,hw⟩:=l1 x hx
    rcases f2 x hy with z | ⟨j,hj,ys,j1,j2⟩
    ·rw [z]at hw;cases hw
    ·rcases f1 x hx with z | ⟨i,hi,xs,i1,i2⟩
     ·obtain⟨p,us,a1,_,a3,_⟩:=R.rel.getOwn j1
      rw [a1]at j2
      simp at j2
      subst j2
      rw [z]at a3;cases a3
     ·have:=R.rel.ownUniq R.nd i1 j1 i2 j2
      subst this
      exact dj i hi hj
   ·rcases zbn2.mp hb with z | z
    ·rcases f1 b z with w | ⟨i,hi,w⟩
     ·exact .inl w
     ·exact .inr ⟨i,zbm8 _ hi,w⟩
    ·rcases f2 b z with w | ⟨i,hi,w⟩
     ·exact .inl (Same.free g1 w)
     ·exact .inr ⟨i,zbm6 _ hi,w⟩
end
end DL
namespace DL
open PySem.Spec L2
theorem RepDs.appD {K:zbm7}{H0 H:Hp}{d:D}{v:V}{C:List Addr} (q:RepD K H0 H d v C):∀ {ds:List D}{vs:List V}{B:List Addr},RepDs K H0 H ds vs B→RepDs K H0 H (ds++[d]) (vs++[v]) (B++C)
 |_,_,_,.nil=>by
  have:=RepDs.cons q .nil
  simpa using this
 |_,_,_,.cons h r=>by
  have:=RepDs.cons h (RepDs.appD q r)
  simpa [zbv9] using this
noncomputable def zi0 (k:D→Th→Option Th) (ft:DT) (fe:DE):List D→Th→Option (List D)
 |[],_=>some []
 |d::ds,t=>(k d t).bind fun t1=>(ft t1).bind fun b=>if b then (fe t1).bind fun r=>(toDn r).bind fun d=>(zi0 k ft fe ds t1).map fun xs=>d::xs else zi0 k ft fe ds t1
noncomputable def zg1 (n:Nat) (cap:List Nat) (fs:DI) (k:D→Th→Option Th) (ft:DT) (fe:DE):DE:=fun t=>(fs t).bind fun q=>(capD t cap).bind fun c=>if q.2.length≤50000 then (zi0 k ft fe q.2 (zbn4 n Sl.no++c.2.map Sl.val)).map fun xs=>.dn (.lst xs) else none
theorem zac8 {k:D→Th→Option Th}{ft:DT}{fe:DE}:∀ {ds:List D}{t:Th}{xs:List D},zi0 k ft fe ds t=some xs→xs.length≤ds.length
 |[],t,xs,e=>by cases e;simp
 |d::ds,t,xs,e=>by
  unfold zi0 at e
  cases e1:k d t with
  |none=>rw [e1]at e;cases e
  |some t1 =>
   rw [e1]at e
   have e:((ft t1).bind fun b=>if b then (fe t1).bind fun r=>(toDn r).bind fun d=>(zi0 k ft fe ds t1).map fun xs=>d::xs else zi0 k ft fe ds t1)=some xs:=e
   cases e2:ft t1 with
   |none=>rw [e2]at e;cases e
   |some b =>
    rw [e2]at e
    cases b with
    |false=>have:=zac8 (ds:=ds) (t:=t1) e;simp;lia
    |true =>
     have e:((fe t1).bind fun r=>(toDn r).bind fun d=>(zi0 k ft fe ds t1).map fun xs=>d::xs)=some xs:=e
     cases e3:fe t1 with
     |none=>rw [e3]at e;cases e
     |some r =>
      rw [e3]at e
      have e:((toDn r).bind fun d=>(zi0 k ft fe ds t1).map fun xs=>d::xs)=some xs:=e
      cases e5:toDn r with
      |none=>rw [e5]at e;cases e
      |some d0 =>
       rw [e5]at e
       have e:((zi0 k ft fe ds t1).map fun xs=>d0::xs)=some xs:=e
       cases e4:zi0 k ft fe ds t1 with
       |none=>rw [e4]at e;cases e
       |some ys=>rw [e4]at e;cases e;have:=zac8 e4;simp;lia
theorem zaj0 {X:Cx}{F:List Addr}{n:Nat}{cap:List Nat}{fs:DI}{g:TG}{kt:D→Th→Option Th}{ft:DT}{fe:DE} (hk:∀F',TgOk X.K F' g kt) {σ:L2.St}{H:Hp}{Q:VK} (h:dE X.K F (zg1 n cap fs kt ft fe) σ H Q) :
  zap2 n cap (dI X.K F fs) g (fun σ H Q => ∃F',dT X.K F' ft σ H Q) (fun σ H Q => ∃F',dE X.K F' fe σ H Q) σ H Q:=by
 obtain⟨A,t,r,R,e,h⟩:=h
 unfold zg1 at e
 cases e1:fs t with
 |none=>rw [e1]at e;cases e
 |some q =>
  obtain⟨b,ds⟩:=q
  cases e2:capD t cap with
  |none=>rw [e1,e2]at e;cases e
  |some q2 =>
   obtain⟨c,caps⟩:=q2
   rw [e1,e2]at e
   have e:(if ds.length≤50000 then (zi0 kt ft fe ds (zbn4 n Sl.no++caps.map Sl.val)).map fun xs=>Ev.dn (.lst xs) else none)=some r:=e
   split at e
   case isFalse=>cases e
   rename_i hlen
   cases e3:zi0 kt ft fe ds (zbn4 n Sl.no++caps.map Sl.val) with
   |none=>rw [e3]at e;cases e
   |some xs =>
    rw [e3]at e
    cases e
    have xl:=zac8 e3
    obtain⟨cvs,cv1,cv2⟩:=zz7 R e2
    -- what is hidden from the block,but its own list
    obtain⟨F',F'def⟩:∃F',F'=hidF (b&&c) A F:=⟨_,rfl⟩
    have subF:∀x∈F',x∈A++F:=fun x hx=>by
     rw [F'def]at hx
     unfold hidF at hx
     split at hx
     ·exact hx
     ·exact zbm6 _ hx
    have lessB:∀H:Hp,Same (hide (hidF b A F) H) (hide F' H):=fun H=>zb5 H fun x hx=>by
     rw [F'def]at hx
     cases b<;>cases c<;>simp [hidF]at hx ⊢<;>first | exact hx | exact .inr hx | (rcases hx with z | z<;>simp [z])
    have lessC:∀H:Hp,Same (hide (hidF c A F) H) (hide F' H):=fun H=>zb5 H fun x hx=>by
     rw [F'def]at hx
     cases b<;>cases c<;>simp [hidF]at hx ⊢<;>first | exact hx | exact .inr hx | (rcases hx with z | z<;>simp [z])
    have wi:zap2 n cap (dI X.K F fs) g (fun σ H Q => ∃F',dT X.K F' ft σ H Q) (fun σ H Q => ∃F',dE X.K F' fe σ H Q) σ H Q:=by
     refine⟨A,t,b,ds,R,e1,fun J H1 Good gs src gd Dd hD=>?_⟩
     have H1A:Lists H1 (A++F):=R.mu.mono gs
     have st0:Same (hide F' H1) (hide (Dd::F') (upd H1 Dd (.lst []))):=zi6 hD
     refine⟨fun i m σ' H'=>i+m=ds.length∧∃th acc rest vs B,RS X.K (Dd::F') H' [] th σ'∧zi0 kt ft fe (ds.drop i) th=some rest∧acc++rest=xs∧H' Dd=some (.lst vs)∧(RepDs X.K (hide (Dd::F') H') H' acc vs B∧B.Nodup∧Dd∉B∧∀b∈B,H1 b=none)∧Same H1 H'∧Good (Dd::F') H',
      ⟨ds.length,by lia,_,[],xs,[],[],⟨?_,zbr7,fun p hp=>(by cases hp),?_⟩,by simpa using e3,rfl,zc1,⟨.nil,zbr7,by simp,by simp⟩,zd2 hD,src.keep _ _ _ _ gd (fun b o z=>st0 _ _ (lessB _ _ _ z))⟩,?_⟩
     ·intro q hq
      have hq:q∈Dd::F':=hq
      rcases zbn5.mp hq with z | z
      ·exact⟨mL [],by rw [z];exact zc1⟩
      ·obtain⟨us,w⟩:=H1A q (subF q z)
       exact⟨us,(zd2 hD) _ _ w⟩
     ·unfold capV
      rw [cv1]
      exact RSl.noVals (Reps.mono (fun b o z=>st0 _ _ (lessC H1 _ _ (zb6 gs _ _ z))) cv2) n
     ·rintro i m σ' H' ⟨hm,th,acc,rest,vs,B,RR,ec,ex,hv,⟨hr,hnd,hDB,hfr⟩,sm,gg⟩
      cases m with
      |zero =>
       have z:i=ds.length:=by lia
       subst z
       rw [zbw4]at ec
       cases ec
       rw [zbr4]at ex
       subst ex
       refine .inl ⟨src.stop _ _ gg,h _ H' (gs.trans sm) ⟨Dd::B,zbo9.mpr ⟨hDB,hnd⟩,fun x hx=>?_,.lst hv (RepDs.hid (fun q hq=>?_) (zc2 _ _) hr)⟩⟩
       ·rcases zbn5.mp hx with rfl | z
        ·exact Same.free gs hD
        ·exact Same.free gs (hfr x z)
       ·rcases zbn2.mp hq with z | z
        ·rcases zbn5.mp z with rfl | z
         ·exact⟨mL vs,hv⟩
         ·exact hr.lists q z
        ·obtain⟨us,w⟩:=H1A q z
         exact⟨us,sm _ _ w⟩
      |succ m =>
       have hil:i<ds.length:=by lia
       refine .inr ⟨src.go _ _ i gg hil,fun σ' H'=>i+1+m=ds.length∧∃th acc rest vs B,RS X.K (Dd::F') H' [] th σ'∧zi0 kt ft fe (ds.drop (i+1)) th=some rest∧acc++rest=xs∧H' Dd=some (.lst vs)∧(RepDs X.K (hide (Dd::F') H') H' acc vs B∧B.Nodup∧Dd∉B∧∀b∈B,H1 b=none)∧Same H1 H'∧Good (Dd::F') H',
        fun σ' H' q=>⟨m,zbs1 m,q⟩,fun x H2 y=>?_⟩
       obtain⟨gs2,d,hd,rd⟩:=src.yld _ _ i x H2 gg RR.mu y hil
       have ed:ds.drop i=d::ds.drop (i+1):=by
        have hd':ds[i]=d:=by
         rw [zbn9 hil]at hd
         exact Option.some.inj hd
        rw [← hd']
        exact zbp1 hil
       rw [ed]at ec
       unfold zi0 at ec
       cases k1:kt d th with
       |none=>rw [k1]at ec;cases ec
       |some t1 =>
        rw [k1]at ec
        have ec:((ft t1).bind fun b=>if b then (fe t1).bind fun r=>(toDn r).bind fun d=>(zi0 kt ft fe (ds.drop (i+1)) t1).map fun xs=>d::xs else zi0 kt ft fe (ds.drop (i+1)) t1)=some rest:=ec
        refine hk (Dd::F') σ' H2 [] th t1 d x _ (RR.grow gs2) rd k1 fun σ2 A2 gr2 R2=>?_
        have A20:=zs8 R2 gr2
        subst A20
        cases k2:ft t1 with
        |none=>rw [k2]at ec;cases ec
        |some bb =>
         rw [k2]at ec
         refine⟨Dd::F',[],t1,bb,R2,k2,fun H3 gs3=>?_⟩
         cases bb with
         |false =>
          refine iteF ⟨by lia,t1,acc,rest,vs,B,R2.grow gs3,ec,ex,gs3 _ _ (gs2 _ _ hv),⟨RepDs.mono (zb6 (gs2.trans gs3)) hr fun p _ o w=>gs3 _ _ (gs2 _ _ w),hnd,hDB,hfr⟩,(sm.trans gs2).trans gs3,src.keep _ _ _ _ gg (zb6 (gs2.trans gs3))⟩
         |true =>
          have ec:((fe t1).bind fun r=>(toDn r).bind fun d=>(zi0 kt ft fe (ds.drop (i+1)) t1).map fun xs=>d::xs)=some rest:=ec
          cases k3:fe t1 with
          |none=>rw [k3]at ec;cases ec
          |some re =>
           rw [k3]at ec
           have ec:((toDn re).bind fun d=>(zi0 kt ft fe (ds.drop (i+1)) t1).map fun xs=>d::xs)=some rest:=ec
           cases k5:toDn re with
           |none=>rw [k5]at ec;cases ec
           |some de =>
           rw [k5]at ec
           have ec:((zi0 kt ft fe (ds.drop (i+1)) t1).map fun xs=>de::xs)=some rest:=ec
           cases k4:zi0 kt ft fe (ds.drop (i+1)) t1 with
           |none=>rw [k4]at ec;cases ec
           |some ys =>
            rw [k4]at ec
            cases ec
            refine iteT ⟨Dd::F',[],t1,re,R2.grow gs3,k3,fun v H4 gs4 q4=>⟨vs,gs4 _ _ (gs3 _ _ (gs2 _ _ hv)),?_,?_⟩⟩
            ·have l1:=hr.length
             have l2:acc.length+(ys.length+1)=xs.length:=by rw [← ex];simp
             exact zbo7 (show vs.length<50000 by lia) (by rw [sizeLine_eq];decide)
            ·have s3:=gs2.trans gs3
             have s4:=s3.trans gs4
             have hu:Same (hide (Dd::F') H4) (hide (Dd::F') (upd H4 Dd (.lst (vs++[v])))):=zl4 (zbn1 ..)
             have mu3:Lists H3 (Dd::F'):=(R2.grow gs3).mu
             obtain⟨B4,n4,f4,r4⟩:=q4.toDn (R2.grow gs3).mu gs4 k5
             have D3:H3 Dd=some (.lst vs):=s3 _ _ hv
             have nD4:Dd∉B4:=fun z=>by rw [f4 _ z]at D3;cases D3
             have off:∀b,b≠Dd→upd H4 Dd (.lst (vs++[v])) b=H4 b:=fun b n=>zc8 n
             refine⟨by lia,t1,acc++[de],ys,vs++[v],B++B4,RS.updF ((R2.grow gs3).grow gs4) (zbn1 ..),k4,by simpa using ex,zc1,⟨?_,?_,?_,?_⟩,?_,?_⟩
             ·refine RepDs.appD (RepD.mono hu (RepD.hid (mu3.mono gs4) (zc2 _ _) r4) fun b hb o w=>?_) (RepDs.mono (fun b o z=>hu _ _ (zb6 s4 _ _ z)) hr fun b hb o w=>?_)
              ·rw [off b fun z=>nD4 (z ▸ hb)];exact w
              ·rw [off b fun z=>hDB (z ▸ hb)];exact s4 _ _ w
             ·refine zbo5.mpr ⟨hnd,n4,fun x hx y hy e=>?_⟩
              subst e
              obtain⟨us,w⟩:=hr.lists x hx
              have:=s3 _ _ w
              rw [f4 x hy]at this;cases this
             ·intro z
              rcases zbn2.mp z with z | z
              ·exact hDB z
              ·exact nD4 z
             ·intro b hb
              rcases zbn2.mp hb with z | z
              ·exact hfr b z
              ·exact Same.free (sm.trans s3) (f4 b z)
             ·exact fun b o z=>by
               rw [zc8 (fun w=>by rw [w,hD]at z;cases z)]
               exact s4 _ _ (sm _ _ z)
             ·exact src.keep _ _ _ _ gg (fun b o z=>hu _ _ (zb6 s4 _ _ z))
    exact wi
theorem zbe5 {X:Cx}{F:List Addr}{elt tg iter:Expr}{ifs:List Expr}{scope:Scope}{pos:Pos}{n:Nat}{cap:List Nat}{N':List Str}{fs:DI}{g:TG}{kt:D→Th→Option Th}{ft:DT}{fe:DE} (S:CompSc X scope) (hc:X.calm=true) (hi:PI X tg iter (dI X.K F fs))
  (hN:N'.length=n+cap.length) (hcap:∀(k:Nat) (j:Nat),cap[k]?=some j→∃x,N'[n+k]?=some x∧X.N[j]?=some x∧(x,NameKind.free)∈scope.names)
  (hg:∀C s₃ H₃ fp pins,PG (blk X N' scope C s₃ H₃ fp pins) tg g) (hk:∀F',TgOk X.K F' g kt) (ht:∀C s₃ H₃ fp pins F',PTs (blk X N' scope C s₃ H₃ fp pins) ifs (dT X.K F' ft)) (he:∀C s₃ H₃ fp pins F',PE (blk X N' scope C s₃ H₃ fp pins) elt (dE X.K F' fe))
  (hs:∀x,foldedSetIterable iter X.env x=pure x:=by intro _;rfl):PE X (.ListComp elt [⟨tg,iter,ifs,0⟩] scope pos) (dE X.K F (zg1 n cap fs kt ft fe)) :=
 PE.imp (zbe6 (g:=g) S hc hi hN hcap hg (fun C s₃ H₃ fp pins pins' s σ H Q I ⟨F',q⟩=>ht C s₃ H₃ fp pins F' pins' s σ H Q I q) (fun C s₃ H₃ fp pins pins' s σ H Q I ⟨F',q⟩=>he C s₃ H₃ fp pins F' pins' s σ H Q I q) hs) fun _ _ _ h=>zaj0 hk h
theorem zae2 {X:Cx}{F:List Addr}{elt tg iter:Expr}{ifs:List Expr}{scope:Scope}{pos:Pos}{fs:DI}{g:TG}{kt:D→Th→Option Th}{ft:DT}{fe:DE} (n:Nat) (cap:List Nat) (N':List Str) (hc:X.calm=true) (hi:PI X tg iter (dI X.K F fs))
  (hg:∀C s₃ H₃ fp pins,PG (blk X N' scope C s₃ H₃ fp pins) tg g) (hk:∀F',TgOk X.K F' g kt) (ht:∀C s₃ H₃ fp pins F',PTs (blk X N' scope C s₃ H₃ fp pins) ifs (dT X.K F' ft)) (he:∀C s₃ H₃ fp pins F',PE (blk X N' scope C s₃ H₃ fp pins) elt (dE X.K F' fe))
  (hkd:scope.kind=.function:=by rfl) (hcs:zac6 scope.names X.env.kindOf=true:=by rfl) (hN:N'.length=n+cap.length:=by rfl) (hcap:zah8 N' X.N n scope.names 0 cap=true:=by rfl)
  (hs:∀x,foldedSetIterable iter X.env x=pure x:=by intro _;rfl):PE X (.ListComp elt [⟨tg,iter,ifs,0⟩] scope pos) (dE X.K F (zg1 n cap fs kt ft fe)) :=
 zbe5 (zax3 hkd hcs) hc hi hN (fun k j e=>by simpa using zw7 hcap k j e) hg hk ht he hs
section
variable {X:Cx}{F:List Addr}{a b c o:Expr}{es:List Expr}{fa fb fc:DE}{fs:List DE}{ga:DA}{g g1 g2:DS}{ft fu:DT}{pos:Pos}{st:Stmt}{rest:List Stmt}{tg:Expr}{gt:TG}{kt:D→Th→Option Th}
noncomputable def kIsB:Ev→Ev→Option Ev:=fun r1 r2=>match r1.d,r2.d with
 |.bl p,.bl q=>some (.cl (.bl (p == q)))
 |_,_=>none
theorem zbd4 {K:zbm7}{H:Hp}{p:Bool}{v:V} (h:Rep K H (.bl p) v):v=.bl p:=by cases h;rfl
theorem od_isB:OpD X F (compareOp .Is) kIsB:=by
 intro pins s σ H0 H A x y v u Q r1 r2 r I m g0 rx ry q1 q2 e hq
 unfold kIsB at e
 split at e
 ·rename_i p q z1 z2
  cases e
  have p1:=q1.full
  have p2:=q2.full
  rw [z1]at p1;rw [z2]at p2
  cases zbd4 p1;cases zbd4 p2
  cases rx;cases ry
  refine PySem.wpAny_is_plain (by cases p<;>cases q<;>rfl) ⟨.bl (p == q),H,I,?_,hq _ H (Same.refl H) (.bl _)⟩
  show Value.bool _=Value.bool _
  cases p<;>cases q<;>rfl
 ·cases e
noncomputable def kRep:Ev→Ev→Option Ev:=fun r1 r2=>match r1,r2.d with
 |.nw xs,.int k=>if xs.length≤100&&decide (-1000000≤k∧k≤1000) then some (.nw (zbn4 k.toNat xs).flatten) else none
 |_,_=>none
theorem Reps.rep {K:zbm7}{H:Hp}{ds:List D}{vs:List V} (r:Reps K H ds vs):∀k:Nat,Reps K H (zbn4 k ds).flatten (zbn4 k vs).flatten
 |0=>by simpa using .nil
 |k+1=>by simpa [zbq9] using r.app (Reps.rep r k)
theorem zk9:OpD X F (binaryOp .Mult) kRep:=by
 intro pins s σ H0 H A x y v u Q r1 r2 r I m g0 rx ry q1 q2 e hq
 unfold kRep at e
 split at e
 ·rename_i xs k z
  split at e
  ·rename_i ok
   simp only [zbo2,decide_eq_true_eq]at ok
   cases e
   have p2:=q2.full
   rw [z]at p2
   cases ze7 p2
   obtain⟨p,vs,rfl,h1,h2,h3⟩:=q1
   refine op_rep pins s σ H _ _ v u Q I rx ry ⟨p,k,vs,rfl,rfl,h2,by lia,by lia,?_,fun l hl=>hq _ _ (zd2 hl) ⟨l,_,rfl,Same.free g0 hl,zc1,Reps.mono (zi6 hl) (Reps.rep (Reps.mono (zb5 H fun a z=>zbm9 _ z) h3) _)⟩⟩
   refine le_line ?_
   rw [h3.length]
   have h5:k.toNat≤1000:=by lia
   exact zbs6 (zby5 ok.1 h5) (by decide)
  ·cases e
 ·cases e
noncomputable def kExt (t:Th) (i:Nat) (r:Ev):Option Out:=match t[i]?,r with
 |some (.own xs),.nw ys=>if decide (xs.length+ys.length≤100000) then some (.nx (t.set i (.own (xs++ys)))) else none
 |_,_=>none
noncomputable def dExt (i:Nat) (f:DE):DS:=fun t=>(f t).bind (kExt t i)
theorem psd_ext (i:Nat) {x:Str}{p0 apos cpos:Pos} (he:PE X a (dE X.K F fa)) (hN:X.N[i]?=some x:=by rfl) (hv:Vis X.env.scope x:=by first | exact Or.inl rfl | exact Or.inr (Or.inl rfl) |exact Or.inr (Or.inr rfl)) (hd:(x ==("__debug__":Str))=false:=by decide)
  (hcd:(x ==("__classdict__":Str))=false:=by decide) (hst:zbo8 [a] X.env=[(false,eval a X.env)]:=by rfl)
  (hbase:attributeBase (.Name x p0) "extend" X.env (eval (.Name x p0) X.env)=eval (.Name x p0) X.env:=by rfl)
  (hfew:((zbu1 cpos (zbo8 [a] X.env)).all (fun x=>!x.1)&&(backToKw cpos (keywordEach [] X.env)).all (fun x=>x.1.isSome)
   && decide ([a].length+([]:List Keyword).length+(if ([]:List Keyword).isEmpty then 0 else 1)<30))=true:=by rfl)
  (hline:(apos.endLine == cpos.line)=true:=by rfl) (hplain:(zbu1 cpos (zbo8 [] X.env)).any (·.1)=false:=by rfl)
  (hsw:swapsWith (.Call (.Attribute (.Name x p0) "extend" apos) [a] [] cpos) none pos.line X.env=pure false:=by rfl) :
  PS X (.Expr (.Call (.Attribute (.Name x p0) "extend" apos) [a] [] cpos) pos) (dS X.K F (dExt i fa)):=by
 refine PS.imp (zaa7 (zaz5 zbr3 PySem.F.slot_list_extend PySem.F.type_list_extend zbf4 (zq7 (i:=i) hN hv hd hcd) (zh0 he zm1 hst) hbase hfew hline hst hplain) hsw) ?_
 rintro E σ H ⟨A,t,o,R,e,h⟩
 unfold dExt at e
 cases e1:fa t with
 |none=>rw [e1]at e;cases e
 |some r =>
  rw [e1]at e
  have e:kExt t i r=some o:=e
  unfold kExt at e
  split at e
  case h_2=>cases e
  rename_i xs ys z _
  split at e
  case isFalse=>cases e
  rename_i ok
  simp only [decide_eq_true_eq]at ok
  cases e
  obtain⟨p,vs,a1,a2,a3,a4⟩:=R.rel.getOwn z
  refine⟨_,a1,.inl ⟨rfl,vs,SqL.of a3⟩,A,t,_,R,e1,fun y H1 gs q=>?_⟩
  obtain⟨q0,us,rfl,h1,h2,h3⟩:=q
  refine⟨p,q0,vs,us,rfl,rfl,gs _ _ a3,h2,?_,?_⟩
  ·refine le_line ?_
   rw [a4.length,h3.length];exact ok
  ·obtain⟨R',g'⟩:=(R.grow gs).write (es:=xs++ys) (ws:=vs++us) z a1 ((Reps.mono (zb6 gs) a4).app (Reps.mono (zb5 H1 fun a z=>zbm9 _ z) h3))
   exact h _ _ _ ((Gr.of_same R.mu.left gs).trans g') R'
noncomputable def blsD:List D→Option (List Bool)
 |[]=>some []
 |.bl i::r=>(blsD r).map fun ns=>i::ns
 |_::_=>none
theorem zbl5:∀ {ds:List D}{ns:List Bool},blsD ds=some ns→ds=ns.map D.bl
 |[],ns,e=>by cases e;rfl
 |.bl i::r,ns,e=>by
  unfold blsD at e
  cases e1:blsD r with
  |none=>rw [e1]at e;cases e
  |some m=>rw [e1]at e;cases e;rw [zbl5 e1];rfl
 |.non::r,ns,e=>by cases e
 |.int _::r,ns,e=>by cases e
 |.str _::r,ns,e=>by cases e
 |.tup _::r,ns,e=>by cases e
 |.lst _::r,ns,e=>by cases e
theorem zau8 {K:zbm7}{H:Hp}:∀ {ns:List Bool}{vs:List V},Reps K H (ns.map D.bl) vs→vs=ns.map V.bl
 |[],_,.nil=>rfl
 |n::r,_,.cons h q=>by cases zbd4 h;rw [zau8 q];rfl
theorem zai0:∀ {bs:List Bool}{its:List Value},Vals (bs.map V.bl) its→LSm.BoolsAre its bs
 |[],its,h=>by cases h;exact .nil
 |b::bs,its,h=>by
  cases h with
  |cons r rr=>cases r;exact .cons b (zai0 rr)
theorem zt2 (hc:X.calm=true):zp0 X (.builtin "all") (fun xs H Q => ∃(p:Addr) (bs:List Bool),xs=[.ref p]∧SqL X.K H p (bs.map V.bl)∧Q (.bl (bs.all id)) H):=by
 intro pins s σ H xs us Q I r h
 obtain⟨p,bs,rfl,hs,q⟩:=h
 obtain⟨u,rfl,ru⟩:=zy3 r
 cases ru
 obtain⟨its,rv,pl,_⟩:=I.list hs
 have hb:=zai0 rv
 have hl:=PlainL.isL pl
 have hlt:p<s.heap.objs.size:=by obtain⟨_,e,_⟩:=hl;exact zbo6 e
 refine call_all_walk (wpAny_pyIter_list hl ⟨s.heap.objs.size,[s.heap.objs.size,p],[s.heap.objs.size],its.toArray.size,_,_,fun i=>(bs[i]?).getD true,rfl,
  Walks.list (A:=X.A.in1) (I.ok.hd hc) _ p (zbp8 hlt) its.toArray,⟨⟨_,zbp5 _ rfl,rfl,rfl⟩,hl.push _⟩,fun i v s' Q' E' hP hQ=>?_,fun h' tk hk=>?_⟩)
 ·obtain⟨b,e,rfl⟩:=hb.get i v (by simpa using hP)
  have hQ:Q' ((bs[i]?).getD true) s':=hQ
  rw [e]at hQ
  exact wpAny_truthy_bool hQ
 ·have e:((zbp2 its.toArray.size).all fun i=>(bs[i]?).getD true)=bs.all id:=by
   rw [zbo4,hb.length,LSm.range_all]
  refine⟨.bl _,H,I.kept (t':=tk) (LSm.kept_iter hk),rfl,?_⟩
  rw [e];exact q
theorem zad7 (hc:X.calm=true):zp0 X (.builtin "any") (fun xs H Q => ∃(p:Addr) (bs:List Bool),xs=[.ref p]∧SqL X.K H p (bs.map V.bl)∧Q (.bl (bs.any id)) H):=by
 intro pins s σ H xs us Q I r h
 obtain⟨p,bs,rfl,hs,q⟩:=h
 obtain⟨u,rfl,ru⟩:=zy3 r
 cases ru
 obtain⟨its,rv,pl,_⟩:=I.list hs
 have hb:=zai0 rv
 have hl:=PlainL.isL pl
 have hlt:p<s.heap.objs.size:=by obtain⟨_,e,_⟩:=hl;exact zbo6 e
 refine call_any_walk (wpAny_pyIter_list hl ⟨s.heap.objs.size,[s.heap.objs.size,p],[s.heap.objs.size],its.toArray.size,_,_,fun i=>(bs[i]?).getD false,rfl,
  Walks.list (A:=X.A.in1) (I.ok.hd hc) _ p (zbp8 hlt) its.toArray,⟨⟨_,zbp5 _ rfl,rfl,rfl⟩,hl.push _⟩,fun i v s' Q' E' hP hQ=>?_,fun h' tk hk=>?_⟩)
 ·obtain⟨b,e,rfl⟩:=hb.get i v (by simpa using hP)
  have hQ:Q' ((bs[i]?).getD false) s':=hQ
  rw [e]at hQ
  exact wpAny_truthy_bool hQ
 ·have e:((zbp2 its.toArray.size).any fun i=>(bs[i]?).getD false)=bs.any id:=by
   rw [zbo4,hb.length,LSm.range_any]
  refine⟨.bl _,H,I.kept (t':=tk) (LSm.kept_iter hk),rfl,?_⟩
  rw [e];exact q
noncomputable def kBls (f:List Bool→Bool):List Ev→Option Ev:=fun rs=>match rs with
 |[r]=>(match r.d with
  |.lst ds=>(blsD ds).map fun bs=>.cl (.bl (f bs))
  |_=>none)
 |_=>none
theorem zbk6 {id':String}{f:List Bool→Bool} (h:zp0 X (.builtin id') (fun xs H Q => ∃(p:Addr) (bs:List Bool),xs=[.ref p]∧SqL X.K H p (bs.map V.bl)∧Q (.bl (f bs)) H)):CallD X F (.builtin id') (kBls f):=by
 refine CallD.of h fun H0 H A xs rs e Q m g q ek hq=>?_
 unfold kBls at ek
 split at ek
 case h_2=>cases ek
 rename_i r
 cases q with
 |@cons _ v _ vs q1 q2 =>
  cases q2
  split at ek
  case h_2=>cases ek
  rename_i ds z
  cases e1:blsD ds with
  |none=>rw [e1]at ek;cases ek
  |some bs =>
   rw [e1]at ek
   cases ek
   have p:=q1.full
   rw [z,zbl5 e1]at p
   cases p with
   |@lst _ l us h1 h2 =>
    have:=zau8 h2
    subst this
    exact⟨l,bs,rfl,h1,hq _ H (Same.refl H) (.bl _)⟩
end
end DL
namespace DL
open PySem.Spec L2
noncomputable def zaa3 (a b c:Int):Bool:=Builtin.Range.small a b c&&decide (c≠0∧c.natAbs<1000000∧0≤Builtin.Range.rangeSize a b c)
noncomputable def rng3 (a b c:Int):List D:=(zbp2 (Builtin.Range.rangeSize a b c).toNat).map fun i=>.int (a+(i:Nat)*c)
noncomputable def mkG (k:Nat) (N:List Str) (g:DS):List D→Option Ev:=fun ds=>if ds.length=k then (g (zad9 N ds)).bind zm2 else none
theorem zf3 {k:Nat}{N:List Str}{g:DS}{ds:List D}{r:Ev} (e:mkG k N g ds=some r):ds.length=k:=by
 unfold mkG at e
 split at e
 ·assumption
 ·cases e
theorem zh8 {k:Nat}{N:List Str}{g:DS}{ds:List D}{r:Ev} (e:mkG k N g ds=some r):∃o,g (zad9 N ds)=some o∧zm2 o=some r:=by
 unfold mkG at e
 split at e
 ·cases e1:g (zad9 N ds) with
  |none=>rw [e1]at e;cases e
  |some o=>rw [e1]at e;exact⟨o,rfl,e⟩
 ·cases e
section
variable {X:Cx}{F:List Addr}{elt tg iter:Expr}{ifs:List Expr}{scope:Scope}{pos spos py:Pos}{fs:DI}{g:TG}{kt:D→Th→Option Th}{ft:DT}{fe fc:DE}{i:Nat}{y:Str}
theorem compU {n:Nat}{cap:List Nat}{N':List Str} (up:∀ {σ:L2.St}{H:Hp}{Q:VK},dE X.K F fc σ H Q→zap2 n cap (dI X.K F fs) g (fun σ H Q => ∃F',dT X.K F' ft σ H Q) (fun σ H Q => ∃F',dE X.K F' fe σ H Q) σ H Q) (hc:X.calm=true) (hi:PI X tg iter (dI X.K F fs))
  (hg:∀C s₃ H₃ fp pins,PG (blk X N' scope C s₃ H₃ fp pins) tg g) (ht:∀C s₃ H₃ fp pins F',PTs (blk X N' scope C s₃ H₃ fp pins) ifs (dT X.K F' ft)) (he:∀C s₃ H₃ fp pins F',PE (blk X N' scope C s₃ H₃ fp pins) elt (dE X.K F' fe))
  (hNd:X.N.Nodup) (hi₀:X.N[i]?=some y) (hy:Loc X.env.scope y) (hsw:swapsWith (.ListComp elt [⟨tg,iter,ifs,0⟩] scope pos) (some (.Name y py)) spos.line X.env=pure true) (hf:X.fn y=true∨X.env.scope.names.lookup y=some .local)
  (hkd:scope.kind=.function) (hcs:zac6 scope.names X.env.kindOf=true) (hN:N'.length=n+cap.length) (hcap:zah8 N' X.N n scope.names 0 cap=true) (hs:∀x,foldedSetIterable iter X.env x=pure x) :
  PS X (.Assign [.Name y py] (.ListComp elt [⟨tg,iter,ifs,0⟩] scope pos) spos) (dS X.K F (dAsg i fc)):=by
 refine PS.imp (ps_compU (g:=g) (wi:=dI X.K F fs) (tt:=fun σ H Q => ∃F',dT X.K F' ft σ H Q) (te:=fun σ H Q => ∃F',dE X.K F' fe σ H Q) (zax3 hkd hcs) hc hi hN (fun k j e=>by simpa using zw7 hcap k j e) hg (fun C s₃ H₃ fp pins pins' s σ H Q I ⟨F',q⟩=>ht C s₃ H₃ fp pins F' pins' s σ H Q I q) (fun C s₃ H₃ fp pins pins' s σ H Q I ⟨F',q⟩=>he C s₃ H₃ fp pins F' pins' s σ H Q I q) hNd hi₀ hy hsw hf hs) ?_
 rintro E σ H ⟨A,t,o,R,e,h⟩
 unfold dAsg at e
 cases e1:fc t with
 |none=>rw [e1]at e;cases e
 |some r1 =>
  rw [e1]at e
  have e:(zn9 t i r1).map Out.nx=some o:=e
  cases e2:zn9 t i r1 with
  |none=>rw [e2]at e;cases e
  |some t' =>
   rw [e2]at e
   cases e
   refine up ⟨A,t,r1,R,e1,fun v H' gs q=>?_⟩
   obtain⟨A',g',R'⟩:=R.put gs q e2
   exact h _ _ _ g' R'
theorem zz0 (n:Nat) (cap:List Nat) (N':List Str) (hNd:X.N.Nodup) (hi₀:X.N[i]?=some y) (hy:Loc X.env.scope y) (hc:X.calm=true) (hi:PI X tg iter (dI X.K F fs))
  (hg:∀C s₃ H₃ fp pins,PG (blk X N' scope C s₃ H₃ fp pins) tg g) (hk:∀F',TgOk X.K F' g kt) (ht:∀C s₃ H₃ fp pins F',PTs (blk X N' scope C s₃ H₃ fp pins) ifs (dT X.K F' ft)) (he:∀C s₃ H₃ fp pins F',PE (blk X N' scope C s₃ H₃ fp pins) elt (dE X.K F' fe))
  (hsw:swapsWith (.ListComp elt [⟨tg,iter,ifs,0⟩] scope pos) (some (.Name y py)) spos.line X.env=pure true:=by rfl) (hf:X.fn y=true∨X.env.scope.names.lookup y=some .local:=by first | exact .inl rfl | exact .inr rfl)
  (hkd:scope.kind=.function:=by rfl) (hcs:zac6 scope.names X.env.kindOf=true:=by rfl) (hN:N'.length=n+cap.length:=by rfl) (hcap:zah8 N' X.N n scope.names 0 cap=true:=by rfl)
  (hs:∀x,foldedSetIterable iter X.env x=pure x:=by intro _;rfl):PS X (.Assign [.Name y py] (.ListComp elt [⟨tg,iter,ifs,0⟩] scope pos) spos) (dS X.K F (dAsg i (zf8 n cap fs kt ft fe))) :=
 compU (fun h=>zau1 hk h) hc hi hg ht he hNd hi₀ hy hsw hf hkd hcs hN hcap hs
theorem zo6 (n:Nat) (cap:List Nat) (N':List Str) (hNd:X.N.Nodup) (hi₀:X.N[i]?=some y) (hy:Loc X.env.scope y) (hc:X.calm=true) (hi:PI X tg iter (dI X.K F fs))
  (hg:∀C s₃ H₃ fp pins,PG (blk X N' scope C s₃ H₃ fp pins) tg g) (hk:∀F',TgOk X.K F' g kt) (ht:∀C s₃ H₃ fp pins F',PTs (blk X N' scope C s₃ H₃ fp pins) ifs (dT X.K F' ft)) (he:∀C s₃ H₃ fp pins F',PE (blk X N' scope C s₃ H₃ fp pins) elt (dE X.K F' fe))
  (hsw:swapsWith (.ListComp elt [⟨tg,iter,ifs,0⟩] scope pos) (some (.Name y py)) spos.line X.env=pure true:=by rfl) (hf:X.fn y=true∨X.env.scope.names.lookup y=some .local:=by first | exact .inl rfl | exact .inr rfl)
  (hkd:scope.kind=.function:=by rfl) (hcs:zac6 scope.names X.env.kindOf=true:=by rfl) (hN:N'.length=n+cap.length:=by rfl) (hcap:zah8 N' X.N n scope.names 0 cap=true:=by rfl)
  (hs:∀x,foldedSetIterable iter X.env x=pure x:=by intro _;rfl):PS X (.Assign [.Name y py] (.ListComp elt [⟨tg,iter,ifs,0⟩] scope pos) spos) (dS X.K F (dAsg i (zg1 n cap fs kt ft fe))) :=
 compU (fun h=>zaj0 hk h) hc hi hg ht he hNd hi₀ hy hsw hf hkd hcs hN hcap hs
end
end DL
namespace DL
open PySem.Spec L2
section
variable {X:Cx}{F:List Addr}{a b c o:Expr}{es:List Expr}{fa fb fc:DE}{fs:List DE}{ga:DA}{g g1 g2:DS}{ft fu:DT}{pos:Pos}{st:Stmt}{rest:List Stmt}{tg:Expr}{gt:TG}{kt:D→Th→Option Th}
noncomputable def zq9:Int→List Int→Int
 |m,[]=>m
 |m,n::r=>zq9 (if n<m then n else m) r
noncomputable def zab3:Int→List Int→Int
 |m,[]=>m
 |m,n::r=>zab3 (if m<n then n else m) r
theorem zab4:∀(r:List Int) (m:Int),zq9 m r∈m::r∧∀a∈m::r,zq9 m r≤a
 |[],m=>⟨by simp [zq9],by simp [zq9]⟩
 |n::r,m=>by
  obtain⟨h1,h2⟩:=zab4 r (if n<m then n else m)
  have h3:=h2 (if n<m then n else m) (zbn1 ..)
  have k1:(if n<m then n else m)≤m:=by split<;>lia
  have k2:(if n<m then n else m)≤n:=by split<;>lia
  refine⟨?_,fun a ha=>?_⟩
  ·show zq9 (if n<m then n else m) r∈m::n::r
   rcases zbn5.mp h1 with z | z
   ·rw [z];split<;>simp
   ·simp [z]
  ·show zq9 (if n<m then n else m) r≤a
   rcases zbn5.mp ha with z | z
   ·subst z;lia
   ·rcases zbn5.mp z with w | w
    ·subst w;lia
    ·exact h2 a (zbm9 _ w)
theorem zag6:∀(r:List Int) (m:Int),zab3 m r∈m::r∧∀a∈m::r,a≤zab3 m r
 |[],m=>⟨by simp [zab3],by simp [zab3]⟩
 |n::r,m=>by
  obtain⟨h1,h2⟩:=zag6 r (if m<n then n else m)
  have h3:=h2 (if m<n then n else m) (zbn1 ..)
  have k1:m≤(if m<n then n else m):=by split<;>lia
  have k2:n≤(if m<n then n else m):=by split<;>lia
  refine⟨?_,fun a ha=>?_⟩
  ·show zab3 (if m<n then n else m) r∈m::n::r
   rcases zbn5.mp h1 with z | z
   ·rw [z];split<;>simp
   ·simp [z]
  ·show a≤zab3 (if m<n then n else m) r
   rcases zbn5.mp ha with z | z
   ·subst z;lia
   ·rcases zbn5.mp z with w | w
    ·subst w;lia
    ·exact h2 a (zbm9 _ w)
theorem zal9 {ys:Array (Int×Tok)}{j:Nat} (hj:j<ys.size):numAt ys j∈ys.toList.map (·.1):=by
 rw [numAt_eq];exact getD_mem (by simpa using hj)
end
end DL
namespace DL
open PySem.Spec L2
section
variable {X:Cx}{F:List Addr}{a b c o:Expr}{es:List Expr}{fa fb fc:DE}{fs:List DE}{ga:DA}{g g1 g2:DS}{ft fu:DT}{pos:Pos}{st:Stmt}{rest:List Stmt}{tg:Expr}{gt:TG}{kt:D→Th→Option Th}
theorem zba7:bootBuiltins "list"=some (.type "list"):=by decide +kernel
theorem vals_get:∀ {xs:List V}{us:List Value},xs.length=us.length→(∀(i:Nat) (x:V) (u:Value),xs[i]?=some x→us[i]?=some u→RelV x u)→Vals xs us
 |[],[],_,_=>.nil
 |[],_::_,h,_=>by simp at h
 |_::_,[],h,_=>by simp at h
 |x::xs,u::us,h,k=>.cons (k 0 x u rfl rfl) (vals_get (by simpa using h) fun i y w e1 e2=>k (i+1) y w (by simpa using e1) (by simpa using e2))
theorem zba1 {lo k:Int}{n:Nat}{acc:Array Value} (h:ItemsOf (fun i v => ∃t,v=.int (lo+i*k) t) acc n):Vals ((zbp2 n).map fun i=>V.int (lo+(i:Nat)*k)) acc.toList:=by
 refine vals_get (by simp [h.1]) fun i x u e1 e2=>?_
 obtain⟨t,rfl⟩:=h.2 i u (by simpa using e2)
 have hi:i<n:=by
  cases zby6 i n with
  |inl z=>exact z
  |inr z=>rw [zbp7,zbt7 (by simpa using z)]at e1;cases e1
 rw [zbp7,List.getElem?_range hi]at e1
 simp at e1
 subst e1
 exact⟨t,rfl⟩
theorem zag7 {pins:List (Addr×Obj)}{σ:L2.St}{H:Hp}{s:zbo3}{Q:VK}{lo hi k:Int}{t u v:Tok}{tk:Nat} (hc:X.calm=true) (I:L2.Inv X pins σ H s) (ok:zaa3 lo hi k=true) (sz:Builtin.Range.rangeSize lo hi k≤50000)
  (q:∀p,H p=none→Q (.ref p) (upd H p (.lst ((zbp2 (Builtin.Range.rangeSize lo hi k).toNat).map fun i=>V.int (lo+(i:Nat)*k))))) :
  wpAny (model X.prog X.w) X.A (call (.type "list") [.ref s.heap.objs.size]) (EP X pins σ Q) X.xe { s with heap:=s.heap.push { cls:=.type "range",data:=.fields #[.int lo t,.int hi u,.int k v] },toks:=tk }:=by
 simp only [zaa3,zbo2,decide_eq_true_eq]at ok
 have I1:L2.Inv X pins σ H { s with heap:=s.heap.push { cls:=.type "range",data:=.fields #[.int lo t,.int hi u,.int k v] },toks:=tk }:=I.kept fun b o e=>zbn8 _ e
 have en:Builtin.Range.rangeSize lo hi k=(((Builtin.Range.rangeSize lo hi k).toNat:Nat):Int):=by lia
 refine call_list_range (I.ok.hd hc) (IsRange.new ..) ok.1 en (by lia) fun h' tk' acc c' hk hS hacc=>?_
 refine⟨.ref _,_,I1.laid (o:=HO.lst ((zbp2 (Builtin.Range.rangeSize lo hi k).toNat).map fun i=>V.int (lo+(i:Nat)*k))) (t':=tk') hk (zbp4 _) ⟨?_,acc.toList,c',zba1 hacc,by simpa using hS⟩,rfl,q _ I1.fresh⟩
 refine le_line ?_
 rw [zbo0,List.length_range];lia
noncomputable def rArgs:List D→Option (Int×Int×Int)
 |[.int n]=>some (0,n,1)
 |[.int i,.int j]=>some (i,j,1)
 |[.int i,.int j,.int k]=>some (i,j,k)
 |_=>none
noncomputable def zn5 (g:DA):DE:=fun t=>(g t).bind fun rs=>(rArgs (rs.map Ev.d)).bind fun q=>if zaa3 q.1 q.2.1 q.2.2&&decide (Builtin.Range.rangeSize q.1 q.2.1 q.2.2≤50000) then some (.nw (rng3 q.1 q.2.1 q.2.2)) else none
theorem zj8 {p0 p1 p2:Pos} (hc:X.calm=true) (hgl:Gl X "list") (hml:X.mg "list"=none) (hgr:Gl X "range") (hmr:X.mg "range"=none) (ha:PA X (a::es) (dA X.K F ga))
  (hst:zbo8 [.Call (.Name "range" p1) (a::es) [] p2] X.env=[(false,eval (.Call (.Name "range" p1) (a::es) [] p2) X.env)]:=by rfl)
  (hst1:zbo8 (a::es) X.env=(false,eval a X.env)::zbo8 es X.env:=by rfl) (hst2:(zbu1 p2 (zbo8 es X.env)).any (·.1)=false:=by rfl) :
  PE X (.Call (.Name "list" p0) [.Call (.Name "range" p1) (a::es) [] p2] [] pos) (dE X.K F (zn5 ga)):=by
 intro pins s σ H Q I h
 obtain⟨A,t,r,R,e,h⟩:=h
 unfold zn5 at e
 cases e1:ga t with
 |none=>rw [e1]at e;cases e
 |some rs =>
  rw [e1]at e
  simp only [zbn0]at e
  cases e2:rArgs (rs.map Ev.d) with
  |none=>rw [e2]at e;cases e
  |some q =>
   rw [e2]at e
   simp only [zbn0]at e
   split at e
   case isFalse=>cases e
   rename_i ok
   simp only [zbo2,decide_eq_true_eq]at ok
   cases e
   have mk:∀(H1:Hp),Same H H1→∀p,H1 p=none→Q (.ref p) (upd H1 p (.lst ((zbp2 (Builtin.Range.rangeSize q.1 q.2.1 q.2.2).toNat).map fun i=>V.int (q.1+(i:Nat)*q.2.2)))):=fun H1 g1 p hp=>by
    refine h _ _ (g1.trans (zd2 hp)) ⟨p,_,rfl,Same.free g1 hp,zc1,?_⟩
    have e3:rng3 q.1 q.2.1 q.2.2=((zbp2 (Builtin.Range.rangeSize q.1 q.2.1 q.2.2).toNat).map fun i=>q.1+(i:Nat)*q.2.2).map D.int:=by simp [rng3]
    have e4:((zbp2 (Builtin.Range.rangeSize q.1 q.2.1 q.2.2).toNat).map fun i=>V.int (q.1+(i:Nat)*q.2.2))=((zbp2 (Builtin.Range.rangeSize q.1 q.2.1 q.2.2).toNat).map fun i=>q.1+(i:Nat)*q.2.2).map V.int:=by simp
    rw [e3,e4]
    exact Reps.ints _
   refine wpAny_Call_Name_kw (zr5 I hgl hml zba7 (PyProof.Rows.callWith_type1 ?_ (by rw [hst];rfl) rfl))
   rw [hst]
   show wpAny _ _ (spliced ((false,eval (.Call (.Name "range" p1) (a::es) [] p2) X.env)::zbu1 pos (zbo8 [] X.env))) _ _ s
   refine Calls.spliced_cons (Call_ (zr5 I hgr hmr boot_range (PyProof.Rows.callWith_type1 (thn (ha p2 pins s σ H (fun vs H1=>Same H H1∧RepEvs X.K F A H H1 rs vs) I ⟨A,t,rs,R,e1,fun vs H1 g1 q1=>⟨g1,q1⟩⟩) fun us s1 ⟨vs,H1,I1,r1,g1,q1⟩=>?_) hst1 hst2)))
   have full:=q1.full
   obtain⟨q0,qh,qk⟩:=q
   unfold rArgs at e2
   split at e2
   ·rename_i n z
    cases e2
    rw [z]at full
    have ev:=zg8 (ns:=[qh]) full
    subst ev
    obtain⟨u,rfl,ru⟩:=r1.one
    obtain⟨t1,rfl⟩:=ru
    exact call_range_1 (Calls.spliced_nil (zag7 hc I1 ok.1 ok.2 (mk H1 g1)))
   ·rename_i i j z
    cases e2
    rw [z]at full
    have ev:=zg8 (ns:=[q0,qh]) full
    subst ev
    obtain⟨u,w,rfl,ru,rw'⟩:=r1.two
    obtain⟨t1,rfl⟩:=ru
    obtain⟨t2,rfl⟩:=rw'
    exact call_range_2 (Calls.spliced_nil (zag7 hc I1 ok.1 ok.2 (mk H1 g1)))
   ·rename_i i j k z
    cases e2
    rw [z]at full
    have ev:=zg8 (ns:=[q0,qh,qk]) full
    subst ev
    cases r1 with
    |cons r rr =>
     cases rr with
     |cons r' rr =>
      cases rr with
      |cons r'' rr =>
       cases rr
       obtain⟨t1,rfl⟩:=r
       obtain⟨t2,rfl⟩:=r'
       obtain⟨t3,rfl⟩:=r''
       have ok':=ok.1
       simp only [zaa3,zbo2,decide_eq_true_eq]at ok'
       have lg:qk.natAbs.log2<9000:=zcc4 (zbg3 (k:=20) (by have:=ok'.2.2.1;lia)) (by decide)
       exact call_range_3 ok'.2.1 (Calls.spliced_nil (zag7 hc I1 ok.1 ok.2 (mk H1 g1))) (.inl (PyProof.noPylong_of_log2 lg))
   ·cases e2
end
end DL
namespace DL
open PySem.Spec L2
section
variable {X:Cx}{F:List Addr}{a b c o:Expr}{es:List Expr}{fa fb fc:DE}{fs:List DE}{ga:DA}{g g1 g2:DS}{ft fu:DT}{pos:Pos}{st:Stmt}{rest:List Stmt}{tg:Expr}{gt:TG}{kt:D→Th→Option Th}
noncomputable def kPop (t:Th) (i j:Nat):Option Out:=match t[j]? with
 |some (.own xs)=>if i=j then none else match xs.getLast? with
  |some d=>(zn9 (t.set j (.own xs.dropLast)) i (.cl d)).map Out.nx
  |none=>none
 |_=>none
noncomputable def dPop (i j:Nat):DS:=fun t=>kPop t i j
theorem zap9 {i:Nat} (j:Nat) {x y:Str}{p0 apos cpos pos':Pos} (hNd:X.N.Nodup) (hi:X.N[i]?=some y) (hy:Loc X.env.scope y) (hN:X.N[j]?=some x:=by rfl) (hv:Vis X.env.scope x:=by first | exact Or.inl rfl | exact Or.inr (Or.inl rfl) |exact Or.inr (Or.inr rfl)) (hd:(x ==("__debug__":Str))=false:=by decide)
  (hcd:(x ==("__classdict__":Str))=false:=by decide) (hbase:attributeBase (.Name x p0) "pop" X.env (eval (.Name x p0) X.env)=eval (.Name x p0) X.env:=by rfl)
  (hline:(apos.endLine == cpos.line)=true:=by rfl) (hs:swapsWith (.Call (.Attribute (.Name x p0) "pop" apos) [] [] cpos) (some (.Name y pos')) pos.line X.env=pure false:=by rfl) (hf:X.fn y=true∨X.env.scope.names.lookup y=some .local:=by first | exact .inl rfl | exact .inr rfl | assumption) :
  PS X (.Assign [.Name y pos'] (.Call (.Attribute (.Name x p0) "pop" apos) [] [] cpos) pos) (dS X.K F (dPop i j)):=by
 refine PS.imp (ps_set hNd hi hy (pe_bm0 zbr3 zbz9 zca0 mt_pop (zq7 (i:=j) hN hv hd hcd) hbase hline) hs hf) ?_
 rintro E σ H ⟨A,t,o,R,e,h⟩
 have e:kPop t i j=some o:=e
 unfold kPop at e
 split at e
 case h_2=>cases e
 rename_i xs z
 split at e
 case isTrue=>cases e
 rename_i ne
 split at e
 case h_2=>cases e
 rename_i d z2
 cases e3:zn9 (t.set j (.own xs.dropLast)) i (.cl d) with
 |none=>rw [e3]at e;cases e
 |some t' =>
  rw [e3]at e
  cases e
  obtain⟨p,vs,a1,a2,a3,a4⟩:=R.rel.getOwn z
  have hx:xs[xs.length - 1]?=some d:=by rw [← zbx8];exact z2
  obtain⟨v,b1,b2⟩:=a4.get hx
  rw [← a4.length]at b1
  refine⟨_,a1,.inl ⟨rfl,vs,SqL.of a3⟩,p,vs,v,rfl,rfl,a3,b1,?_⟩
  have dl:Reps X.K (hide (A++F) H) xs.dropLast vs.dropLast:=by
   rw [zca1,zca1,a4.length];exact a4.take _
  obtain⟨R',g'⟩:=R.write (es:=xs.dropLast) (ws:=vs.dropLast) z a1 dl
  obtain⟨A2,g2,R2⟩:=R'.put (i:=i) (r:=.cl d) (v:=v) (Same.refl _) (Rep.mono g'.same b2) e3
  exact h _ _ _ (g'.trans g2) R2
end
end DL
namespace DL
open PySem.Spec L2
noncomputable def frzD:Sl→Sl
 |.own xs=>.val (.lst xs)
 |.dp d=>.val d
 |s=>s
noncomputable def frzT (t:Th) (i:Nat):Th:=match t[i]? with
 |some s=>t.set i (frzD s)
 |none=>t
theorem zw6 (s:Sl) (t:Th) (i:Nat):frzT (s::t) (i+1)=s::frzT t i:=by
 unfold frzT
 simp only [zbz0]
 cases t[i]?<;>simp
theorem RSl.give {K:zbm7}{H0 H:Hp}:∀ {t:Th}{σ:L2.St}{A:List Addr} (i:Nat),RSl K H0 H t σ A→A.Nodup→∃(B A':List Addr),A'.Sublist A∧(∀b∈B,b∈A∧b∉A')∧∀H1,Same H0 H1→(∀b∈B,∀o,H b=some o→H1 b=some o)→RSl K H1 H (frzT t i) σ A'
 |_,_,_,i,.nil,_=>⟨[],[],List.Sublist.refl _,fun b hb=>(by cases hb),fun H1 e _=>by simpa [frzT] using RSl.nil⟩
 |_,_,A,0,.no r,n=>⟨[],A,List.Sublist.refl _,fun b hb=>(by cases hb),fun H1 e _=>.no (RSl.mono e r fun _ _ _ h=>h)⟩
 |_,_,A,0,.val h r,n=>⟨[],A,List.Sublist.refl _,fun b hb=>(by cases hb),fun H1 e _=>.val (Rep.mono e h) (RSl.mono e r fun _ _ _ h=>h)⟩
 |_,_,_,0,.own (p:=p) (A:=A) h1 h2 r,n=>by
  have n0:=zbo9.mp n
  refine⟨[p],A,zbz2 _ _,fun b hb=>?_,fun H1 e k=>?_⟩
  ·simp at hb;subst hb;exact⟨zbn1 ..,n0.1⟩
  ·exact .val (.lst (SqL.of (k p (by simp) _ h1)) (Reps.mono e h2)) (RSl.mono e r fun _ _ _ h=>h)
 |_,_,_,0,.dp (B:=B) (A:=A) h r,n=>by
  have n0:=zbo5.mp n
  refine⟨B,A,zbx7 _ _,fun b hb=>⟨zbm8 _ hb,fun z=>n0.2.2 b hb b z rfl⟩,fun H1 e k=>?_⟩
  exact .val (h.rep e k) (RSl.mono e r fun _ _ _ h=>h)
 |_,_,_,i+1,.no r,n=>by
  obtain⟨B,A',a1,a2,a3⟩:=RSl.give i r n
  refine⟨B,A',a1,a2,fun H1 e k=>?_⟩
  rw [zw6];exact .no (a3 H1 e k)
 |_,_,_,i+1,.val h r,n=>by
  obtain⟨B,A',a1,a2,a3⟩:=RSl.give i r n
  refine⟨B,A',a1,a2,fun H1 e k=>?_⟩
  rw [zw6];exact .val (Rep.mono e h) (a3 H1 e k)
 |_,_,_,i+1,.own (p:=p) h1 h2 r,n=>by
  have n0:=zbo9.mp n
  obtain⟨B,A',a1,a2,a3⟩:=RSl.give i r n0.2
  refine⟨B,p::A',a1.cons₂ _,fun b hb=>⟨zbm9 _ (a2 b hb).1,fun z=>?_⟩,fun H1 e k=>?_⟩
  ·rcases zbn5.mp z with w | w
   ·exact n0.1 (w ▸ (a2 b hb).1)
   ·exact (a2 b hb).2 w
  ·rw [zw6];exact .own h1 (Reps.mono e h2) (a3 H1 e k)
 |_,_,_,i+1,.dp (B:=C) h r,n=>by
  have n0:=zbo5.mp n
  obtain⟨B,A',a1,a2,a3⟩:=RSl.give i r n0.2.1
  refine⟨B,C++A',List.Sublist.append (List.Sublist.refl _) a1,fun b hb=>⟨zbm6 _ (a2 b hb).1,fun z=>?_⟩,fun H1 e k=>?_⟩
  ·rcases zbn2.mp z with w | w
   ·exact n0.2.2 b w b (a2 b hb).1 rfl
   ·exact (a2 b hb).2 w
  ·rw [zw6];exact .dp (RepD.mono e h fun _ _ _ w=>w) (a3 H1 e k)
theorem RS.give {K:zbm7}{F A:List Addr}{H:Hp}{t:Th}{σ:L2.St} (R:RS K F H A t σ) (i:Nat):∃A',RS K F H A' (frzT t i) σ∧Gr A H A' H:=by
 obtain⟨B,A',a1,a2,a3⟩:=R.rel.give i R.nd
 have sub:∀x∈A',x∈A:=fun x hx=>a1.subset hx
 refine⟨A',⟨fun q hq=>R.mu q ((zbn2.mp hq).elim (fun z=>zbm8 _ (sub q z)) fun z=>zbm6 _ z),R.nd.sublist a1,fun p hp=>R.dj p (sub p hp),a3 _ (zb5 H fun a z=>(zbn2.mp z).elim (fun z=>zbm8 _ (sub a z)) fun z=>zbm6 _ z) fun b hb o h=>zd1 h fun z=>?_⟩,⟨fun _ _ _ h=>h,fun b hb=>?_,fun b hb=>.inl (sub b hb)⟩⟩
 ·rcases zbn2.mp z with w | w
  ·exact (a2 b hb).2 w
  ·exact R.dj b (a2 b hb).1 w
 ·obtain⟨vs,q⟩:=R.mu b (zbm8 _ hb)
  rw [q];simp
noncomputable def dFrz (i:Nat) (g:DS):DS:=fun t=>g (frzT t i)
theorem dS_frz {K:zbm7}{F:List Addr}{g:DS}{i:Nat}{E:Ends}{σ:L2.St}{H:Hp} (h:dS K F (dFrz i g) E σ H):dS K F g E σ H:=by
 obtain⟨A,t,o,R,e,p⟩:=zba4 h
 obtain⟨A',R',gr⟩:=R.give i
 exact zbj1 R' e (p.back gr)
theorem zo1 {X:Cx}{F:List Addr}{g:DS}{st:Stmt} (i:Nat) (h:PS X st (dS X.K F g)):PS X st (dS X.K F (dFrz i g)):=PS.imp h fun _ _ _ q=>dS_frz q
section
variable {X:Cx}{F:List Addr}{a b c o:Expr}{es:List Expr}{fa fb fc:DE}{fs:List DE}{ga:DA}{g g1 g2:DS}{ft fu:DT}{pos:Pos}{st:Stmt}{rest:List Stmt}{tg:Expr}{gt:TG}{kt:D→Th→Option Th}
noncomputable def insI (n:Int):List Int→List Int
 |[]=>[n]
 |m::r=>if n≤m then n::m::r else m::insI n r
noncomputable def zg7:List Int→List Int
 |[]=>[]
 |n::r=>insI n (zg7 r)
theorem zab7 (n:Int):∀r:List Int,(insI n r).Perm (n::r)
 |[]=>List.Perm.refl _
 |m::r=>by
  unfold insI
  split
  ·exact List.Perm.refl _
  ·exact (List.Perm.cons m (zab7 n r)).trans (List.Perm.swap n m r)
theorem zf0:∀r:List Int,(zg7 r).Perm r
 |[]=>List.Perm.refl _
 |n::r=>(zab7 n _).trans (List.Perm.cons n (zf0 r))
theorem zab6 (n:Int):∀r:List Int,r.Pairwise (·≤·)→(insI n r).Pairwise (·≤·)
 |[],_=>by simp [insI]
 |m::r,h=>by
  unfold insI
  have hc:=zbv3.mp h
  split
  ·rename_i hle
   refine zbv3.mpr ⟨fun x hx=>?_,h⟩
   rcases zbn5.mp hx with rfl | z
   ·exact hle
   ·exact zbw7 hle (hc.1 x z)
  ·rename_i hle
   refine zbv3.mpr ⟨fun x hx=>?_,zab6 n r hc.2⟩
   rcases zbn5.mp ((zab7 n r).mem_iff.mp hx) with rfl | z
   ·lia
   ·exact hc.1 x z
theorem zl1:∀r:List Int,(zg7 r).Pairwise (·≤·)
 |[]=>List.Pairwise.nil
 |n::r=>zab6 n _ (zl1 r)
theorem zp2:∀ {xs ys:List Int},xs.Perm ys→xs.Pairwise (·≤·)→ys.Pairwise (·≤·)→xs=ys
 |[],ys,p,_,_=>(List.Perm.nil_eq p)
 |x::xs,[],p,_,_=>absurd p.length_eq (by simp)
 |x::xs,y::ys,p,h1,h2=>by
  have c1:=zbv3.mp h1
  have c2:=zbv3.mp h2
  have e:x=y:=by
   have m1:x∈y::ys:=p.mem_iff.mp (zbn1 ..)
   have m2:y∈x::xs:=p.mem_iff.mpr (zbn1 ..)
   have l1:y≤x:=by rcases zbn5.mp m1 with z | z;lia;exact c2.1 x z
   have l2:x≤y:=by rcases zbn5.mp m2 with z | z;lia;exact c1.1 y z
   lia
  subst e
  rw [zp2 (List.Perm.cons_inv p) c1.2 c2.2]
theorem zan9:zp0 X (.builtin "sorted") (fun xs H Q => ∃(p:Addr) (ns:List Int),xs=[.ref p]∧SqL X.K H p (ns.map V.int)∧ns.length<64∧∀l,H l=none→Q (.ref l) (upd H l (.lst ((zg7 ns).map V.int)))):=by
 intro pins s σ H xs us Q I r h
 obtain⟨p,ns,rfl,hs,h64,q⟩:=h
 obtain⟨u,rfl,ru⟩:=zy3 r
 cases ru
 obtain⟨its,rv,pl,_⟩:=I.list hs
 have hi:IntsAre its ns:=zl8 rv
 have hl:=hi.length
 refine sorted_ints (PlainL.isL pl) hi (by lia) fun out ns' hI hp ho=>?_
 have e:ns'=zg7 ns:=zp2 (hp.trans (zf0 ns).symm) ho (zl1 ns)
 subst e
 obtain⟨k,ek⟩:=sortedAll_at s.heap its out
 have fr:s.heap.objs.size≤s.heap.objs.size+1:=zcc2 _
 refine⟨.ref _,_,I.laid (o:=HO.lst ((zg7 ns).map V.int)) (t':=s.toks) (fun b o e=>sortedAll_old e) fr ⟨?_,out.toList,k,zv1 hI,by simpa [seqObj] using ek⟩,rfl,q _ (I.hok.fresh fr)⟩
 refine le_line ?_
 rw [zbo0,(zf0 ns).length_eq];lia
noncomputable def zae4:List Ev→Option Ev:=fun rs=>match rs with
 |[r]=>(match r.d with
  |.lst ds=>(zl3 ds).bind fun ns=>if ns.length<64 then some (.nw ((zg7 ns).map D.int)) else none
  |_=>none)
 |_=>none
theorem zax8:CallD X F (.builtin "sorted") zae4:=CallD.of zan9 fun H0 H A xs rs e Q m g q ek hq=>by
 unfold zae4 at ek
 split at ek
 case h_2=>cases ek
 cases q with
 |cons q1 q2 =>
  cases q2
  split at ek
  case h_2=>cases ek
  rename_i ds z
  cases e1:zl3 ds with
  |none=>rw [e1]at ek;cases ek
  |some ns =>
   rw [e1]at ek
   simp only [zbn0]at ek
   split at ek
   case isFalse=>cases ek
   rename_i c
   cases ek
   have p:=q1.full
   rw [z,zn4 e1]at p
   cases p with
   |lst h1 h2 =>
    rw [zg8 h2]at h1
    exact⟨_,ns,rfl,h1,c,fun l hl=>hq _ _ (zd2 hl) ⟨l,_,rfl,Same.free g hl,zc1,Reps.ints _⟩⟩
end
end DL
namespace DL
open PySem.Spec L2
section
variable {X:Cx}{F:List Addr}{a b c o:Expr}{es:List Expr}{fa fb fc:DE}{ga:DA}{pos:Pos}
theorem zan4 {xs ns:List Int} (p:xs.Perm ns) (h:xs.Pairwise (· ≥ ·)):xs=(zg7 ns).reverse:=by
 have h1:xs.reverse.Pairwise (·≤·):=List.pairwise_reverse.mpr h
 have h2:xs.reverse.Perm (zg7 ns):=(List.reverse_perm xs).trans (p.trans (zf0 ns).symm)
 have:=zp2 h2 h1 (zl1 ns)
 rw [← this,List.reverse_reverse]
noncomputable def zae3:List Ev→Option Ev:=fun rs=>match rs with
 |[r]=>(match r.d with
  |.lst ds=>(zl3 ds).bind fun ns=>if ns.length<64 then some (.nw ((zg7 ns).reverse.map D.int)) else none
  |_=>none)
 |_=>none
theorem zaq1 {p0 kp kp2:Pos}{j} (hg:Gl X "sorted") (hm:X.mg "sorted"=none) (ha:PE X a (dE X.K F fa)) (hst:zbo8 [a] X.env=[(false,eval a X.env)]:=by rfl)
  (he:zbu1 pos (zbo8 [a] X.env)=(false,eval a X.env)::zbu1 pos (zbo8 [] X.env):=by rfl) (hplain:(zbu1 pos (zbo8 [a] X.env)).any (·.1)=false:=by rfl)
  (hall:(backToKw pos (keywordEach [⟨some "reverse",.Constant (.bool true) j kp2,kp⟩] X.env)).all (·.1.isSome)=true:=by rfl) (hkw:(backToKw pos (keywordEach [⟨some "reverse",.Constant (.bool true) j kp2,kp⟩] X.env)).any (·.1.isNone)=false:=by rfl) :
  PE X (.Call (.Name "sorted" p0) [a] [⟨some "reverse",.Constant (.bool true) j kp2,kp⟩] pos) (dE X.K F (dT1 zae3 (za2 fa dNil))):=by
 intro pins s σ H Q I h
 obtain⟨A,t,r,R,e,h⟩:=h
 unfold dT1 za2 dNil at e
 cases e1:fa t with
 |none=>rw [e1]at e;cases e
 |some r1 =>
  rw [e1]at e
  simp only [zbn0]at e
  unfold zae3 at e
  simp only at e
  split at e
  case h_2=>cases e
  rename_i ds z
  cases e2:zl3 ds with
  |none=>rw [e2]at e;cases e
  |some ns =>
   rw [e2]at e
   simp only [zbn0]at e
   split at e
   case isFalse=>cases e
   rename_i c
   cases e
   refine wpAny_Call_Name_kw (zr5 I hg hm boot_sorted (callWith_kw (env:=X.env) ?_ he hplain hall hkw))
   refine thn ((zh0 ha zm1 hst) pos pins s σ H (fun vs H1 => ∃x,vs=[x]∧Same H H1∧RepEv X.K F A H H1 r1 x) I ⟨A,t,r1,R,e1,fun x H1 gs q=>⟨x,rfl,gs,q⟩⟩) fun us s1 ⟨vs,H1,I1,rv,x,ex,gs,q⟩=>?_
   subst ex
   obtain⟨u,rfl,ru⟩:=rv.one
   have p:=q.full
   rw [z,zn4 e2]at p
   cases p with
   |@lst _ l ws h1 h2 =>
    rw [zg8 h2]at h1
    cases ru
    refine kws_cons (Constant_bool (kws_nil ?_))
    show wpAny (model X.prog X.w) X.A (call (.builtin "sorted") [.ref l] [(Str.ofString "reverse",.bool true)]) (EP X pins σ Q) X.xe s1
    obtain⟨its,rw1,pl,_⟩:=I1.list h1
    have hi:IntsAre its ns:=zl8 rw1
    have hl:=hi.length
    refine sorted_ints_rev (PlainL.isL pl) hi (by lia) fun out ns' hI hp ho=>?_
    have e:ns'=(zg7 ns).reverse:=zan4 hp ho
    subst e
    obtain⟨k,ek⟩:=sortedAll_at s1.heap its out
    have fr:s1.heap.objs.size≤s1.heap.objs.size+1:=zcc2 _
    have hn:=I1.hok.fresh fr
    refine⟨.ref _,_,I1.laid (o:=HO.lst ((zg7 ns).reverse.map V.int)) (t':=s1.toks) (fun b o e=>sortedAll_old e) fr ⟨?_,out.toList,k,zv1 hI,by simpa [seqObj] using ek⟩,rfl,?_⟩
    ·refine le_line ?_
     rw [zbo0,zbu7,(zf0 ns).length_eq];lia
    ·exact h _ _ (gs.trans (zd2 hn)) ⟨_,_,rfl,Same.free gs hn,zc1,Reps.ints _⟩
end
end DL
namespace DL
open PySem.Spec L2
section
variable {X:Cx}{F:List Addr}{a b c o:Expr}{es:List Expr}{fa fb fc:DE}{ga:DA}{pos:Pos}
noncomputable def kRev:Ev→Option Ev:=fun r=>match r.d with
 |.lst ds=>if r.ok||flats ds then some (.nw ds.reverse) else none
 |_=>none
theorem Reps.rev {K:zbm7}{H:Hp}:∀ {ds:List D}{vs:List V},Reps K H ds vs→Reps K H ds.reverse vs.reverse
 |_,_,.nil=>.nil
 |_,_,.cons h r=>by rw [zbv7,zbv7];exact (Reps.rev r).app (Reps.one h)
theorem ped_rev {p2 p3 p4:Pos}{j} (ha:PE X a (dE X.K F fa)):PE X (.Subscript a (.Slice none none (some (.UnaryOp .USub (.Constant (.int 1) j p3) p4)) p2) pos) (dE X.K F (d1 kRev fa)):=by
 intro pins s σ H Q I h
 obtain⟨A,t,r,R,e,h⟩:=h
 unfold d1 at e
 cases e1:fa t with
 |none=>rw [e1]at e;cases e
 |some r1 =>
  rw [e1]at e
  have e:kRev r1=some r:=e
  unfold kRev at e
  split at e
  case h_2=>cases e
  rename_i ds z
  split at e
  case isFalse=>cases e
  rename_i ok
  cases e
  refine Subscript_ (thn (ha pins s σ H (fun x H1=>Same H H1∧RepEv X.K F A H H1 r1 x) I ⟨A,t,r1,R,e1,fun x H1 gs q=>⟨gs,q⟩⟩) fun v s1 ⟨x,H1,I1,rx,gs,q⟩=>?_)
  obtain⟨p,vs,rfl,h1,h2⟩:=q.items R.mu gs z ok
  cases rx
  refine wpAny_Slice ?_
  rw [evalPart_none]
  refine zbp3 (zbp3 ?_)
  rw [evalPart_some]
  refine thn ((zaq2 (F:=F) (za6 (i:=1))) pins s1 σ H1 (fun y H2=>y=.int (-1)∧H2=H1∨(y=.int (-1)∧Same H1 H2)) I1 ⟨A,t,.cl (.int (-1)),R.grow gs,rfl,fun y H2 gs2 q2=>.inr ⟨ze7 q2.full,gs2⟩⟩) fun u s2 ⟨y,H2,I2,ry,qy⟩=>?_
  have gs2:Same H1 H2:=by rcases qy with ⟨_,e⟩ | ⟨_,e⟩;rw [e];exact Same.refl _;exact e
  have ey:y=.int (-1):=by rcases qy with ⟨e,_⟩ | ⟨e,_⟩<;>exact e
  subst ey
  obtain⟨tk,rfl⟩:=ry
  obtain⟨its,rv,pl,hz⟩:=I2.list (SqL.mono gs2 h1)
  have I3:L2.Inv X pins σ H2 { s2 with heap:=s2.heap.push { cls:=.type "slice",data:=.fields #[.none,.none,.int (-1) tk] } }:=I2.kept (t':=s2.toks) fun b ob q=>zbn8 _ q
  have hl:=PlainL.isL pl
  show wpAny (model X.prog X.w) X.A (subscriptTail a (.Slice none none (some (.UnaryOp .USub (.Constant (.int 1) j p3) p4)) p2) (.ref p) (.ref s2.heap.objs.size)) (EP X pins σ Q) X.xe { s2 with heap:=s2.heap.push { cls:=.type "slice",data:=.fields #[.none,.none,.int (-1) tk] } }
  refine tail_any (ops:=[.ref p,.ref s2.heap.objs.size]) (hl.push _).typeIs slot_list_getitem.lookup (wpAny_getItem_list_slice (hl.push _) (Heap.IsSliceOf.new ..) .none .none (.int (-1) tk) (by simp) ?_ ?_) (by with_unfolding_all rfl)
  ·have l1:=rv.length
   have hn:=I3.fresh
   refine⟨.ref _,_,?_,rfl,h _ _ ((gs.trans gs2).trans (zd2 hn)) ⟨_,vs.reverse,rfl,Same.free (gs.trans gs2) hn,zc1,Reps.mono (zi6 hn) (Reps.mono (zb6 gs2) h2).rev⟩⟩
   refine I3.laid (o:=HO.lst vs.reverse) (t':=s2.toks) (fun b ob q=>zbn8 _ q) (zbp4 _) ⟨by rw [zbu7];exact hz,its.reverse,0,rv.reverse,?_⟩
   rw [PySem.W.krv_pick]
   exact zbp5 _ rfl
  ·rw [zbo4, ← rv.length];exact hz
end
end DL
namespace DL
open PySem.Spec L2
section
variable {X:Cx}{F:List Addr}{a b c o:Expr}{es:List Expr}{fa fb fc:DE}{ga:DA}{pos:Pos}
noncomputable def dChV (k k':Ev→Ev→Option Ev) (fa fb fc:DE):DE:=fun t=>(dCh k k' fa fb fc t).map fun z=>.cl (.bl z)
theorem zak8 {op op':CmpOp}{k k':Ev→Ev→Option Ev} (ho:OpD X F (compareOp op) k) (ho':OpD X F (compareOp op') k') (ha:PE X a (dE X.K F fa)) (hb:PE X b (dE X.K F fb)) (hc:PE X c (dE X.K F fc))
  (hm:lastMarks [op,op'] [b,c]=false:=by with_unfolding_all rfl):PE X (.Compare a [op,op'] [b,c] pos) (dE X.K F (dChV k k' fa fb fc)):=by
 intro pins s σ H Q I h
 obtain⟨A,t,rr,R,e,h⟩:=h
 refine pe_chain (ho.toR A H) (ho'.toR A H) ha hb hc hm pins s σ H Q I ?_
 unfold dChV dCh at e
 cases e1:fa t with
 |none=>rw [e1]at e;cases e
 |some r1 =>
  cases e2:fb t with
  |none=>rw [e1,e2]at e;cases e
  |some r2 =>
   cases e3:k r1 r2 with
   |none=>rw [e1,e2]at e;simp only [zbn0,e3]at e;cases e
   |some r =>
    rw [e1,e2]at e
    simp only [zbn0,e3]at e
    refine⟨A,t,r1,R,e1,fun x H1 gs1 q1=>⟨A,t,r2,R.grow gs1,e2,fun y H2 gs2 q2=>?_⟩⟩
    have gs:=gs1.trans gs2
    refine⟨R.mu,gs,r1,r2,r,q1.mono gs2,q2.back gs1,e3,fun z H3 gs3 q3=>?_⟩
    have p:=q3.full
    split at e
    ·rename_i zz
     rw [zz]at p
     cases p
     refine⟨true,rfl,iteT ?_⟩
     cases e4:fc t with
     |none=>rw [e4]at e;cases e
     |some r3 =>
      rw [e4]at e
      simp only [zbn0]at e
      cases e5:k' r2 r3 with
      |none=>rw [e5]at e;cases e
      |some r' =>
       rw [e5]at e
       simp only [zbn0]at e
       refine⟨A,t,r3,(R.grow gs).grow gs3,e4,fun w H4 gs4 q4=>⟨R.mu,(gs.trans gs3).trans gs4,r2,r3,r',(q2.back gs1).mono (gs3.trans gs4),q4.back (gs.trans gs3),e5,fun z2 H5 gs5 q5=>?_⟩⟩
       have p5:=q5.full
       split at e
       ·rename_i z3 zz3
        cases e
        rw [zz3]at p5
        cases p5
        exact h _ H5 (((gs.trans gs3).trans gs4).trans gs5) (.bl _)
       ·cases e
    ·rename_i zz
     rw [zz]at p
     cases p
     cases e
     exact⟨false,rfl,iteF (h _ H3 (gs.trans gs3) (.bl _))⟩
    ·cases e
end
end DL
namespace L2
open PySem.W
noncomputable def bndS:Nat:=2 ^ 1048576
theorem zad8:∀ {ns:List Int}{n:Int},n∈ns→WData.weight (.int n)≤WData.weightAll (ns.map WData.int)
 |m::r,n,h=>by
  rw [zbn7]
  unfold WData.weightAll
  rcases zbn5.mp h with rfl | z
  ·lia
  ·have:=zad8 z;lia
theorem bnd_of {ns:List Int} (h:WData.layableAll [WData.list (ns.map WData.int)]=true):∀n∈ns,n.natAbs<bndS:=fun n hn=>by
 have h1:WData.layable (WData.list (ns.map WData.int))=true:=by simpa [WData.layableAll] using h
 have h2:WData.weight (WData.list (ns.map WData.int))≤2 ^ 20:=by
  unfold WData.layable at h1
  simp only [zbo2,decide_eq_true_eq]at h1
  exact h1.2
 have h3:WData.weight (.int n)≤2 ^ 20:=by
  refine zbs6 (zad8 hn) ?_
  have e:WData.weight (WData.list (ns.map WData.int))=WData.weightAll (ns.map WData.int):=by simp [WData.weight]
  rw [← e];exact h2
 by_cases z:n=0
 ·subst z;unfold bndS;exact Nat.pow_pos (by decide)
 ·have h4:n.natAbs.log2+1≤2 ^ 20:=by
   have:WData.weight (.int n)=n.natAbs.log2+1:=by simp [WData.weight,z]
   rw [← this];exact h3
  have h5:n.natAbs.log2<1048576:=by lia
  exact (Nat.log2_lt (by lia)).mp h5
end L2
namespace DL
open PySem.Spec L2
section
variable {X:Cx}{F:List Addr}{a b c o:Expr}{es:List Expr}{fa fb fc:DE}{ga:DA}{pos:Pos}
theorem zay1:∀ {xs:List V}{us:List Value} (k:Nat),Vals xs us→Vals (xs.eraseIdx k) (us.eraseIdx k):=fun k r=>r.eraseIdx k
theorem zaw8 (n:Int):∀ns:List Int,ns.eraseIdx (ns.idxOf n)=ns.erase n
 |[]=>rfl
 |m::ns=>by
  by_cases h:m=n
  ·subst h;simp [List.idxOf_cons]
  ·have h':(m == n)=false:=by simpa using h
   simp [List.idxOf_cons,h',List.erase_cons,zaw8 n ns]
theorem map_erase_ix {α β:Type} (f:α→β):∀(xs:List α) (k:Nat),(xs.map f).eraseIdx k=(xs.eraseIdx k).map f
 |[],_=>rfl
 |_::_,0=>rfl
 |x::xs,k+1=>by simp [map_erase_ix f xs k]
noncomputable def rRemove:V→List V→Hp→VK→Prop:=fun x vs H Q => ∃(l:Addr) (ns:List Int) (n:Int),x=.ref l∧vs=[.int n]∧H l=some (.lst (ns.map V.int))∧n∈ns∧Q .non (upd H l (.lst ((ns.erase n).map V.int)))
theorem zbf3:MtM X "list.remove" rRemove:=by
 intro pins s σ H x vs v us Q I rx rv h
 obtain⟨l,ns,n,rfl,rfl,hH,hn,q⟩:=h
 cases rx
 obtain⟨u,rfl,ru⟩:=rv.one
 obtain⟨t,rfl⟩:=ru
 obtain⟨z,its,m,r,hl,e⟩:=I.lstM hH
 have hi:IntsAre its ns:=zl8 r
 have hlen:=hi.length
 have hj:ns.idxOf n<ns.length:=List.idxOf_lt_length_iff.mpr hn
 refine call_meets zby7 ⟨_,e,rfl⟩ PySem.F.entry_list_remove (PySem.F.args_list_remove_2 _ _)
  (MeetsSeq.list_remove l its.toArray m (.int n t) (isInt n) (fun y hy=>eq_isInt n t hi y (by simpa using hy)) (ns.idxOf n) (by simpa [hlen] using hj) ?_ ?_ ?_) ⟨e,?_⟩
 ·show isInt n its[ns.idxOf n]=true
  rw [isInt_at n hi _ (by lia) hj]
  simpa using List.getElem_idxOf hj
 ·intro j hjs hlt
  show isInt n its[j]=false
  rw [isInt_at n hi j (by simpa using hjs) (by lia)]
  exact ne_of_lt_idxOf hlt _
 ·rw [zbo4];simp at z hl;lia
 ·refine⟨.non,_,I.lset (its':=its.eraseIdx (ns.idxOf n)) hH e ?_ (?_:Vals ((ns.erase n).map V.int) _) ?_,rfl,q⟩
  ·show its.toArray.eraseIdxIfInBounds _=_
   rw [zbu2]
  ·have:=zay1 (ns.idxOf n) r
   rw [map_erase_ix,zaw8]at this
   exact this
  ·have:=zbs3 hn
   simp at z ⊢
   lia
noncomputable def kRem (t:Th) (i:Nat) (r:Ev):Option Out:=match t[i]?,r.d with
 |some (.own xs),.int n=>(zl3 xs).bind fun ns=>if ns.contains n then some (.nx (t.set i (.own ((ns.erase n).map D.int)))) else none
 |_,_=>none
noncomputable def dRem (i:Nat) (f:DE):DS:=fun t=>(f t).bind (kRem t i)
theorem psd_rem (i:Nat) {x:Str}{p0 apos cpos:Pos} (he:PE X a (dE X.K F fa)) (hN:X.N[i]?=some x:=by rfl) (hv:Vis X.env.scope x:=by first | exact Or.inl rfl | exact Or.inr (Or.inl rfl) |exact Or.inr (Or.inr rfl)) (hd:(x ==("__debug__":Str))=false:=by decide)
  (hcd:(x ==("__classdict__":Str))=false:=by decide) (hst:zbo8 [a] X.env=[(false,eval a X.env)]:=by rfl)
  (hbase:attributeBase (.Name x p0) "remove" X.env (eval (.Name x p0) X.env)=eval (.Name x p0) X.env:=by rfl)
  (hfew:((zbu1 cpos (zbo8 [a] X.env)).all (fun x=>!x.1)&&(backToKw cpos (keywordEach [] X.env)).all (fun x=>x.1.isSome)
   && decide ([a].length+([]:List Keyword).length+(if ([]:List Keyword).isEmpty then 0 else 1)<30))=true:=by rfl)
  (hline:(apos.endLine == cpos.line)=true:=by rfl) (hplain:(zbu1 cpos (zbo8 [] X.env)).any (·.1)=false:=by rfl)
  (hsw:swapsWith (.Call (.Attribute (.Name x p0) "remove" apos) [a] [] cpos) none pos.line X.env=pure false:=by rfl) :
  PS X (.Expr (.Call (.Attribute (.Name x p0) "remove" apos) [a] [] cpos) pos) (dS X.K F (dRem i fa)):=by
 refine PS.imp (zaa7 (zaz5 zbr3 zby7 PySem.F.type_list_remove zbf3 (zq7 (i:=i) hN hv hd hcd) (zh0 he zm1 hst) hbase hfew hline hst hplain) hsw) ?_
 rintro E σ H ⟨A,t,o,R,e,h⟩
 unfold dRem at e
 cases e1:fa t with
 |none=>rw [e1]at e;cases e
 |some r =>
  rw [e1]at e
  have e:kRem t i r=some o:=e
  unfold kRem at e
  split at e
  case h_2=>cases e
  rename_i xs n z zr
  cases e3:zl3 xs with
  |none=>rw [e3]at e;cases e
  |some ns =>
   rw [e3]at e
   simp only [zbn0]at e
   split at e
   case isFalse=>cases e
   rename_i ok
   simp only [List.contains_iff_mem]at ok
   cases e
   obtain⟨p,vs,a1,a2,a3,a4⟩:=R.rel.getOwn z
   rw [zn4 e3]at a4
   have a5:=zg8 a4
   subst a5
   refine⟨_,a1,.inl ⟨rfl,_,SqL.of a3⟩,A,t,r,R,e1,fun y H1 gs q=>⟨p,ns,n,rfl,?_,gs _ _ a3,ok,?_⟩⟩
   ·have p1:=q.full
    rw [zr]at p1
    cases ze7 p1
    rfl
   ·obtain⟨R',g'⟩:=(R.grow gs).write (es:=(ns.erase n).map D.int) (ws:=(ns.erase n).map V.int) z a1 (Reps.ints _)
    exact h _ _ _ ((Gr.of_same R.mu.left gs).trans g') R'
theorem Reps.erase {K:zbm7}{H:Hp}:∀ {ds:List D}{vs:List V} (j:Nat),Reps K H ds vs→Reps K H (ds.eraseIdx j) (vs.eraseIdx j)
 |_,_,_,.nil=>.nil
 |_,_,0,.cons _ rs=>rs
 |_,_,j+1,.cons r rs=>.cons r (Reps.erase j rs)
end
end DL
namespace DL
open PySem.Spec L2
noncomputable def spM (K:zbm7) (G:List D→Option Ev):Sp:=fun vs H Q _ => ∃(Fo:List Addr) (p:Addr) (ws vs':List V) (xs ds:List D) (d:D),vs=.ref p::vs'∧Lists H (p::Fo)∧p∉Fo∧H p=some (.lst ws)∧Reps K (hide (p::Fo) H) xs ws∧Reps K (hide (p::Fo) H) ds vs'∧G (.lst xs::ds)=some (.cl d)∧scD d=true ∧
 ∀v H',(∀b o,b≠p→H b=some o→H' b=some o)→H' p≠none→(∀Hx,Rep K Hx d v)→Q v H'
structure CalM (P:Program) (w:World) (K:zbm7) (mg:Str→Option Value) (base:BHeap) (x:Str) (k:Nat) (G:List D→Option Ev):Prop where
 ex:∃(a:Addr) (fd:FuncData) (ps:List Str),mg x=some (.ref a)∧zbs0 K (.ref a)=true∧L2.Binds K fd ps []∧FnOk P w K mg base CX0 k a fd ps (spM K G)
noncomputable def sV:D→V
 |.bl b=>.bl b
 |.int i=>.int i
 |.str x=>.str x
 |_=>.non
noncomputable def keyD:D→Option Key
 |.int i=>some (Sum.inl i)
 |.str x=>some (Sum.inr x)
 |_=>none
theorem zak3 {K:zbm7}{H:Hp}{d:D}{v:V} (r:Rep K H d v) (s:scD d=true):v=sV d:=by
 cases r with
 |non=>rfl
 |bl b=>rfl
 |int i=>rfl
 |str x=>rfl
 |tup _ _=>cases s
 |lst _ _=>cases s
 |dct _ _ _=>cases s
 |pdc _=>cases s
theorem sc_rep {K:zbm7}{H:Hp}:∀ {d:D},scD d=true→Rep K H d (sV d)
 |.non,_=>.non
 |.bl b,_=>.bl b
 |.int i,_=>.int i
 |.str x,_=>.str x
 |.tup _,s=>by cases s
 |.lst _,s=>by cases s
 |.dct _ _,s=>by cases s
 |.pdc _,s=>by cases s
theorem sc_flatD:∀ {d:D},scD d=true→flat d=true
 |.non,_=>rfl
 |.bl b,_=>rfl
 |.int i,_=>rfl
 |.str x,_=>rfl
 |.tup _,s=>by cases s
 |.lst _,s=>by cases s
 |.dct _ _,s=>by cases s
 |.pdc _,s=>by cases s
theorem zbd3 {K:zbm7}{H:Hp}:∀ {ds:List D}{vs:List V},Reps K H ds vs→ds.all scD=true→vs=ds.map sV
 |_,_,.nil,_=>rfl
 |_,_,.cons h r,s=>by
  simp only [zbq5,zbo2]at s
  rw [zak3 h s.1,zbd3 r s.2];rfl
theorem zag0 {K:zbm7}{H0 H:Hp}:∀ {ds:List D}{vs:List V}{B:List Addr},RepDs K H0 H ds vs B→ds.all scD=true→vs=ds.map sV∧B=[]
 |_,_,_,.nil,_=>⟨rfl,rfl⟩
 |_,_,_,.cons h r,s=>by
  simp only [zbq5,zbo2]at s
  obtain⟨a,b⟩:=zag0 r s.2
  subst a b
  cases h with
  |flat f q=>rw [zak3 q s.1];exact⟨rfl,rfl⟩
  |tup _ _=>exact absurd s.1 (by simp [scD])
  |lst _ _=>exact absurd s.1 (by simp [scD])
  |dct _ _ _=>exact absurd s.1 (by simp [scD])
  |pdc _=>exact absurd s.1 (by simp [scD])
theorem zy8 {K:zbm7}{H0 H:Hp}:∀ {ds:List D},ds.all scD=true→RepDs K H0 H ds (ds.map sV) []
 |[],_=>.nil
 |d::ds,s=>by
  simp only [zbq5,zbo2]at s
  exact .cons (B:=[]) (C:=[]) (.flat (sc_flatD s.1) (sc_rep s.1)) (zy8 s.2)
theorem RS.placeD {K:zbm7}{F A:List Addr}{H:Hp}{t:Th}{σ:L2.St}{i:Nat}{ks:List Key}{ds:List D} (R:RS K F H A t σ) (e:t[i]?=some (.dp (.dct ks ds))) (sc:ds.all scD=true) :
  ∃p,σ[i]?=some (some (.ref p))∧p∈A∧ks.length=ds.length∧H p=some (.dK (mkKV ks (ds.map sV))) ∧
   ∀H1 ks2 ds2,Same H H1→ks2.length=ds2.length→ds2.all scD=true →
    ∃A2,RS K F (L2.upd H1 p (.dK (mkKV ks2 (ds2.map sV)))) A2 (t.set i (.dp (.dct ks2 ds2))) σ∧Gr A H A2 (L2.upd H1 p (.dK (mkKV ks2 (ds2.map sV)))):=by
 obtain⟨v,B,a1,a2,a3,a4,a5⟩:=R.rel.focusDp R.nd e
 cases a4 with
 |flat f _=>simp [flat]at f
 |@dct _ _ p vs B' l h r =>
  obtain⟨rfl,rfl⟩:=zag0 r sc
  have pA:p∈A:=a2 p (by simp)
  refine⟨p,a1,pA,by simpa using l,h,fun H1 ks2 ds2 gs l2 sc2=>?_⟩
  have hh:Same (hide (A++F) H) (hide (A++F) (L2.upd H1 p (.dK (mkKV ks2 (ds2.map sV))))):=fun b o q=>by
   obtain⟨n,q⟩:=zk4 q
   have nb:b≠p:=fun z=>n (zbm8 _ (z ▸ pA))
   exact zd1 (by rw [zc8 nb];exact gs _ _ q) n
  obtain⟨A2,d1,d3⟩:=a5 _ _ (.dct ks2 ds2) [p] hh (.dct (by simpa using l2) zc1 (zy8 sc2)) (List.Sublist.refl _) (fun q hq nq o w=>by rw [zc8 (by simpa using nq)];exact gs _ _ w)
  have sub:∀x∈A2,x∈A:=fun x hx=>d3.subset hx
  have mu:Lists (L2.upd H1 p (.dK (mkKV ks2 (ds2.map sV)))) (A++F):=fun q hq=>by
   by_cases z:q=p
   ·exact⟨mD _,by rw [z];exact zc1⟩
   ·obtain⟨us,w⟩:=R.mu q hq
    exact⟨us,by rw [zc8 z];exact gs _ _ w⟩
  refine⟨A2,⟨fun q hq=>mu q ?_,R.nd.sublist d3,fun q hq=>R.dj q (sub q hq),RSl.mono (zb5 _ fun a z=>?_) d1 fun _ _ _ h=>h⟩,fun b o n h=>?_,fun b hb=>?_,fun b hb=>.inl (sub b hb)⟩
  ·exact (zbn2.mp hq).elim (fun z=>zbm8 _ (sub q z)) (fun z=>zbm6 _ z)
  ·exact (zbn2.mp z).elim (fun z=>zbm8 _ (sub a z)) (fun z=>zbm6 _ z)
  ·rw [zc8 (fun z=>n (by rw [z];exact pA))];exact gs _ _ h
  ·obtain⟨us,w⟩:=mu b (zbm8 _ hb)
   rw [w];simp
noncomputable def zy5:List Key→List D→Key→Option D
 |k'::ks,d::ds,k=>if k'=k then some d else zy5 ks ds k
 |_,_,_=>none
noncomputable def hasK (ks:List Key) (k:Key):Bool:=ks.any fun k'=>decide (k'=k)
noncomputable def zv7 (ks:List Key) (ds:List D) (k:Key) (d:D):List Key×List D :=
 if hasK ks k then (ks,zcb4 (fun k' d'=>if k'=k then d else d') ks ds) else (ks++[k],ds++[d])
theorem zat7 (k:Key):∀ {ks:List Key}{ds:List D},ks.length=ds.length→valV (mkKV ks (ds.map sV)) k=(zy5 ks ds k).map sV
 |[],[],_=>rfl
 |k'::ks,d::ds,h=>by
  have i:=zat7 k (ks:=ks) (ds:=ds) (by simpa using h)
  unfold mkKV at i ⊢
  simp only [zbn7,zbs5,zy5]
  by_cases e:k'=k
  ·rw [zv2 (p:=(k',sV d)) e,if_pos e];rfl
  ·rw [zv3 (p:=(k',sV d)) e,if_neg e,i]
 |[],_::_,h=>by simp at h
 |_::_,[],h=>by simp at h
theorem zas1 (k:Key):∀ {ks:List Key}{vs:List V},ks.length=vs.length→(valV (mkKV ks vs) k).isSome=hasK ks k
 |[],[],_=>rfl
 |k'::ks,d::ds,h=>by
  have i:=zas1 k (ks:=ks) (vs:=ds) (by simpa using h)
  unfold mkKV hasK at i ⊢
  simp only [zbs5,zbx1]
  by_cases e:k'=k
  ·rw [zv2 (p:=(k',d)) e,decide_eq_true e];rfl
  ·rw [zv3 (p:=(k',d)) e,decide_eq_false e,i];rfl
 |[],_::_,h=>by simp at h
 |_::_,[],h=>by simp at h
section
variable {X:Cx}{F:List Addr}{a b c o:Expr}{es:List Expr}{fa fb fc:DE}{ga:DA}{pos:Pos}
noncomputable def kInD (neg:Bool):Ev→Ev→Option Ev:=fun r1 r2=>match r2.d with
 |.dct ks ds=>(keyD r1.d).map fun k=>.cl (.bl (if neg then !hasK ks k else hasK ks k))
 |_=>none
theorem zah0 {K:zbm7}{H:Hp}{d:D}{v:V}{k:Key} (r:Rep K H d v) (e:keyD d=some k):v=kV k:=by
 cases r<;>cases e<;>rfl
theorem zaq8 (hu:X.A.units+64<cLine):OpD X F (compareOp .NotIn) (kInD true):=by
 intro pins s σ H0 H A x y v u Q r1 r2 r I m g0 rx ry q1 q2 e hq
 unfold kInD at e
 split at e
 case h_2=>cases e
 rename_i ks ds z
 cases ek:keyD r1.d with
 |none=>rw [ek]at e;cases e
 |some k =>
  rw [ek]at e
  cases e
  have p1:=zah0 q1.full ek
  have p2:=q2.full
  rw [z]at p2
  cases p2 with
  |@dct _ _ p vs l h1 h2 =>
   subst p1
   cases (show u=Value.ref p from ry)
   refine d_notIn (by lia) I (DGet.k h1) rx fun s' I'=>?_
   rw [zas1 k l]
   exact⟨.bl _,H,I',rfl,hq _ H (Same.refl H) (.bl _)⟩
noncomputable def zam7:List Ev→Option Ev:=fun rs=>match rs with
 |[r]=>(match r.d with
  |.dct ks _=>some (.cl (.int ks.length))
  |_=>none)
 |_=>none
theorem cd_lenD:CallD X F (.builtin "len") zam7:=CallD.of zbl2 fun H0 H A xs rs e Q m g q ek hq=>by
 unfold zam7 at ek
 split at ek
 case h_2=>cases ek
 rename_i r
 split at ek
 case h_2=>cases ek
 rename_i ks ds z
 cases ek
 cases q with
 |cons q1 q2 =>
  cases q2
  have p:=q1.full
  rw [z]at p
  cases p with
  |@dct _ _ p vs l h1 h2 =>
   refine⟨p,_,rfl,h1,?_⟩
   have:(mkKV ks vs).length=ks.length:=by unfold mkKV;rw [zca9];lia
   rw [this]
   exact hq _ H (Same.refl H) (.int _)
theorem put_zip (k:Key) (d:D) {ks:List Key}{ds:List D} (h:ks.length=ds.length):putK (mkKV ks (ds.map sV)) k (sV d)=mkKV (zv7 ks ds k d).1 ((zv7 ks ds k d).2.map sV)∧(zv7 ks ds k d).1.length=(zv7 ks ds k d).2.length:=by
 have ha:(mkKV ks (ds.map sV)).any (fun kv=>decide (kv.1=k))=hasK ks k:=by
  rw [zaf5,zas1 k (by simpa using h)]
 unfold putK zv7
 rw [ha]
 by_cases hc:hasK ks k=true
 ·rw [if_pos hc,if_pos hc]
  refine⟨?_,by simp;lia⟩
  clear hc ha
  unfold mkKV
  induction ks generalizing ds with
  |nil=>simp
  |cons k' ks ih =>
   cases ds with
   |nil=>simp at h
   |cons d' ds =>
    have i:=ih (ds:=ds) (by simpa using h)
    simp only [zbn7,zbs5,zbx2,i]
    by_cases e:k'=k
    ·simp [e]
    ·simp [e]
 ·rw [if_neg hc,if_neg hc]
  refine⟨?_,by simp;lia⟩
  unfold mkKV
  rw [zbs4,List.zip_append (by simpa using h)]
  rfl
theorem put_sc {ks:List Key}{k:Key}{d:D} (sd:scD d=true):∀ {ds:List D},ds.all scD=true→(zv7 ks ds k d).2.all scD=true:=fun {ds} s=>by
 unfold zv7
 split
 ·show (zcb4 _ ks ds).all scD=true
  rename_i hc
  clear hc
  induction ks generalizing ds with
  |nil=>simp
  |cons k' ks ih =>
   cases ds with
   |nil=>simp
   |cons d' ds =>
    simp only [zbq5,zbo2]at s
    simp only [zbx2,zbq5,zbo2]
    refine⟨?_,ih s.2⟩
    split
    ·exact sd
    ·exact s.1
 ·show (ds++[d]).all scD=true
  rw [List.all_append,s]
  simp [sd]
noncomputable def zbh3 (t:Th) (i:Nat) (r k:Ev):Option Out:=match t[i]?,keyD k.d with
 |some (.dp (.dct ks ds)),some kk=>if ds.all scD&&scD r.d&&decide (ks.length<100000) then some (.nx (t.set i (.dp (.dct (zv7 ks ds kk r.d).1 (zv7 ks ds kk r.d).2)))) else none
 |_,_=>none
noncomputable def zba6 (i:Nat) (fk fv:DE):DS:=fun t=>(fv t).bind fun r=>(fk t).bind fun k=>zbh3 t i r k
theorem zav3 (i:Nat) {x:Str}{p0 tpos:Pos} (hu:X.A.units+64<cLine) (hb:PE X b (dE X.K F fb)) (he:PE X a (dE X.K F fa)) (hN:X.N[i]?=some x:=by rfl) (hv:Vis X.env.scope x:=by first | exact Or.inl rfl | exact Or.inr (Or.inl rfl) |exact Or.inr (Or.inr rfl)) (hd:(x ==("__debug__":Str))=false:=by decide)
  (hcd:(x ==("__classdict__":Str))=false:=by decide) (hs:swapsWith a (some (.Subscript (.Name x p0) b tpos)) pos.line X.env=pure false:=by rfl) :
  PS X (.Assign [.Subscript (.Name x p0) b tpos] a pos) (dS X.K F (zba6 i fb fa)):=by
 refine PS.imp (ps_dput (by lia) (zq7 (i:=i) hN hv hd hcd) hb he hs) ?_
 rintro E σ H ⟨A,t,o,R,e,h⟩
 unfold zba6 at e
 cases e1:fa t with
 |none=>rw [e1]at e;cases e
 |some r =>
  cases e2:fb t with
  |none=>rw [e1,e2]at e;cases e
  |some kk =>
   rw [e1,e2]at e
   have e:zbh3 t i r kk=some o:=e
   unfold zbh3 at e
   split at e
   case h_2=>cases e
   rename_i ks ds k z ek
   split at e
   case isFalse=>cases e
   rename_i ok
   simp only [zbo2,decide_eq_true_eq]at ok
   cases e
   obtain⟨p,a1,a2,l,hp,mk⟩:=R.placeD z ok.1.1
   refine⟨A,t,r,R,e1,fun v0 H1 gs1 q1=>⟨_,a1,A,t,kk,R.grow gs1,e2,fun y H2 gs2 q2=>?_⟩⟩
   have gs:=gs1.trans gs2
   have ey:=zah0 q2.full ek
   have ev:=zak3 q1.full ok.1.2
   subst ey ev
   obtain⟨pz,pl⟩:=put_zip k r.d l
   obtain⟨A2,R',g'⟩:=mk H2 _ _ gs pl (put_sc ok.1.2 ok.1.1)
   have hlen:(mkKV ks (ds.map sV)).length<sizeLine:=by
    unfold mkKV
    rw [zca9]
    exact zcc4 (Nat.min_le_left _ _) (zbo7 ok.2 (by rw [sizeLine_eq];decide))
   refine⟨p,_,rfl,DPut.k (gs _ _ hp) hlen,?_⟩
   rw [pz]
   exact h _ _ _ g' R'
end
end DL
namespace DL
open PySem.Spec L2
theorem zaw5 {k:Key}{d:D}:∀ {ks:List Key}{ds:List D},ds.all scD=true→zy5 ks ds k=some d→scD d=true
 |[],ds,_,e=>by simp [zy5]at e
 |_::_,[],_,e=>by simp [zy5]at e
 |k'::ks,d'::ds,s,e=>by
  simp only [zbq5,zbo2]at s
  unfold zy5 at e
  split at e
  ·cases e;exact s.1
  ·exact zaw5 s.2 e
section
variable {X:Cx}{F:List Addr}{a b c o:Expr}{es:List Expr}{fa fb fc:DE}{ga:DA}{pos:Pos}
noncomputable def zah1:Ev→Ev→Option Ev:=fun r1 r2=>match r1.d,keyD r2.d with
 |.dct ks ds,some k=>if ds.all scD then (zy5 ks ds k).map Ev.cl else none
 |_,_=>none
theorem zz1 (hu:X.A.units+64<cLine) (ha:PE X a (dE X.K F fa)) (hb:PE X b (dE X.K F fb)) (hs:NoSl b:=by intro _ _;rfl):PE X (.Subscript a b pos) (dE X.K F (d2 zah1 fa fb)):=by
 refine PE.imp (pe_dget (by lia) ha hb hs) ?_
 intro σ H Q h
 obtain⟨A,t,r1,r2,r,R,e1,e2,e,h,w⟩:=two h
 refine⟨A,t,r1,R,e1,fun x H1 gs1 q1=>⟨A,t,r2,R.grow gs1,e2,fun y H2 gs2 q2=>?_⟩⟩
 have gs:=gs1.trans gs2
 have p1:=(q1.mono gs2).full
 have p2:=q2.full
 unfold zah1 at e
 split at e
 case h_2=>cases e
 rename_i ks ds k z ek
 split at e
 case isFalse=>cases e
 rename_i sc
 cases eg:zy5 ks ds k with
 |none=>rw [eg]at e;cases e
 |some d =>
  rw [eg]at e
  cases e
  rw [z]at p1
  cases p1 with
  |@dct _ _ p vs l h1 h2 =>
   have ev:=zbd3 h2 sc
   subst ev
   have ey:=zah0 p2 ek
   subst ey
   have l':ks.length=ds.length:=by simpa using l
   have hv:=zat7 k (ks:=ks) (ds:=ds) l'
   rw [eg]at hv
   have sd:=zaw5 sc eg
   refine⟨p,sV d,rfl,?_,h _ H2 gs (sc_rep sd)⟩
   have:=DGet.k (k:=k) h1
   rw [hv]at this
   exact this
end
end DL
namespace DL
open PySem.Spec L2
theorem Reach.mono {K:zbm7}{H H':Hp} (g:Same H H') {w:V}:∀ {ns:List Int}{v:V},Reach K H v ns w→Reach K H' v ns w
 |[],v,h=>h
 |n::ns,v,h=>by
  obtain⟨p,vs,x,e,h1,h2,h3⟩:=h
  refine⟨p,vs,x,e,?_,h2,Reach.mono g h3⟩
  rcases h1 with h1 | h1
  ·exact .inl (SqL.mono g h1)
  ·exact .inr (SqT.mono g h1)
theorem zbm2 {j:Nat}{d:D} (hd:scD d=true):∀ {ds:List D}{j:Nat},ds.all scD=true→(ds.set j d).all scD=true
 |[],j,_=>by simp
 |x::ds,0,h=>by
  simp only [zbq5,zbo2]at h
  simp only [List.set_cons_zero,zbq5,hd,h.2,zbv0]
 |x::ds,j+1,h=>by
  simp only [zbq5,zbo2]at h
  simp only [List.set_cons_succ,zbq5,h.1,zbz3]
  exact zbm2 (j:=j) hd h.2
section
variable {X:Cx}{F:List Addr}{a b c o:Expr}{es:List Expr}{fa fb fc:DE}{fs:List DE}{pos:Pos}
noncomputable def kSetP (t:Th) (i:Nat) (ns:List Int) (r k:Ev):Option Out:=match t[i]? with
 |some (.dp d)=>match getP d ns,k.d with
  |some (.lst ds),.int n=>if ds.all scD&&scD r.d then (ixN ds.length n).bind fun j=>(putP d ns (.lst (ds.set j r.d))).map fun d2=>.nx (t.set i (.dp d2)) else none
  |_,_=>none
 |_=>none
noncomputable def zah6 (i:Nat) (fs:List DE) (fk fv:DE):DS:=fun t=>(fv t).bind fun r=>(pthD fs t).bind fun ns=>(fk t).bind fun k=>kSetP t i ns r k
theorem zv8 (i:Nat) {tpos:Pos} (ho:PE X o (plE X.K F i fs)) (hb:PE X b (dE X.K F fb)) (he:PE X a (dE X.K F fa))
  (ha:∀v,assign (.Subscript o b tpos) X.env v=(do
   let ov ← holding [v] (eval o X.env)
   let iv ← holding [v,ov] (eval b X.env)
   standAt tpos
   holding [v,ov,iv] (setItem ov iv v)
   release [v,ov,iv] []):=by intro _;rfl)
  (hs:swapsWithSole [.Subscript o b tpos] a pos.line X.env=pure false:=by rfl) (hw:swappedStores [.Subscript o b tpos] a X.env=pure none:=by rfl)
  (h1:(assignEach [.Subscript o b tpos] X.env).map (·.2)=[assign (.Subscript o b tpos) X.env]:=by rfl) :
  PS X (.Assign [.Subscript o b tpos] a pos) (dS X.K F (zah6 i fs fb fa)):=by
 refine PS.imp (zav4 he (pg_sub ho hb zau4 ha) hs hw h1) ?_
 rintro E σ H ⟨A,t,o',R,e,h⟩
 unfold zah6 at e
 cases e1:fa t with
 |none=>rw [e1]at e;cases e
 |some r =>
 cases e0:pthD fs t with
 |none=>rw [e1,e0]at e;cases e
 |some ns =>
 cases e2:fb t with
 |none=>rw [e1,e0,e2]at e;cases e
 |some kk =>
  rw [e1,e0,e2]at e
  have e:kSetP t i ns r kk=some o':=e
  unfold kSetP at e
  split at e
  case h_2=>cases e
  rename_i d z
  split at e
  case h_2=>cases e
  rename_i ds n z1 z2
  split at e
  case isFalse=>cases e
  rename_i ok
  simp only [zbo2]at ok
  cases e4:ixN ds.length n with
  |none=>rw [e4]at e;cases e
  |some j =>
   rw [e4]at e
   simp only [zbn0]at e
   cases e3:putP d ns (.lst (ds.set j r.d)) with
   |none=>rw [e3]at e;cases e
   |some d2 =>
    rw [e3]at e
    cases e
    obtain⟨v,p,vs1,B1,a1,a2,a3,a4,a5,a6,a7⟩:=R.place z z1
    obtain⟨rfl,rfl⟩:=zag0 a4 ok.1
    refine⟨A,t,r,R,e1,fun y H1 gs1 q1=>⟨A,t,v,ns,.ref p,R.grow gs1,e0,a1,a2.mono gs1,fun H2 gs2=>⟨A,t,kk,(R.grow gs1).grow gs2,e2,fun w H3 gs3 q2=>?_⟩⟩⟩
    have p2:=q2.full
    rw [z2]at p2
    cases ze7 p2
    have ey:=zak3 q1.full ok.2
    subst ey
    have gs:=(gs1.trans gs2).trans gs3
    refine⟨p,_,n,j,rfl,rfl,gs _ _ a3,by rw [zbo0];exact e4,?_⟩
    obtain⟨A2,R2,gr⟩:=a7 H3 (ds.set j r.d) ((ds.set j r.d).map sV) [] d2 gs (fun H' k hh=>zy8 (zbm2 (j:=j) ok.2 ok.1)) (List.nil_sublist _) e3
    rw [zcb5]at R2 gr
    exact h _ _ _ gr R2
end
end DL
namespace DL
open PySem.Spec L2
section
variable {X:Cx}{F:List Addr}{a b c o:Expr}{es:List Expr}{fa fb fc:DE}{ga:DA}{pos pos1:Pos}
noncomputable def spP (G:List (Int×Int)→List Int→Option (List (Int×Int))):Sp:=fun vs H Q _ => ∃(p:Addr) (ps ps':List (Int×Int)) (ns:List Int),vs=.ref p::ns.map V.int∧H p=some (.dT (pkv ps))∧G ps ns=some ps' ∧
 ∀H',(∀b o,b≠p→H b=some o→H' b=some o)→H' p=some (.dT (pkv ps'))→Q .non H'
structure CalP (P:Program) (w:World) (K:zbm7) (mg:Str→Option Value) (base:BHeap) (x:Str) (k:Nat) (G:List (Int×Int)→List Int→Option (List (Int×Int))):Prop where
 ex:∃(a:Addr) (fd:FuncData) (ps:List Str),mg x=some (.ref a)∧zbs0 K (.ref a)=true∧L2.Binds K fd ps []∧FnOk P w K mg base CX0 k a fd ps (spP G)
end
end DL
namespace PySem.SeqAt
open PySem.Spec
noncomputable def fstD (e c:Nat→Bool):List Nat→Bool
 |[]=>false
 |j::r=>if e j then fstD e c r else c j
noncomputable def OpAt (op:CmpOp) (A:Around) (s:zbo3) (a b:Value) (k:Bool):Prop := ∀(prog:Program) (w:World) (E:Value→zbo3→Prop) (Q:Value→zbo3→Prop),Q (.bool k) s→wpAny (model prog w) A (richCompare op a b) Q E s
theorem zay4 (l b:Addr) (items items2:Array Value) (n n2:Nat) (dd dd2:Option Addr) (sl sl2:Array (Option Value)) (e c:Nat→Bool) :
  Meets (Builtin.«tuple.__lt__» ⟨[.ref l,.ref b],[]⟩)
   (fun A R s=>s.heap.get? l=some { cls:=.type "tuple",dict:=dd,data:=.seq items n,slots:=sl }∧s.heap.get? b=some { cls:=.type "tuple",dict:=dd2,data:=.seq items2 n2,slots:=sl2 } ∧
    (∀j (h1:j<items.size) (h2:j<items2.size),EqAt A.in1 s items[j] items2[j] (e j))∧(∀j (h1:j<items.size) (h2:j<items2.size),e j=false→OpAt .Lt A.in1 s items[j] items2[j] (c j))∧items.size=items2.size ∧
    R (.ok (.ret (.bool (fstD e c (zbp2 items.size))))) s) :=
 .of_wp fun prog w A R s h=>by
  obtain⟨hp,g,d,tk,os⟩:=s;obtain⟨hl,hb,he,hcc,hsz,h⟩:=h
  have f2:=AutoSeq1.sub_tuple_tuple
  have hZ:(items.toList.zip items2.toList).length=items.size:=by simp [hsz]
  wp_walk using wpAny_loadPart' hl,wpAny_loadPart' hb,wpAny_forIn_list _ (fun rest b s'=>b.1=none∧s'=⟨hp,g,d,tk,os⟩∧∃i,rest=(items.toList.zip items2.toList).drop i ∧
   R (.ok (.ret (.bool (fstD e c ((zbp2 items.size).drop i))))) ⟨hp,g,d,tk,os⟩) _
  case turn =>
   rintro ⟨y,x⟩ rest b s' ⟨hb',rfl,i,hz,hR⟩
   have hlt:i<(items.toList.zip items2.toList).length:=by
    rcases zby6 i (items.toList.zip items2.toList).length with h' |h'
    ·exact h'
    ·rw [zbt2 h']at hz;cases hz
   have h1:i<items.size:=hZ ▸ hlt
   have h2:i<items2.size:=hsz ▸ h1
   rw [zbp1 hlt]at hz
   injection hz with hyx hrest
   have hy:y=items[i]:=by have:=congrArg Prod.fst hyx;simpa using this
   have hx:x=items2[i]:=by have:=congrArg Prod.snd hyx;simpa using this
   subst hy hx
   have hd:(zbp2 items.size).drop i=i ::(zbp2 items.size).drop (i+1):=by simp [zbp1,h1]
   rw [hd,fstD]at hR
   refine zbn6 (he i h1 h2 prog w _ _ ?_)
   cases hy:e i with
   |true =>
    rw [hy]at hR
    wp_walk
    exact⟨rfl,rfl,i+1,hrest,by simpa using hR⟩
   |false =>
    rw [hy]at hR
    simp only [Bool.not_false,if_true]
    refine zbn6 (wpAny_rule (zbn6 (hcc i h1 h2 hy prog w _ _ ?_)))
    wp_walk
    exact⟨_,rfl,by simpa using hR⟩
  case fin =>
   rintro ⟨b1,b2⟩ s' ⟨hb',rfl,i,hz,hR⟩
   simp only at hb'
   subst hb'
   have hge:items.size≤i:=by
    rcases zby6 i (items.toList.zip items2.toList).length with h' |h'
    ·rw [zbp1 h']at hz;cases hz
    ·exact hZ ▸ h'
   rw [zbt2 (by simpa using hge)]at hR
   wp_walk
   exact⟨_,rfl,by simpa [Builtin.Tuple.tupleCompareSizes,hsz,fstD] using hR⟩
  case h =>
   exact⟨rfl,rfl,0,rfl,by simpa using h⟩
theorem OpAt.tuples_lt {A:Around}{s:zbo3}{l b:Addr}{items items2:Array Value}{e c:Nat→Bool} (hl:s.heap.IsTuple l items) (hb:s.heap.IsTuple b items2) (hu:A.units<cLine) (hsz:items.size=items2.size)
  (he:∀j (h1:j<items.size) (h2:j<items2.size),EqAt A.in1 s items[j] items2[j] (e j)) (hc:∀j (h1:j<items.size) (h2:j<items2.size),e j=false→OpAt .Lt A.in1 s items[j] items2[j] (c j)) :
  OpAt .Lt A s (.ref l) (.ref b) (fstD e c (zbp2 items.size)):=fun prog w E Q h=>by
 obtain⟨⟨cls,dd,data,sl⟩,ho,hc1,n,hd⟩:=id hl
 obtain⟨⟨cls2,dd2,data2,sl2⟩,ho2,hc2,n2,hd2⟩:=id hb
 simp only at hc1 hd hc2 hd2
 subst hc1 hd hc2 hd2
 exact richCompare_meets_room (op:=.Lt) ⟨_,ho,rfl⟩ ⟨_,ho2,rfl⟩ F.slot_tuple_lt F.entry_tuple_lt (F.args_tuple_lt_2 _ _) (zay4 l b items items2 n n2 dd dd2 sl sl2 e c)
  ⟨ho,ho2,he,hc,hsz,show Value.bool _≠Value.notImplemented∧Q (.bool (fstD e c (zbp2 items.size))) s from ⟨(fun x=>nomatch x),h⟩⟩ hu
theorem zay5 (l b:Addr) (items items2:Array Value) (n n2:Nat) (dd dd2:Option Addr) (sl sl2:Array (Option Value)) (e c:Nat→Bool) :
  Meets (Builtin.«tuple.__gt__» ⟨[.ref l,.ref b],[]⟩)
   (fun A R s=>s.heap.get? l=some { cls:=.type "tuple",dict:=dd,data:=.seq items n,slots:=sl }∧s.heap.get? b=some { cls:=.type "tuple",dict:=dd2,data:=.seq items2 n2,slots:=sl2 } ∧
    (∀j (h1:j<items.size) (h2:j<items2.size),EqAt A.in1 s items[j] items2[j] (e j))∧(∀j (h1:j<items.size) (h2:j<items2.size),e j=false→OpAt .Gt A.in1 s items[j] items2[j] (c j))∧items.size=items2.size ∧
    R (.ok (.ret (.bool (fstD e c (zbp2 items.size))))) s) :=
 .of_wp fun prog w A R s h=>by
  obtain⟨hp,g,d,tk,os⟩:=s;obtain⟨hl,hb,he,hcc,hsz,h⟩:=h
  have f2:=AutoSeq1.sub_tuple_tuple
  have hZ:(items.toList.zip items2.toList).length=items.size:=by simp [hsz]
  wp_walk using wpAny_loadPart' hl,wpAny_loadPart' hb,wpAny_forIn_list _ (fun rest b s'=>b.1=none∧s'=⟨hp,g,d,tk,os⟩∧∃i,rest=(items.toList.zip items2.toList).drop i ∧
   R (.ok (.ret (.bool (fstD e c ((zbp2 items.size).drop i))))) ⟨hp,g,d,tk,os⟩) _
  case turn =>
   rintro ⟨y,x⟩ rest b s' ⟨hb',rfl,i,hz,hR⟩
   have hlt:i<(items.toList.zip items2.toList).length:=by
    rcases zby6 i (items.toList.zip items2.toList).length with h' |h'
    ·exact h'
    ·rw [zbt2 h']at hz;cases hz
   have h1:i<items.size:=hZ ▸ hlt
   have h2:i<items2.size:=hsz ▸ h1
   rw [zbp1 hlt]at hz
   injection hz with hyx hrest
   have hy:y=items[i]:=by have:=congrArg Prod.fst hyx;simpa using this
   have hx:x=items2[i]:=by have:=congrArg Prod.snd hyx;simpa using this
   subst hy hx
   have hd:(zbp2 items.size).drop i=i ::(zbp2 items.size).drop (i+1):=by simp [zbp1,h1]
   rw [hd,fstD]at hR
   refine zbn6 (he i h1 h2 prog w _ _ ?_)
   cases hy:e i with
   |true =>
    rw [hy]at hR
    wp_walk
    exact⟨rfl,rfl,i+1,hrest,by simpa using hR⟩
   |false =>
    rw [hy]at hR
    simp only [Bool.not_false,if_true]
    refine zbn6 (wpAny_rule (zbn6 (hcc i h1 h2 hy prog w _ _ ?_)))
    wp_walk
    exact⟨_,rfl,by simpa using hR⟩
  case fin =>
   rintro ⟨b1,b2⟩ s' ⟨hb',rfl,i,hz,hR⟩
   simp only at hb'
   subst hb'
   have hge:items.size≤i:=by
    rcases zby6 i (items.toList.zip items2.toList).length with h' |h'
    ·rw [zbp1 h']at hz;cases hz
    ·exact hZ ▸ h'
   rw [zbt2 (by simpa using hge)]at hR
   wp_walk
   exact⟨_,rfl,by simpa [Builtin.Tuple.tupleCompareSizes,hsz,fstD] using hR⟩
  case h =>
   exact⟨rfl,rfl,0,rfl,by simpa using h⟩
theorem OpAt.tuples_gt {A:Around}{s:zbo3}{l b:Addr}{items items2:Array Value}{e c:Nat→Bool} (hl:s.heap.IsTuple l items) (hb:s.heap.IsTuple b items2) (hu:A.units<cLine) (hsz:items.size=items2.size)
  (he:∀j (h1:j<items.size) (h2:j<items2.size),EqAt A.in1 s items[j] items2[j] (e j)) (hc:∀j (h1:j<items.size) (h2:j<items2.size),e j=false→OpAt .Gt A.in1 s items[j] items2[j] (c j)) :
  OpAt .Gt A s (.ref l) (.ref b) (fstD e c (zbp2 items.size)):=fun prog w E Q h=>by
 obtain⟨⟨cls,dd,data,sl⟩,ho,hc1,n,hd⟩:=id hl
 obtain⟨⟨cls2,dd2,data2,sl2⟩,ho2,hc2,n2,hd2⟩:=id hb
 simp only at hc1 hd hc2 hd2
 subst hc1 hd hc2 hd2
 exact richCompare_meets_room (op:=.Gt) ⟨_,ho,rfl⟩ ⟨_,ho2,rfl⟩ F.slot_tuple_gt F.entry_tuple_gt (F.args_tuple_gt_2 _ _) (zay5 l b items items2 n n2 dd dd2 sl sl2 e c)
  ⟨ho,ho2,he,hc,hsz,show Value.bool _≠Value.notImplemented∧Q (.bool (fstD e c (zbp2 items.size))) s from ⟨(fun x=>nomatch x),h⟩⟩ hu
end PySem.SeqAt
namespace L2
open PySem.Spec
noncomputable def CmpR (X:Cx) (op:CmpOp) (p:V→V→Hp→Bool→Prop):Prop :=
 ∀(pins:List (Addr×Obj)) (s:zbo3) (σ:L2.St) (H:Hp) (y z:V) (u u':Value) (c:Bool) (Q:Value→zbo3→Prop) (E:Value→zbo3→Prop),Inv X pins σ H s→RelV y u→RelV z u'→p y z H c →
  (∀s',Inv X pins σ H s'→(∀b o,s.heap.get? b=some o→s'.heap.get? b=some o)→Q (.bool c) s')→wpAny (model X.prog X.w) X.A.in1 (richCompare op u u') Q E s
theorem Vals.two2 {a b:V}{us:List Value} (h:Vals [a,b] us):∃u v,us=[u,v]∧RelV a u∧RelV b v:=by
 cases h with
 |cons r t=>cases t with
  |cons r' t'=>cases t';exact⟨_,_,rfl,r,r'⟩
end L2
namespace DL
open PySem.Spec L2
noncomputable def cmpI (mx:Bool) (i j:Int):Bool:=if mx then decide (i > j) else decide (i<j)
noncomputable def lexI (mx:Bool):List Int→List Int→Bool
 |i::r,j::q=>if decide (i=j) then lexI mx r q else cmpI mx i j
 |_,_=>false
noncomputable def cmpD (mx:Bool):D→D→Option Bool
 |.int i,.int j=>some (cmpI mx i j)
 |.tup xs,.tup ys=>(zl3 xs).bind fun is=>(zl3 ys).bind fun js=>if is.length=js.length then some (lexI mx is js) else none
 |_,_=>none
theorem zbh9 {mx:Bool}:∀ {is js:List Int}{e c:Nat→Bool},is.length=js.length→(∀j a b,is[j]?=some a→js[j]?=some b→e j=decide (a=b)∧c j=cmpI mx a b)→SeqAt.fstD e c (zbp2 is.length)=lexI mx is js
 |[],[],e,c,_,_=>rfl
 |i::r,j::q,e,c,hl,h=>by
  have h0:=h 0 i j rfl rfl
  have shift:∀l:List Nat,SeqAt.fstD e c (l.map Nat.succ)=SeqAt.fstD (fun k=>e (k+1)) (fun k=>c (k+1)) l:=by
   intro l
   induction l with
   |nil=>rfl
   |cons a l ih=>simp only [zbn7,SeqAt.fstD,ih]
  rw [zbp9,zbv1,SeqAt.fstD,shift,h0.1,h0.2,lexI,zbh9 (mx:=mx) (is:=r) (js:=q) (by simpa using hl) fun k a b h1 h2=>h (k+1) a b (by simpa using h1) (by simpa using h2)]
 |[],_::_,_,_,hl,_=>by simp at hl
 |_::_,[],_,_,hl,_=>by simp at hl
noncomputable def pD (K:zbm7) (mx:Bool):V→V→Hp→Bool→Prop:=fun y z H c => ∃d e,Rep K H d y∧Rep K H e z∧cmpD mx d e=some c
section
variable {X:Cx}
theorem cmp_D {mx:Bool}{op:CmpOp} (hop:op=if mx then .Gt else .Lt) (hu:X.A.units+64<cLine):CmpR X op (pD X.K mx):=by
 rintro pins s σ H y z u u' c Q E I ry rz ⟨d,e,rd,re,hc⟩ h
 have hs:=h s I fun _ _ e=>e
 have icmp:∀ {A:Around}{i j:Int}{t t':Tok},SeqAt.OpAt op A s (.int i t) (.int j t') (cmpI mx i j):=fun {A i j t t'} prog w E Q hq=>by
  cases mx with
  |false =>
   subst hop
   exact CmpOf.ints_lt (prog:=prog) (w:=w) (A:=A) (P:=fun (n:Nat) v => ∃t,v=.int (if n=0 then i else j) t) (fun n=>if n=0 then i else j) (fun _ _ h=>h) 0 1 _ _ _ _ _ ⟨t,rfl⟩ ⟨t',rfl⟩ hq
  |true =>
   subst hop
   exact CmpOf.ints_gt (prog:=prog) (w:=w) (A:=A) (P:=fun (n:Nat) v => ∃t,v=.int (if n=0 then i else j) t) (fun n=>if n=0 then i else j) (fun _ _ h=>h) 0 1 _ _ _ _ _ ⟨t,rfl⟩ ⟨t',rfl⟩ hq
 cases rd with
 |int i =>
  cases re with
  |int j =>
   obtain⟨t,rfl⟩:=ry
   obtain⟨t',rfl⟩:=rz
   simp only [cmpD]at hc
   cases hc
   exact icmp _ _ _ _ hs
  |_=>simp [cmpD]at hc
 |@tup xs pa vs h1 h2 =>
  cases re with
  |@tup ys pb ws g1 g2 =>
   simp only [cmpD]at hc
   cases e1:zl3 xs with
   |none=>rw [e1]at hc;cases hc
   |some is =>
    cases e2:zl3 ys with
    |none=>rw [e1,e2]at hc;cases hc
    |some js =>
     rw [e1,e2]at hc
     simp only [zbn0]at hc
     split at hc
     case isFalse=>cases hc
     rename_i hl
     cases hc
     have x1:=zn4 e1
     have x2:=zn4 e2
     subst x1 x2
     have v1:=zg8 h2
     have v2:=zg8 g2
     subst v1 v2
     cases ry
     cases rz
     obtain⟨its,w1,w2,_⟩:=I.tuple h1
     obtain⟨its',w1',w2',_⟩:=I.tuple g1
     have l1:its.toArray.size=is.length:=by have:=w1.length;simp at this;simp [← this]
     have l2:its'.toArray.size=js.length:=by have:=w1'.length;simp at this;simp [← this]
     have at1:∀j (hj:j<its.toArray.size),∃t,its.toArray[j]=.int (is[j]'(by lia)) t:=fun j hj=>by
      obtain⟨v,e,r⟩:=Vals.getL w1 hj
      have hj':j<is.length:=by lia
      rw [zbp7,zbn9 hj']at e
      cases e
      exact r
     have at2:∀j (hj:j<its'.toArray.size),∃t,its'.toArray[j]=.int (js[j]'(by lia)) t:=fun j hj=>by
      obtain⟨v,e,r⟩:=Vals.getL w1' hj
      have hj':j<js.length:=by lia
      rw [zbp7,zbn9 hj']at e
      cases e
      exact r
     have he:∀j (q1:j<its.toArray.size) (q2:j<its'.toArray.size),SeqAt.EqAt X.A.in1.in1 s its.toArray[j] its'.toArray[j] (decide (is.getD j 0=js.getD j 0)):=fun j q1 q2=>by
      obtain⟨t,z1⟩:=at1 j q1
      obtain⟨t',z2⟩:=at2 j q2
      have k1:is.getD j 0=is[j]'(by lia):=by rw [zbo1,zbn9 (by lia)];rfl
      have k2:js.getD j 0=js[j]'(by lia):=by rw [zbo1,zbn9 (by lia)];rfl
      rw [z1,z2,k1,k2]
      have q:=eqAt_D I 6 X.A.in1.in1 (.int (is[j]'(by lia))) (.int (js[j]'(by lia))) _ _ (.int (is[j]'(by lia)) t) (.int (js[j]'(by lia)) t') (by show X.A.units+1+1+6<cLine;lia) (by rfl) (.int _) (.int _) ⟨t,rfl⟩ ⟨t',rfl⟩
      have:eqD (.int (is[j]'(by lia))) (.int (js[j]'(by lia)))=decide ((is[j]'(by lia))=(js[j]'(by lia))):=by
       cases w:decide ((is[j]'(by lia))=(js[j]'(by lia))) with
       |true=>rw [eqD_true];simp at w;rw [w]
       |false=>rw [eqD_false];simp at w;intro k;injection k with k;exact w k
      rw [← this];exact q
     have hcc:∀j (q1:j<its.toArray.size) (q2:j<its'.toArray.size),(decide (is.getD j 0=js.getD j 0))=false→SeqAt.OpAt op X.A.in1.in1 s its.toArray[j] its'.toArray[j] (cmpI mx (is.getD j 0) (js.getD j 0)):=fun j q1 q2 _=>by
      obtain⟨t,z1⟩:=at1 j q1
      obtain⟨t',z2⟩:=at2 j q2
      have k1:is.getD j 0=is[j]'(by lia):=by rw [zbo1,zbn9 (by lia)];rfl
      have k2:js.getD j 0=js[j]'(by lia):=by rw [zbo1,zbn9 (by lia)];rfl
      rw [z1,z2,k1,k2]
      exact icmp
     have hz:its.toArray.size=its'.toArray.size:=by lia
     have fl:=zbh9 (mx:=mx) (is:=is) (js:=js) (e:=fun j=>decide (is.getD j 0=js.getD j 0)) (c:=fun j=>cmpI mx (is.getD j 0) (js.getD j 0)) hl (fun j a b z1 z2=>by simp [z1,z2])
     rw [← fl, ← l1]at hs
     cases mx with
     |false=>subst hop;exact SeqAt.OpAt.tuples_lt (A:=X.A.in1) w2 w2' (by show X.A.units+1<cLine;lia) hz he hcc _ _ _ _ hs
     |true=>subst hop;exact SeqAt.OpAt.tuples_gt (A:=X.A.in1) w2 w2' (by show X.A.units+1<cLine;lia) hz he hcc _ _ _ _ hs
  |_=>simp [cmpD]at hc
 |_=>simp [cmpD]at hc
end
noncomputable def zbl7 (mx:Bool) (fb:DE) (cs:List D):D→D→List D→Option D
 |b,_,[]=>some b
 |b,k,d::ds=>(fb (.val d::cs.map Sl.val)).bind fun r=>if flat r.d then (cmpD mx r.d k).bind fun c=>if c then zbl7 mx fb cs d r.d ds else zbl7 mx fb cs b k ds else none
noncomputable def dKey (mx:Bool) (cap:List Nat) (fa fb:DE):DE:=fun t=>(fa t).bind fun r=>(capD t cap).bind fun c=>match r.d with
 |.lst (d::ds)=>if (zl3 (d::ds)).isSome then (fb (.val d::c.2.map Sl.val)).bind fun k=>if flat k.d then (zbl7 mx fb c.2 d k.d ds).map Ev.cl else none else none
 |_=>none
end DL
namespace L2
open PySem.Spec PySem.W
noncomputable def lamOf (x:Str):Str:=x++".<locals>."++"<lambda>"
theorem zam3 {β:Type}:∀ {l:List (Nat×β)}{a:Nat}{o:β},l.lookup a=some o→(a,o)∈l
 |[],_,_,e=>by cases e
 |(b,x)::r,a,o,e=>by
  rw [zbq2]at e
  cases hb:a == b with
  |true=>rw [hb]at e;cases e;rw [eq_of_beq hb];exact .head _
  |false=>rw [hb]at e;exact .tail _ (zam3 e)
noncomputable def tbOf (K:Frag) (names:List Str):List (Addr×Str):=names.filterMap fun x=>(tabIn K x).map fun q=>(q.2,lamOf x)
theorem of_tbOf {K:Frag}{names:List Str}{p:Addr×Str} (h:p∈tbOf K names):∃x∈names,∃c,tabIn K x=some (c,p.1):=by
 obtain⟨x,hx,e⟩:=zbx6.mp h
 cases q:tabIn K x with
 |none=>rw [q]at e;cases e
 |some r=>rw [q]at e;cases e;exact⟨x,hx,r.1,q⟩
noncomputable def TbOk (K:Frag) (names:List Str):Prop := ∀p∈tbOf K names,(tbOf K names).lookup p.1=some p.2∧K.lookup p.1=none
theorem tbOk_nil {K:Frag}:TbOk K []:=fun p hp=>by cases hp
theorem zbg6 {P:Program}{w:World}{K:Frag}{mg mb:Str→Option Value}{CX:CXT}{k:Nat}{fa a:Addr}{fd:FuncData}{x:Str}{sp:Sp}{s₁:zbo3}{vs:List Value}{ns:List Int}{names:List Str}
  (KX:K.In s₁.heap) (hns:s₁.heap.Ns mainGlobals mg) (hb:s₁.heap.Ns builtinsNs mb) (hbb:∀x:Str,x≠"__name__"→mb x=bootBuiltins x) (hlim:s₁.heap.NoLimit)
  (hbm:∃(bm:Addr) (ob:Obj),mg "__builtins__"=some (.ref bm)∧bm≠builtinsNs∧s₁.heap.get? bm=some ob∧ob.cls=.type "module"∧ob.dict=some builtinsNs∧ob.data=.plain) (hg:s₁.gens = #[])
  (ha:s₁.heap.get? a=some { cls:=.type "list",data:=.seq vs.toArray }) (hi:IntsAre vs ns) (hl:ns.length≤sizeLine) (hr:Room k callerA)
  (hT:∀x∈names,∀c P,tabIn K x=some (c,P)→CodeHd s₁.heap c P∧s₁.heap.get? P=some (tabObj #[])) (hn:TbOk K names)
  (F:∀base:BHeap,base.tabs=tbOf K names→K.In base→base.Ns mainGlobals mg→(∀x∈names,∀c P,tabIn K x=some (c,P)→CodeHd base c P)→FnOk P w K mg base CX k fa fd [x] sp)
  (hbind:∀(s:zbo3) (u:Value),BindsTo s fd ⟨[u],[]⟩ [(x,u)]) (hsp:∀H:Hp,SqL K H a (ns.map V.int)→sp [.ref a] H (fun v _=>v=.bl true) fun _ _ _=>False)
  (hCX:∀H e s',CX [] H s₁ (fun _ _ _=>False) e s'→False) :
  codeAny (model P w) callerA (.call (.ref fa) ⟨[.ref a],[]⟩) (fun r s'=>r=.ok (.ret (.bool true))∧OldK s₁.heap s'.heap∧s'.os=s₁.os∧AllBare s'.gens) s₁:=by
 have rv:=zv1 hi
 have lenV:=hi.length
 have tabH:∀p∈tbOf K names,∃c,CodeHd s₁.heap c p.1∧s₁.heap.get? p.1=some (tabObj #[]):=fun p hp=>by
  obtain⟨y,hy,c,e⟩:=of_tbOf hp
  exact⟨c,hT y hy c p.1 e⟩
 have core:∀H:Hp,SqL K H a (ns.map V.int)→HOk P w H s₁.heap→(∀p∈tbOf K names,H p.1=some (.tbl p.2)) →
   (∀b o,H b=some o→(b=a∧K.lookup a=none∧∃ob xs,o=.frz ob (.lst xs))∨∃q,o=.tbl q∧(b,q)∈tbOf K names) →
   codeAny (model P w) callerA (.call (.ref fa) ⟨[.ref a],[]⟩) (fun r s'=>r=.ok (.ret (.bool true))∧OldK s₁.heap s'.heap∧s'.os=s₁.os∧AllBare s'.gens) s₁:=by
  intro H hS hok hTB hH
  have free:∀ {b:Addr}{o:Obj},s₁.heap.get? b=some o→(o.cls=.type "list"→False)→o≠tabObj #[]→H b=none:=fun {b o} e n1 n2=>by
   cases q:H b with
   |none=>rfl
   |some u =>
    rcases hH b u q with ⟨rfl,_⟩ | ⟨qq,rfl,hm⟩
    ·rw [ha]at e;cases e;exact (n1 rfl).elim
    ·obtain⟨c,_,e2⟩:=tabH _ hm
     have e2:s₁.heap.get? b=some (tabObj #[]):=e2
     rw [e]at e2;cases e2;exact (n2 rfl).elim
  have nsK:∀ {b:Addr}{m:Str→Option Value},s₁.heap.Ns b m→(hidT s₁.heap H).Ns b m:=fun {b m} ⟨o,es,ep,e,d,r⟩=>⟨o,es,ep,zz4 e (by
   cases q:H b with
   |none=>rfl
   |some u =>
    rcases hH b u q with ⟨rfl,_⟩ | ⟨qq,rfl,hm⟩
    ·rw [ha]at e;cases e;cases d
    ·obtain⟨c,_,e2⟩:=tabH _ hm
     have e2:s₁.heap.get? b=some (tabObj #[]):=e2
     rw [e]at e2;cases e2;cases d),d,r⟩
  have hKb:K.In (hidT s₁.heap H):=fun b o e=>zz4 (KX b o e) (by
   cases q:H b with
   |none=>rfl
   |some u =>
    rcases hH b u q with ⟨rfl,n,_⟩ | ⟨qq,rfl,hm⟩
    ·rw [n]at e;cases e
    ·have n:K.lookup b=none:=(hn _ hm).2
     rw [n]at e;cases e)
  have hM:Mod K mg ⟨hidT s₁.heap H,tbOf K names⟩:=⟨hKb,nsK hns,⟨mb,nsK hb,hbb⟩,let ⟨mc,h1,h2⟩:=hlim;⟨mc,nsK h1,h2⟩,by
   obtain⟨bm,ob,b1,b2,b3,b4,b5,b6⟩:=hbm
   exact⟨bm,ob,b1,b2,zz4 b3 (free b3 (fun z=>by rw [b4]at z;simp at z) fun z=>by rw [z]at b4;cases b4),b4,b5,b6⟩⟩
  have hCd:∀x∈names,∀c P,tabIn K x=some (c,P)→CodeHd (hidT s₁.heap H) c P:=fun x hx c P e=>by
   obtain⟨⟨o,vs,file,tf,flags,tg,inF,text,tt,e1,r1,r⟩,_⟩:=hT x hx c P e
   exact⟨o,vs,file,tf,flags,tg,inF,text,tt,zz4 e1 (free e1 (fun z=>by rw [r1]at z;simp at z) fun z=>by rw [z]at r1;cases r1),r1,r⟩
  have e0:Env0 P w K mg ⟨hidT s₁.heap H,tbOf K names⟩ callerA [] s₁ H:=⟨rfl,hM,fun b o e=>of_hidT e,Nat.le_of_eq (zbh8 _ _),trivial,fun b hb=>absurd (show b∈([]:List Addr) from hb) (by simp),hok,.of_eq hg,hTB⟩
  refine codeAny_mono ((F ⟨hidT s₁.heap H,tbOf K names⟩ rfl hKb (nsK hns) hCd).run callerA [] s₁ H ⟨[.ref a],[]⟩ [.ref a] [.ref a] _ _ hr e0 (hbind s₁ (.ref a)) (.cons rfl .nil) (hsp H hS)) fun r s' h=>?_
  cases r with
  |error e=>exact (hCX H e s' h).elim
  |ok fl =>
   cases fl with
   |next=>exact False.elim h
   |brk=>exact False.elim h
   |cont=>exact False.elim h
   |ret u =>
    obtain⟨v,H',os,bare,un,hok',r',q⟩:=h
    have q':v=.bl true:=q
    subst q'
    obtain rfl:u=Value.bool true:=r'
    have kp:∀b o,s₁.heap.get? b=some o→s'.heap.get? b=some o∨∃qq,H b=some (.tbl qq):=fun b o e=>by
     cases q:H b with
     |none=>exact .inl (un.keep b o e q (by intro z;exact absurd (show b∈([]:List Addr) from z) (by simp)) (by simp))
     |some u =>
      rcases hH b u q with ⟨rfl,_,ob,xs,rfl⟩ | ⟨qq,rfl,hm⟩
      ·obtain⟨e1,_⟩:=hok b _ q
       obtain⟨e2,_⟩:=hok' b _ (un.frzs b ob _ q)
       rw [e]at e1;cases e1
       exact .inl e2
      ·exact .inr ⟨qq,rfl⟩
    refine⟨rfl,⟨fun b o e=>?_,fun b o e=>?_⟩,os,bare⟩
    ·rcases kp b o e with z | ⟨qq,z⟩
     ·exact .inl z
     ·rcases hH b _ z with ⟨_,_,ob,xs,z2⟩ | ⟨q2,z2,hm⟩
      ·cases z2
      ·obtain⟨c,C,e2⟩:=tabH _ hm
       have e2:s₁.heap.get? b=some (tabObj #[]):=e2
       rw [e]at e2
       cases e2
       obtain⟨ps,e3,_⟩:=hok' b _ (un.tbls b _ z)
       have C:CodeHd s₁.heap c b:=C
       exact .inr (.inl ⟨(C.tab e).isCodeTable,rfl, #[],ps,rfl,by simpa using e3⟩)
    ·rcases kp b o e with z | ⟨qq,z⟩
     ·exact⟨o,z⟩
     ·obtain⟨ps,e3,_⟩:=hok' b _ (un.tbls b _ z)
      exact⟨_,e3⟩
 have tabO:∀(H:Hp) (p:Addr×Str),p∈tbOf K names→ObjOk P w H s₁.heap p.1 (.tbl p.2):=fun H p hp=>by
  obtain⟨c,_,e⟩:=tabH p hp
  exact⟨#[],e,trivial,fun pos cv z=>by cases z⟩
 have lk:∀b q,(tbOf K names).lookup b=some q→(b,q)∈tbOf K names:=fun b q e=>zam3 e
 have aT:∀q,(a,q)∈tbOf K names→False:=fun q hm=>by
  obtain⟨c,_,e⟩:=tabH _ hm
  have e:s₁.heap.get? a=some (tabObj #[]):=e
  rw [ha]at e;cases e
 cases hk:K.lookup a with
 |some o =>
  have e:=KX a o hk
  rw [ha]at e
  cases e
  refine core (fun b=>((tbOf K names).lookup b).map HO.tbl) (.inr ⟨_,vs.toArray,_,hk,rfl,rfl,rfl,by rw [zbo4,lenV];exact hl,by simpa using rv⟩) (fun b u z=>?_) (fun p hp=>by simp only [(hn p hp).1,zbq3]) fun b u z=>?_
  ·cases q:(tbOf K names).lookup b with
   |none=>simp only [q]at z;cases z
   |some qq=>simp only [q]at z;cases z;exact tabO _ _ (lk b qq q)
  ·cases q:(tbOf K names).lookup b with
   |none=>simp only [q]at z;cases z
   |some qq=>simp only [q]at z;cases z;exact .inr ⟨qq,rfl,lk b qq q⟩
 |none =>
  refine core (fun b=>if b=a then some (.frz { cls:=.type "list",data:=.seq vs.toArray } (.lst (ns.map V.int))) else ((tbOf K names).lookup b).map HO.tbl) (.inl (.inr ⟨{ cls:=.type "list",data:=.seq vs.toArray },if_pos rfl⟩)) (fun b u z=>?_) (fun p hp=>?_) fun b u z=>?_
  ·by_cases hb:b=a
   ·have z':=(if_pos hb).symm.trans z
    cases z'
    subst hb
    exact⟨ha,by rw [zbo0];exact hl,vs,_,rv,ha⟩
   ·have z':=(if_neg hb).symm.trans z
    cases q:(tbOf K names).lookup b with
    |none=>simp only [q]at z';cases z'
    |some qq=>simp only [q]at z';cases z';exact tabO _ _ (lk b qq q)
  ·have:p.1≠a:=fun e=>aT p.2 (by rw [← e];exact hp)
   simp only [this,if_false,(hn p hp).1,zbq3]
  ·by_cases hb:b=a
   ·have z':=(if_pos hb).symm.trans z
    cases z'
    exact .inl ⟨hb,hk,_,_,rfl⟩
   ·have z':=(if_neg hb).symm.trans z
    cases q:(tbOf K names).lookup b with
    |none=>simp only [q]at z';cases z'
    |some qq=>simp only [q]at z';cases z';exact .inr ⟨qq,rfl,lk b qq q⟩
end L2
namespace L2
open PySem.W
theorem walk_ofT {l:zce8}{n k:Nat}{q:Program}{loose:List Str}{XP:(Str→Option Value)→Heap→Prop}{YP:World→Heap→Prop}{d:DefRec}{K:Params→zbm7}{CX:World→CXT}{sp:World→Sp}{x:Str}{names:List Str}
  (hn:l.most=some n) (hn2:n≤sizeLine) (hdf:d.params.defaults=[]) (hr:Room k callerA)
  (hY:∀(w:World) (h:Heap),YP w h→(K w.params).In h) (hrec:∀x∈names,∃dr,(recsOf q).find? (fun e=>e.name == x)=some dr)
  (F:∀(w:World) (mg:Str→Option Value) (fa:Addr) (h:Heap),(K w.params).In h→h.Ns mainGlobals mg→mg d.name=some (.ref fa) →
   TbOk (K w.params) names∧∃fd:FuncData,(∀(s:zbo3) (u:Value),BindsTo s fd ⟨[u],[]⟩ [(x,u)]) ∧
    ∀base:BHeap,base.tabs=tbOf (K w.params) names→(K w.params).In base→base.Ns mainGlobals mg→(∀x∈names,∀c P,tabIn (K w.params) x=some (c,P)→CodeHd base c P)→FnOk l.prog w (K w.params) mg base (CX w) k fa fd [x] (sp w))
  (hsp:∀(w:World) (H:Hp) (a:Addr) (ns:List Int),ns.length≤n→(∀i∈ns,i.natAbs<bndS)→SqL (K w.params) H a (ns.map V.int)→sp w [.ref a] H (fun v _=>v=.bl true) fun _ _ _=>False)
  (hCX:∀(w:World) (H:Hp) (s:zbo3) (e:Value) (s':zbo3),CX w [] H s (fun _ _ _=>False) e s'→False) :
  zch5 q loose XP YP l.row.toRowW d [] (fun f vs=>PySem.call f vs):=by
 intro w s₀ s₁ mg mb G Y fa o pm cd doc dV kV ho hd hcd hD hmg hg args vals as hpre hlay hrd hwl hlo
 obtain rfl:dV=.none:=Dflts.none hD hdf
 obtain rfl:kV=.none:=Dflts.noKw hD
 obtain⟨a,vs,ns,rfl,rfl,hobj,hints,hlen⟩:=Att.script_of hn hpre hwl
 have hb:=bnd_of hlay
 have KX:=hY w _ Y
 obtain⟨hok,fd,hbd,hF⟩:=F w mg fa _ KX G.T.g hmg
 refine enter_call (codeAny_mono (zbg6 KX G.T.g G.T.b G.T.builtins G.T.nolimit G.T.bmain hg hobj hints (zbs6 hlen hn2) hr (fun x hx c P e=>by
  obtain⟨dr,h⟩:=hrec x hx
  exact tab_of G.T KX h e) hok hF hbd (fun H hS=>hsp w H a ns hlen hb hS) fun H e s'=>hCX w H s₁ e s') fun r s' hq=>?_)
 obtain⟨rfl,h2,h3,h4⟩:=hq
 exact⟨.inl ⟨.bool true,.bool true,[],rfl,fun _=>rfl,.bool true,Att.post_true l _,fun _=>⟨List.Pairwise.nil,fun _ hm=>(nomatch hm)⟩⟩,h2,h3,h4⟩
end L2
namespace DL
open PySem.Spec L2
noncomputable def isSt:Expr→Bool
 |.Starred _ _=>true
 |_=>false
theorem zj0 {a:Expr}{es:List Expr}{env:Env} (h:isSt a=false):zbo8 (a::es) env=(false,eval a env)::zbo8 es env:=by
 cases a<;>first | rfl | cases h
theorem RS.putOwned {K:zbm7}{F A:List Addr}{H:Hp}{t:Th}{σ:L2.St}{i:Nat}{d:D}{v:V}{B:List Addr} (R:RS K (B++F) H A t σ) (nb:B.Nodup) (dj:∀b∈B,b∉F) (r:RepD K (hide (A++(B++F)) H) H d v B) (hi:i<t.length) :
  ∃A',(∀x∈A',x∈B∨x∈A)∧RS K F H A' (t.set i (.dp d)) (σ.set i (some v)):=by
 have lb:=r.lists
 obtain⟨A2,r2,sub2,nd2⟩:=RSl.setAny (s:=.dp d) (v:=v) (B:=B) (fun q=>.dp r q) i R.rel hi
 refine⟨A2,sub2,⟨fun p hp=>?_,nd2 R.nd nb (fun b hb z=>R.dj b z (zbm8 _ hb)),fun p hp=>?_,RSl.mono (zb5 H fun x hx=>?_) r2 fun _ _ _ w=>w⟩⟩
 ·rcases zbn2.mp hp with z | z
  ·rcases sub2 p z with w | w
   ·exact lb p w
   ·exact R.mu p (zbm8 _ w)
  ·exact R.mu p (zbm6 _ (zbm6 _ z))
 ·rcases sub2 p hp with w | w
  ·exact dj p w
  ·exact fun z=>R.dj p w (zbm6 _ z)
 ·rcases zbn2.mp hx with z | z
  ·rcases sub2 x z with w | w
   ·exact zbm6 _ (zbm8 _ w)
   ·exact zbm8 _ w
  ·exact zbm6 _ (zbm6 _ z)
theorem RS.less {K:zbm7}{F F' A:List Addr}{H:Hp}{t:Th}{σ:L2.St} (R:RS K F H A t σ) (h:∀b∈F',b∈F):RS K F' H A t σ :=
 ⟨fun p hp=>R.mu p ((zbn2.mp hp).elim (zbm8 _) fun z=>zbm6 _ (h p z)),R.nd,fun p hp z=>R.dj p hp (h p z),
  RSl.mono (zb5 H fun x hx=>(zbn2.mp hx).elim (zbm8 _) fun z=>zbm6 _ (h x z)) R.rel fun _ _ _ w=>w⟩
noncomputable def TgN (K:zbm7) (g:TG) (k:D→Th→Option Th):Prop :=
 ∀F σ H A B t t' d x (Q:L2.St→Hp→Prop),RS K (B++F) H A t σ→B.Nodup→(∀b∈B,b∉F)→RepD K (hide (A++(B++F)) H) H d x B→k d t=some t'→(∀σ2 A2,(∀x∈A2,x∈B∨x∈A)→RS K F H A2 t' σ2→Q σ2 H)→g x σ H Q
noncomputable def TgsN (K:zbm7) (g:TGs) (k:List D→Th→Option Th):Prop :=
 ∀F σ H A B t t' ds xs (Q:L2.St→Hp→Prop),RS K (B++F) H A t σ→B.Nodup→(∀b∈B,b∉F)→RepDs K (hide (A++(B++F)) H) H ds xs B→k ds t=some t'→(∀σ2 A2,(∀x∈A2,x∈B∨x∈A)→RS K F H A2 t' σ2→Q σ2 H)→g xs σ H Q
noncomputable def zae6 (i:Nat):D→Th→Option Th:=fun d t=>if i<t.length then some (if flat d then t.set i (.val d) else t.set i (.dp d)) else none
theorem zbc0 {K:zbm7} (i:Nat):TgN K (gName i) (zae6 i):=by
 intro F σ H A B t t' d x Q R nb dj r e h
 unfold zae6 at e
 split at e
 case isFalse=>cases e
 rename_i hi
 cases e
 split at h
 ·rename_i f
  have R1:RS K F H A t σ:=R.less fun b hb=>zbm6 _ hb
  have rp:Rep K (hide (A++F) H) d x:=Rep.hid R1.mu f (r.rep (zc2 _ _) fun _ _ _ w=>w)
  obtain⟨A',g',R'⟩:=R1.put (i:=i) (r:=.cl d) (v:=x) (t':=t.set i (.val d)) (Same.refl H) rp (by unfold zn9;rw [if_pos hi])
  refine h _ A' (fun y hy=>?_) R'
  rcases g'.nw y hy with z | z
  ·exact .inr z
  ·obtain⟨o,w⟩:=R'.mu y (zbm8 _ hy)
   rw [w]at z;cases z
 ·obtain⟨A',sub,R'⟩:=R.putOwned nb dj r hi
  exact h _ A' sub R'
theorem tns_nil {K:zbm7}:TgsN K gNil zh3:=by
 intro F σ H A B t t' ds xs Q R nb dj r e h
 cases r with
 |nil=>cases e;exact⟨rfl,h σ A (fun x hx=>.inr hx) R⟩
 |cons _ _=>cases e
theorem zau0 {K:zbm7}{g:TG}{g':TGs}{k:D→Th→Option Th}{k':List D→Th→Option Th} (h1:TgN K g k) (h2:TgsN K g' k'):TgsN K (gCons g g') (zc0 k k'):=by
 intro F σ H A B t t' ds xs Q R nb dj r e h
 cases r with
 |nil=>cases e
 |@cons d v ds vs B1 C r1 r2 =>
  unfold zc0 at e
  cases e1:k d t with
  |none=>simp only [e1]at e;cases e
  |some t1 =>
   simp only [e1]at e
   have n0:=zbo5.mp nb
   have eq:B1++C++F=B1++(C++F):=zbv9 ..
   rw [eq]at R r1 r2
   refine⟨v,vs,rfl,h1 (C++F) σ H A B1 t t1 d v _ R n0.1 (fun b hb z=>?_) r1 e1 fun σ2 A2 s2 R2=>?_⟩
   ·rcases zbn2.mp z with w | w
    ·exact n0.2.2 b hb b w rfl
    ·exact dj b (zbm8 _ hb) w
   ·refine h2 F σ2 H A2 C t1 t' ds vs Q R2 n0.2.1 (fun b hb=>dj b (zbm6 _ hb)) (RepDs.mono (zb5 H fun x hx=>?_) r2 fun _ _ _ w=>w) e fun σ3 A3 s3 R3=>h σ3 A3 (fun x hx=>?_) R3
    ·rcases zbn2.mp hx with z | z
     ·rcases s2 x z with w | w
      ·exact zbm6 _ (zbm8 _ w)
      ·exact zbm8 _ w
     ·exact zbm6 _ (zbm6 _ z)
    ·rcases s3 x hx with z | z
     ·exact .inl (zbm6 _ z)
     ·rcases s2 x z with w | w
      ·exact .inl (zbm8 _ w)
      ·exact .inr w
theorem tn_tup {K:zbm7}{n:Nat}{g':TGs}{k':List D→Th→Option Th} (h2:TgsN K g' k'):TgN K (gTup K n g') (zh2 n k'):=by
 intro F σ H A B t t' d x Q R nb dj r e h
 unfold zh2 at e
 split at e
 ·rename_i ds
  split at e
  ·rename_i hl
   cases r with
   |flat f r =>
    cases r with
    |@tup _ p vs h1 hr=>exact⟨p,vs,rfl,SqT.mono (zc2 _ _) h1,by rw [hr.length];exact hl,h2 F σ H A [] t t' ds vs Q R nb dj (RepDs.of_flat (by simpa [DL.flat] using f) hr) e h⟩
   |@tup _ p vs _ h1 hr=>exact⟨p,vs,rfl,SqT.mono (zc2 _ _) h1,by rw [hr.length];exact hl,h2 F σ H A B t t' ds vs Q R nb dj hr e h⟩
  ·cases e
 ·cases e
theorem RSl.loseDp {K:zbm7}{H0 H:Hp}:∀ {t:Th}{σ:L2.St}{A:List Addr},RSl K H0 H t σ A→A.Nodup→∀ {i:Nat}{d:D},t[i]?=some (.dp d)→∃v B A',σ[i]?=some (some v)∧RepD K H0 H d v B∧RSl K H0 H (t.set i .no) σ A'∧(∀x∈A',x∈A)∧(∀x∈B,x∈A)∧(∀x∈A,x∈B∨x∈A')∧B.Nodup∧A'.Nodup∧(∀x∈A',x∉B):=by
 intro _ _ _ h
 induction h with
 |nil =>
  intro n i d e
  simp at e
 |@no _ _ _ _ r ih =>
  intro n i d e
  cases i with
  |zero =>
   simp at e
  |succ i =>
   obtain⟨v,B,A',a1,a2,a3,a4⟩:=ih n (i:=i) (d:=d) (by simpa using e)
   exact⟨v,B,A',by simpa using a1,a2,.no a3,a4⟩
 |@val _ _ _ _ _ h r ih =>
  intro n i d e
  cases i with
  |zero =>
   simp at e
  |succ i =>
   obtain⟨v,B,A',a1,a2,a3,a4⟩:=ih n (i:=i) (d:=d) (by simpa using e)
   exact⟨v,B,A',by simpa using a1,a2,.val h a3,a4⟩
 |@own p _ _ _ _ _ h1 h2 r ih =>
  intro n i d e
  cases i with
  |zero =>
   simp at e
  |succ i =>
   have n0:=zbo9.mp n
   obtain⟨v,B,A',a1,a2,a3,a4,a5,a6,a7,a8,a9⟩:=ih n0.2 (i:=i) (d:=d) (by simpa using e)
   refine⟨v,B,p::A',by simpa using a1,a2,.own h1 h2 a3,fun x hx=>?_,fun x hx=>zbm9 _ (a5 x hx),fun x hx=>?_,a7,zbo9.mpr ⟨fun z=>n0.1 (a4 p z),a8⟩,fun x hx z=>?_⟩
   ·rcases zbn5.mp hx with w | w
    ·rw [w];exact zbn1 ..
    ·exact zbm9 _ (a4 x w)
   ·rcases zbn5.mp hx with w | w
    ·rw [w];exact .inr (zbn1 ..)
    ·exact (a6 x w).imp id (zbm9 _)
   ·rcases zbn5.mp hx with w | w
    ·exact n0.1 (w ▸ a5 x z)
    ·exact a9 x w z
 |@dp _ v C _ _ A h r ih =>
  intro n i d e
  cases i with
  |zero =>
   simp at e;subst e
   have n0:=zbo5.mp n
   exact⟨v,C,A,rfl,h,.no r,fun x hx=>zbm6 _ hx,fun x hx=>zbm8 _ hx,fun x hx=>zbn2.mp hx,n0.1,n0.2.1,fun x hx z=>n0.2.2 x z x hx rfl⟩
  |succ i =>
   have n0:=zbo5.mp n
   obtain⟨v,B,A',a1,a2,a3,a4,a5,a6,a7,a8,a9⟩:=ih n0.2.1 (i:=i) (d:=d) (by simpa using e)
   refine⟨v,B,C++A',by simpa using a1,a2,.dp h a3,fun x hx=>?_,fun x hx=>zbm6 _ (a5 x hx),fun x hx=>?_,a7,zbo5.mpr ⟨n0.1,a8,fun x hx y hy e=>n0.2.2 x hx y (a4 y hy) e⟩,fun x hx z=>?_⟩
   ·rcases zbn2.mp hx with w | w
    ·exact zbm8 _ w
    ·exact zbm6 _ (a4 x w)
   ·rcases zbn2.mp hx with w | w
    ·exact .inr (zbm8 _ w)
    ·exact (a6 x w).imp id (zbm6 _)
   ·rcases zbn2.mp hx with w | w
    ·exact n0.2.2 x w x (a5 x z) rfl
    ·exact a9 x w z
theorem RS.takeDp {K:zbm7}{F A:List Addr}{H:Hp}{t:Th}{σ:L2.St}{i:Nat}{d:D} (R:RS K F H A t σ) (e:t[i]?=some (.dp d)) :
  ∃v B A',σ[i]?=some (some v)∧RS K (B++F) H A' (t.set i .no) σ∧B.Nodup∧(∀b∈B,b∉F)∧RepD K (hide (A'++(B++F)) H) H d v B∧(∀x∈A',x∈A)∧(∀x∈B,x∈A):=by
 obtain⟨v,B,A',a1,a2,a3,a4,a5,a6,a7,a8,a9⟩:=R.rel.loseDp R.nd e
 have s:Same (hide (A++F) H) (hide (A'++(B++F)) H):=zb5 H fun x hx=>by
  rcases zbn2.mp hx with z | z
  ·exact zbm8 _ (a4 x z)
  ·rcases zbn2.mp z with z | z
   ·exact zbm8 _ (a5 x z)
   ·exact zbm6 _ z
 refine⟨v,B,A',a1,⟨fun p hp=>?_,a8,fun p hp z=>?_,RSl.mono s a3 fun _ _ _ w=>w⟩,a7,fun b hb=>R.dj b (a5 b hb),RepD.mono s a2 fun _ _ _ w=>w,a4,a5⟩
 ·rcases zbn2.mp hp with z | z
  ·exact R.mu p (zbm8 _ (a4 p z))
  ·rcases zbn2.mp z with z | z
   ·exact R.mu p (zbm8 _ (a5 p z))
   ·exact R.mu p (zbm6 _ z)
 ·rcases zbn2.mp z with z | z
  ·exact a9 p hp z
  ·exact R.dj p (a4 p hp) z
theorem RS.aside {K:zbm7}{F A:List Addr}{H H':Hp}{t:Th}{σ:L2.St}{B:List Addr} (R:RS K F H A t σ) (g:Same H H') (fr:∀b∈B,H b=none) (lb:Lists H' B):RS K (B++F) H' A t σ:=by
 have np:∀b∈B,b∉A++F:=fun b hb=>zd5 R.mu (fr b hb)
 refine⟨fun p hp=>?_,R.nd,fun p hp z=>?_,RSl.mono (fun b o h=>?_) R.rel fun b _ o h=>g _ _ h⟩
 ·rcases zbn2.mp hp with z | z
  ·exact (R.mu.mono g) p (zbm8 _ z)
  ·rcases zbn2.mp z with z | z
   ·exact lb p z
   ·exact (R.mu.mono g) p (zbm6 _ z)
 ·rcases zbn2.mp z with z | z
  ·exact np p z (zbm8 _ hp)
  ·exact R.dj p hp z
 ·obtain⟨n,h⟩:=zk4 h
  refine zd1 (g _ _ h) fun z=>?_
  rcases zbn2.mp z with z | z
  ·exact n (zbm8 _ z)
  ·rcases zbn2.mp z with z | z
   ·rw [fr b z]at h;cases h
   ·exact n (zbm6 _ z)
section
variable {X:Cx}{F:List Addr}{a b c:Expr}{es:List Expr}{fa fb fc:DE}{pos:Pos}{tg:Expr}{gt:TG}{kt:D→Th→Option Th}
noncomputable def zbj3 (kt:D→Th→Option Th) (f:DE):DS:=fun t=>(f t).bind fun r=>(toDn r).bind fun d=>(kt d t).map Out.nx
theorem psd_asgN (he:PE X a (dE X.K F fa)) (hg:PG X tg gt) (ht:TgN X.K gt kt) (hs:swapsWithSole [tg] a pos.line X.env=pure false:=by rfl) (hw:swappedStores [tg] a X.env=pure none:=by rfl)
  (h1:(assignEach [tg] X.env).map (·.2)=[assign tg X.env]:=by rfl):PS X (.Assign [tg] a pos) (dS X.K F (zbj3 kt fa)):=by
 refine PS.imp (zav4 he hg hs hw h1) ?_
 rintro E σ H ⟨A,t,o,R,e,h⟩
 unfold zbj3 at e
 cases e1:fa t with
 |none=>rw [e1]at e;cases e
 |some r1 =>
  rw [e1]at e
  simp only [zbn0]at e
  cases e2:toDn r1 with
  |none=>rw [e2]at e;cases e
  |some d =>
   rw [e2]at e
   simp only [zbn0]at e
   cases e3:kt d t with
   |none=>rw [e3]at e;cases e
   |some t' =>
    rw [e3]at e
    cases e
    refine⟨A,t,r1,R,e1,fun v H' gs q=>?_⟩
    obtain⟨B,b1,b2,b3⟩:=q.toDn R.mu gs e2
    have R1:=R.aside gs b2 b3.lists
    have np:∀b∈B,b∉A++F:=fun b hb=>zd5 R.mu (b2 b hb)
    have r2:RepD X.K (hide (A++(B++F)) H') H' d v B:=RepD.mono (zb5 H' fun x hx=>by
     rcases zbn2.mp hx with z | z
     ·exact zbm6 _ (zbm8 _ z)
     ·rcases zbn2.mp z with z | z
      ·exact zbm8 _ z
      ·exact zbm6 _ (zbm6 _ z)) b3 fun _ _ _ w=>w
    refine ht F σ H' A B t t' d v E.nx R1 b1 (fun b hb z=>np b hb (zbm6 _ z)) r2 e3 fun σ2 A2 s2 R2=>h σ2 H' A2 ⟨fun b o _ w=>gs _ _ w,fun b hb=>?_,fun b hb=>?_⟩ R2
    ·obtain⟨us,u⟩:=R.mu b (zbm8 _ hb)
     rw [gs _ _ u];simp
    ·rcases s2 b hb with w | w
     ·exact .inr (b2 b w)
     ·exact .inl w
end
end DL
namespace DL
open PySem.Spec L2
noncomputable def zao7 (mx:Bool):D→List D→Option D
 |b,[]=>some b
 |b,d::ds=>(cmpD mx d b).bind fun c=>if c then zao7 mx d ds else zao7 mx b ds
noncomputable def zbh1 (mx:Bool):List Ev→Option Ev:=fun rs=>match rs with
 |[r]=>(match r.d with
  |.lst (d::ds)=>(zao7 mx d ds).bind fun x=>if flat x then some (.cl x) else none
  |_=>none)
 |_=>none
section
variable {X:Cx}{pins:List (Addr×Obj)}{σ:L2.St}{l it S:Addr}{xs:List V}{ds:List D}
theorem kn_min {H:Hp}{dres:D}{Q:VK} (hcm:X.calm=true) (hu:X.A.units+64<cLine) (hS:H S=none) (hl:SqL X.K H l xs) (hr:Reps X.K H ds xs) (hli:l≠it) (hSI:S≠it)
  (fin:∀v,Rep X.K H dres v→Q v (upd H S (.lst []))) :
  ∀(m j:Nat) (b:V) (db:D) (s:zbo3),xs.length - j=m→j≤xs.length→Inv X pins σ (upd H S (.lst [b,b])) s→s.heap.IsListIter it l j→FpOk X pins (upd H S (.lst [b,b])) it→Rep X.K H db b→zao7 false db (ds.drop j)=some dres →
   codeAny (model X.prog X.w) X.A (.builtin "min.loop" ⟨[.ref it,.none,.ref S],[]⟩) (fun r s'=>match r with | .ok (.ret u)=>EP X pins σ Q u s' | .ok _=>False | .error _=>False) s:=by
 have hname:(toString "min"++toString ".loop":String) = "min.loop":=by decide
 have sm:∀o,Same H (upd H S o):=fun o b u e=>by rw [zc8 (fun z=>by rw [z,hS]at e;cases e)];exact e
 intro m
 induction m with
 |zero =>
  intro j b db s hm hj I hit fpo rb eb
  have hin:j=xs.length:=by lia
  obtain⟨its,rv,pl,_⟩:=I.list ((sm _).seq hl)
  have hsz:its.toArray.size=xs.length:=by simp [rv.length]
  obtain⟨_,bk,nS,rS,gS⟩:=I.hok S _ zc1
  obtain⟨ub,uk,rfl,rb',rk⟩:=rS.two2
  have Wk:=Walks.list (prog:=X.prog) (w:=X.w) (A:=X.A.in1) (I.ok.hd hcm) it l hli its.toArray
  refine codeAny_builtin zbx3 ?_
  rw [Around.under_plainId zbr6 _]
  show wpAny _ X.A.in1 (seqItems? (.ref S) >>= _) _ _ _
  refine zbn6 (wpAny_seqItems gS rfl ?_)
  show wpAny _ X.A.in1 (tryCatch (pyNext (.ref it)) _ >>= _) _ _ _
  refine zbn6 (wpAny_tryCatch (Wk.done _ _ _ ⟨by rw [hsz, ← hin];exact hit,DL.PlainL.isL pl⟩ fun h' tk' hk'=>?_))
  have I1:=I.turned (t':=tk') (fun c o n e=>hk' c o (by simpa using n) e) fpo.1 fpo.2.1 fpo.2.2.2.1 fpo.2.2.2.2.1 fpo.2.2.2.2.2
  have gS1:=hk' S _ (by simpa using hSI) gS
  show wpAny _ X.A.in1 (updateSeq S (fun _ => #[]) >>= _) _ _ _
  refine zbn6 (wpAny_updateSeq gS1 rfl (zbn6 (wpAny_letGo (zbp3 ?_))))
  have g2:=get?_update_seq gS1 (fun _=>(#[]:Array Value))
  have I2:=I1.write (t':=tk') (o:=.lst []) (by rw [zc1];trivial) (.inl rfl) (fun c o n e=>(zbr0 _ _ (Ne.symm n)).trans e) ⟨_,g2⟩ ⟨by simp,[],_,.nil,g2⟩
  have ee:upd (upd H S (.lst [b,b])) S (.lst [])=upd H S (.lst []):=by funext c;unfold upd;split<;>rfl
  rw [ee]at I2
  rw [hin,zbt2 (by rw [← hr.length];exact zbp4 _)]at eb
  have eb:some db=some dres:=eb
  cases eb
  exact⟨b,_,I2,rb',fin b rb⟩
 |succ m ih =>
  intro j b db s hm hj I hit fpo rb eb
  have hlt:j<xs.length:=by lia
  obtain⟨its,rv,pl,_⟩:=I.list ((sm _).seq hl)
  have hsz:its.toArray.size=xs.length:=by simp [rv.length]
  obtain⟨_,bk,nS,rS,gS⟩:=I.hok S _ zc1
  obtain⟨ub,uk,rfl,rb',rk⟩:=rS.two2
  have Wk:=Walks.list (prog:=X.prog) (w:=X.w) (A:=X.A.in1) (I.ok.hd hcm) it l hli its.toArray
  refine codeAny_builtin zbx3 ?_
  rw [Around.under_plainId zbr6 _]
  show wpAny _ X.A.in1 (seqItems? (.ref S) >>= _) _ _ _
  refine zbn6 (wpAny_seqItems gS rfl ?_)
  show wpAny _ X.A.in1 (tryCatch (pyNext (.ref it)) _ >>= _) _ _ _
  refine zbn6 (wpAny_tryCatch (Wk.item j _ _ _ (by rw [hsz];exact hlt) ⟨hit,DL.PlainL.isL pl⟩ fun v h' tk' hP hst' hk'=>?_))
  have hv:its[j]?=some v:=by simpa using hP
  have hx:xs[j]?=some (xs[j]'hlt):=zbn9 hlt
  obtain⟨v',e',rx⟩:=rv.get hx
  rw [hv]at e'
  cases e'
  generalize xs[j]'hlt=x at hx rx
  obtain⟨d,ed,rd⟩:=hr.getV hx
  have I1:=I.turned (t':=tk') (fun c o n e=>hk' c o (by simpa using n) e) fpo.1 fpo.2.1 fpo.2.2.2.1 fpo.2.2.2.2.1 fpo.2.2.2.2.2
  obtain⟨oI,hoI,hoc,hod⟩:=id hst'.1
  have I2:=I1.pinned (fp:=[it]) (fun c hc=>by rw [zbn3.mp hc];exact fpo) (fun c hc=>by rw [zbn3.mp hc];exact⟨oI,hoI,fun z e=>by rw [hod]at e;cases e⟩)
  have gS1:=hk' S _ (by simpa using hSI) gS
  have hjd:j<ds.length:=by rw [← hr.length];exact hlt
  have ej:ds.drop j=d::ds.drop (j+1):=by rw [zbp1 hjd];rw [zbn9 hjd]at ed;cases ed;rfl
  rw [ej]at eb
  unfold zao7 at eb
  cases ec:cmpD false d db with
  |none=>rw [ec]at eb;cases eb
  |some c =>
   rw [ec]at eb
   simp only [zbn0]at eb
   show wpAny _ X.A.in1 (tryCatch (holding [v,v] (richCompare .Lt v uk >>= _)) _ >>= _) _ _ _
   refine zbn6 (wpAny_tryCatch (wpAny_holding (zbn6 (cmp_D (mx:=false) (by rfl) hu _ _ _ _ _ _ _ _ _ _ _ I2 rx rk ⟨d,db,Rep.mono (sm _) rd,Rep.mono (sm _) rb,ec⟩ fun s4 I4 g4=>?_))))
   refine zbn6 (wpAny_holding (wpAny_truthy_bool ?_))
   refine zbn6 (wpAny_letGo (zbp3 ?_))
   have I5:=I4.unpinned
   have pn4:=I4.pin (it,oI) (zbm6 _ (zbm6 _ (zf7 (by simp) hoI)))
   have gS4:=g4 _ _ gS1
   cases c with
   |true =>
    simp only [if_true]at eb ⊢
    refine zbn6 (wpAny_updateSeq gS4 rfl (zbn6 (wpAny_letGo ?_)))
    rw [hname]
    have g5:=get?_update_seq gS4 (fun _ => #[v,v])
    have I6:=I5.write (t':=s4.toks) (o:=.lst [x,x]) (by rw [zc1];trivial) (.inl rfl) (fun c o n e=>(zbr0 _ _ (Ne.symm n)).trans e) ⟨_,g5⟩ ⟨by simp [sizeLine],[v,v],_,.cons rx (.cons rx .nil),g5⟩
    have ee:upd (upd H S (.lst [b,b])) S (.lst [x,x])=upd H S (.lst [x,x]):=by funext c;unfold upd;split<;>rfl
    rw [ee]at I6
    refine zbp3 ⟨plainId_quiet zbr6 _,ih (j+1) x d _ (by lia) hlt I6 ⟨oI,(zbr0 _ _ hSI).trans pn4.1,hoc,hod⟩ ⟨?_,fpo.2⟩ rd eb⟩
    have:=fpo.1
    rw [zc8 (Ne.symm hSI)]at this ⊢
    exact this
   |false =>
    simp only [zbv2,if_false]at eb ⊢
    refine zbn6 (wpAny_letGo ?_)
    rw [hname]
    exact zbp3 ⟨plainId_quiet zbr6 _,ih (j+1) b db _ (by lia) hlt I5 ⟨oI,pn4.1,hoc,hod⟩ fpo rb eb⟩
theorem na_min (a:Value):argsOk "min" ⟨[a],[]⟩:=by unfold argsOk;kernel_rfl
theorem zbk8 (hcm:X.calm=true) (hu:X.A.units+64<cLine):zp0 X (.builtin "min") (fun ys H Q => ∃(l:Addr) (xs:List V) (d:D) (ds:List D) (dres:D),ys=[.ref l]∧SqL X.K H l xs∧Reps X.K H (d::ds) xs∧zao7 false d ds=some dres∧∀S v,H S=none→Rep X.K H dres v→Q v (upd H S (.lst []))):=by
 intro pins s σ H ys us Q I rr h
 obtain⟨l,xs,d,ds,dres,rfl,hl,hr,eb,fin⟩:=h
 obtain⟨u,rfl,ru⟩:=zy3 rr
 cases ru
 have hname:(toString "min"++toString ".loop":String) = "min.loop":=by decide
 obtain⟨its,rv,pl,_⟩:=I.list hl
 have hls:=DL.PlainL.isL pl
 obtain⟨ol,hol,_⟩:=id hls
 have hll:l<s.heap.objs.size:=zbo6 hol
 have hlen:0<xs.length:=by rw [hr.length];simp
 refine kmk_tree PySem.F.kind_min PySem.F.plain_min PySem.F.entry_min (na_min _) ?_
 show wpAny _ X.A.in1 (Builtin.Builtins.bindParams "min" ["key", "default"] 0 ⟨[],[]⟩ >>= _) _ _ s
 refine zbn6 (wpAny_of_eq (show Builtin.Builtins.bindParams "min" ["key", "default"] 0 ⟨[],[]⟩=pure [none,none] from rfl) ?_)
 refine zbn6 (zbp3 ?_)
 refine zbn6 (wpAny_pyIter_list hls ?_)
 refine zbn6 (wpAny_newList ?_ (zbz6 _))
 rw [hname]
 refine zbp3 ⟨plainId_quiet zbr6 _,?_⟩
 have I1:Inv X pins σ H { s with heap:=s.heap.push { cls:=.type "list_iterator",data:=.fields #[.ref l,.int 0 0] },toks:=s.toks }:=I.kept (fun _ _ e=>zbn8 _ e)
 have I2:=I1.lnew (its:=[]) (t':=s.toks) .nil (by simp)
 have hS:(s.heap.push { cls:=.type "list_iterator",data:=.fields #[.ref l,.int 0 0] }).objs.size=s.heap.objs.size+1:=zbu4 ..
 generalize hSS:(s.heap.push { cls:=.type "list_iterator",data:=.fields #[.ref l,.int 0 0] }).objs.size=S at hS I2 ⊢
 have nS:H S=none:=I.hok.fresh (by lia)
 have nit:H s.heap.objs.size=none:=I.fresh
 have hSI:S≠s.heap.objs.size:=by lia
 have fpo0:FpOk X pins H s.heap.objs.size:=I.fpOk (zbp4 _) nit
 have fpo:FpOk X pins (upd H S (.lst [])) s.heap.objs.size:=⟨by rw [zc8 (Ne.symm hSI)];exact nit,fpo0.2⟩
 have sm:∀o,Same H (upd H S o):=fun o b u e=>by rw [zc8 (fun z=>by rw [z,nS]at e;cases e)];exact e
 have hl1:SqL X.K (upd H S (.lst [])) l xs:=(sm _).seq hl
 have hli:l≠s.heap.objs.size:=zbp8 hll
 obtain⟨its1,rv1,pl1,_⟩:=I2.list hl1
 have hsz:its1.toArray.size=xs.length:=by simp [rv1.length]
 have gI:((s.heap.push { cls:=.type "list_iterator",data:=.fields #[.ref l,.int 0 0] }).push { cls:=.type "list",data:=.seq ([]:List Value).toArray }).get? s.heap.objs.size=some { cls:=.type "list_iterator",data:=.fields #[.ref l,.int 0 0] } :=
  zbn8 _ (zbp5 _ rfl)
 have gS:((s.heap.push { cls:=.type "list_iterator",data:=.fields #[.ref l,.int 0 0] }).push { cls:=.type "list",data:=.seq ([]:List Value).toArray }).get? S=some (seqObj "list" #[] 0):=hSS ▸ zbp5 _ rfl
 have Wk:=Walks.list (prog:=X.prog) (w:=X.w) (A:=X.A.in1) (I.ok.hd hcm) s.heap.objs.size l hli its1.toArray
 refine codeAny_builtin zbx3 ?_
 rw [Around.under_plainId zbr6 _]
 show wpAny _ X.A.in1 (seqItems? (.ref S) >>= _) _ _ _
 refine zbn6 (wpAny_seqItems gS rfl ?_)
 show wpAny _ X.A.in1 (tryCatch (pyNext (.ref s.heap.objs.size)) _ >>= _) _ _ _
 refine zbn6 (wpAny_tryCatch (Wk.item 0 _ _ _ (by rw [hsz];exact hlen) ⟨⟨_,gI,rfl,rfl⟩,DL.PlainL.isL pl1⟩ fun v h' tk' hP hst' hk'=>?_))
 have hv:its1[0]?=some v:=by simpa using hP
 cases hr with
 |@cons _ x0 _ xr rd rr' =>
 obtain⟨v',e',rx⟩:=rv1.get (show (x0::xr)[0]?=some x0 from rfl)
 rw [hv]at e'
 cases e'
 have I3:=I2.turned (t':=tk') (fun c o n e=>hk' c o (by simpa using n) e) fpo.1 fpo.2.1 fpo.2.2.2.1 fpo.2.2.2.2.1 fpo.2.2.2.2.2
 obtain⟨oI,hoI,hoc,hod⟩:=id hst'.1
 have gS2:=hk' S _ (by simpa using hSI) gS
 show wpAny _ X.A.in1 (updateSeq S (fun _ => #[v,v]) >>= _) _ _ _
 refine zbn6 (wpAny_updateSeq gS2 rfl ?_)
 rw [hname]
 have g5:=get?_update_seq gS2 (fun _ => #[v,v])
 have I6:=I3.write (t':=tk') (o:=.lst [x0,x0]) (by rw [zc1];trivial) (.inl rfl) (fun c o n e=>(zbr0 _ _ (Ne.symm n)).trans e) ⟨_,g5⟩ ⟨by simp [sizeLine],[v,v],_,.cons rx (.cons rx .nil),g5⟩
 have ee:upd (upd H S (.lst [])) S (.lst [x0,x0])=upd H S (.lst [x0,x0]):=by funext c;unfold upd;split<;>rfl
 rw [ee]at I6
 refine zbp3 ⟨plainId_quiet zbr6 _,codeAny_mono (kn_min (Q:=Q) (ds:=d::ds) hcm hu nS hl (.cons rd rr') hli hSI (fun v rv=>fin S v nS rv) _ 1 x0 d _ rfl hlen I6 ⟨oI,(zbr0 _ _ hSI).trans hoI,hoc,hod⟩ ⟨by rw [zc8 (Ne.symm hSI)];exact nit,fpo.2⟩ rd eb) fun r s' hr=>?_⟩
 cases r with
 |error e=>exact hr.elim
 |ok fl=>cases fl with
  |ret u=>exact hr
  |next=>exact hr.elim
  |brk=>exact hr.elim
  |cont=>exact hr.elim
variable {F:List Addr}
theorem cd_minT (hcm:X.calm=true) (hu:X.A.units+64<cLine):CallD X F (.builtin "min") (zbh1 false):=by
 intro pins s σ H0 H A ys us Q rs r I hL gs v rr e hq
 unfold zbh1 at e
 split at e
 case h_2=>cases e
 rename_i r1
 split at e
 case h_2=>cases e
 rename_i d ds z
 cases eb:zao7 false d ds with
 |none=>rw [eb]at e;cases e
 |some x =>
  rw [eb]at e
  simp only [zbn0]at e
  split at e
  case isFalse=>cases e
  rename_i fx
  cases e
  cases rr with
  |@cons _ y _ _ r1' rn =>
  cases rn
  have p:=r1'.full
  rw [z]at p
  cases p with
  |@lst _ l ws h1 h2 =>
   refine zbk8 hcm hu pins s σ H _ us Q I v ⟨l,ws,d,ds,x,rfl,h1,h2,eb,fun S w nS rw'=>?_⟩
   have sm:Same H (upd H S (.lst [])):=fun b u e=>by rw [zc8 (fun z=>by rw [z,nS]at e;cases e)];exact e
   exact hq w _ sm (Rep.mono (zb6 sm) (Rep.hid (hL.mono gs) fx rw'))
end
end DL
namespace DL
open PySem.Spec L2
noncomputable abbrev DM:=Th→Option (D×Th)
noncomputable abbrev DMs:=Th→Option (List D×Th)
structure Mv (K:zbm7) (F A:List Addr) (H H':Hp) (B A':List Addr) (t':Th) (σ:L2.St):Prop where
 sm:Same H H'
 nd:B.Nodup
 dj:∀b∈B,b∉F
 rs:RS K (B++F) H' A' t' σ
 fr:∀b∈B,b∈A∨H b=none
 sb:∀b∈A',b∈A
noncomputable def dM (K:zbm7) (F:List Addr) (f:DM):TE:=fun σ H Q => ∃A t d t',RS K F H A t σ∧f t=some (d,t')∧∀v H' B A',Mv K F A H H' B A' t' σ→RepD K (hide (A'++(B++F)) H') H' d v B→Q v H'
noncomputable def dMs (K:zbm7) (F:List Addr) (f:DMs):TA:=fun σ H Q => ∃A t ds t',RS K F H A t σ∧f t=some (ds,t')∧∀vs H' B A',Mv K F A H H' B A' t' σ→RepDs K (hide (A'++(B++F)) H') H' ds vs B→Q vs H'
theorem RSl.loseOwn {K:zbm7}{H0 H:Hp}:∀ {t:Th}{σ:L2.St}{A:List Addr},RSl K H0 H t σ A→A.Nodup→∀ {i:Nat}{ds:List D},t[i]?=some (.own ds)→∃p vs A',σ[i]?=some (some (.ref p))∧H p=some (.lst vs)∧Reps K H0 ds vs∧RSl K H0 H (t.set i .no) σ A'∧(∀x∈A',x∈A)∧p∈A∧(∀x∈A,x=p∨x∈A')∧A'.Nodup∧p∉A':=by
 intro _ _ _ h
 induction h with
 |nil =>
  intro n i d e
  simp at e
 |@no _ _ _ _ r ih =>
  intro n i d e
  cases i with
  |zero =>
   simp at e
  |succ i =>
   obtain⟨v,B,A',a1,a2,a2',a3,a4⟩:=ih n (i:=i) (ds:=d) (by simpa using e)
   exact⟨v,B,A',by simpa using a1,a2,a2',.no a3,a4⟩
 |@val _ _ _ _ _ h r ih =>
  intro n i d e
  cases i with
  |zero =>
   simp at e
  |succ i =>
   obtain⟨v,B,A',a1,a2,a2',a3,a4⟩:=ih n (i:=i) (ds:=d) (by simpa using e)
   exact⟨v,B,A',by simpa using a1,a2,a2',.val h a3,a4⟩
 |@own q vs _ _ _ A h1 h2 r ih =>
  intro n i d e
  cases i with
  |zero =>
   simp at e;subst e
   have n0:=zbo9.mp n
   exact⟨q,vs,A,rfl,h1,h2,.no r,fun x hx=>zbm9 _ hx,zbn1 ..,fun x hx=>zbn5.mp hx,n0.2,n0.1⟩
  |succ i =>
   have n0:=zbo9.mp n
   obtain⟨p,vs,A',a1,a2,a2',a3,a4,a5,a6,a7,a8⟩:=ih n0.2 (i:=i) (ds:=d) (by simpa using e)
   refine⟨p,vs,q::A',by simpa using a1,a2,a2',.own h1 h2 a3,fun x hx=>?_,zbm9 _ a5,fun x hx=>?_,zbo9.mpr ⟨fun z=>n0.1 (a4 q z),a7⟩,fun z=>?_⟩
   ·rcases zbn5.mp hx with w | w
    ·rw [w];exact zbn1 ..
    ·exact zbm9 _ (a4 x w)
   ·rcases zbn5.mp hx with w | w
    ·rw [w];exact .inr (zbn1 ..)
    ·exact (a6 x w).imp id (zbm9 _)
   ·rcases zbn5.mp z with w | w
    ·exact n0.1 (w ▸ a5)
    ·exact a8 w
 |@dp _ _ C _ _ _ h r ih =>
  intro n i d e
  cases i with
  |zero =>
   simp at e
  |succ i =>
   have n0:=zbo5.mp n
   obtain⟨p,vs,A',a1,a2,a2',a3,a4,a5,a6,a7,a8⟩:=ih n0.2.1 (i:=i) (ds:=d) (by simpa using e)
   refine⟨p,vs,C++A',by simpa using a1,a2,a2',.dp h a3,fun x hx=>?_,zbm6 _ a5,fun x hx=>?_,zbo5.mpr ⟨n0.1,a7,fun x hx y hy e=>n0.2.2 x hx y (a4 y hy) e⟩,fun z=>?_⟩
   ·rcases zbn2.mp hx with w | w
    ·exact zbm8 _ w
    ·exact zbm6 _ (a4 x w)
   ·rcases zbn2.mp hx with w | w
    ·exact .inr (zbm8 _ w)
    ·exact (a6 x w).imp id (zbm6 _)
   ·rcases zbn2.mp z with w | w
    ·exact n0.2.2 p w p a5 rfl
    ·exact a8 w
theorem RS.takeOwn {K:zbm7}{F A:List Addr}{H:Hp}{t:Th}{σ:L2.St}{i:Nat}{ds:List D} (R:RS K F H A t σ) (e:t[i]?=some (.own ds)) :
  ∃p vs A',σ[i]?=some (some (.ref p))∧RS K ([p]++F) H A' (t.set i .no) σ∧p∉F∧H p=some (.lst vs)∧Reps K (hide (A'++([p]++F)) H) ds vs∧(∀x∈A',x∈A)∧p∈A:=by
 obtain⟨p,vs,A',a1,a2,a2',a3,a4,a5,a6,a7,a8⟩:=R.rel.loseOwn R.nd e
 have s:Same (hide (A++F) H) (hide (A'++([p]++F)) H):=zb5 H fun x hx=>by
  rcases zbn2.mp hx with z | z
  ·exact zbm8 _ (a4 x z)
  ·rcases zbn2.mp z with z | z
   ·rw [zbn3.mp z];exact zbm8 _ a5
   ·exact zbm6 _ z
 refine⟨p,vs,A',a1,⟨fun q hp=>?_,a7,fun q hp z=>?_,RSl.mono s a3 fun _ _ _ w=>w⟩,R.dj p a5,a2,Reps.mono s a2',a4,a5⟩
 ·rcases zbn2.mp hp with z | z
  ·exact R.mu q (zbm8 _ (a4 q z))
  ·rcases zbn2.mp z with z | z
   ·rw [zbn3.mp z];exact R.mu p (zbm8 _ a5)
   ·exact R.mu q (zbm6 _ z)
 ·rcases zbn2.mp z with z | z
  ·rw [zbn3.mp z]at hp;exact a8 hp
  ·exact R.dj q (a4 q hp) z
section
variable {X:Cx}{F:List Addr}{a b c o:Expr}{es:List Expr}{fa fb fc:DE}{fn:DM}{fns:DMs}{pos:Pos}
noncomputable def mOwn (i:Nat):DM:=fun t=>match t[i]? with
 |some (.own xs)=>if flats xs then some (.lst xs,t.set i .no) else none
 |some (.dp d)=>some (d,t.set i .no)
 |some (.val d)=>if flat d then some (d,t) else none
 |_=>none
theorem pm_own (i:Nat) {x:Str} (hN:X.N[i]?=some x:=by rfl) (hv:Vis X.env.scope x:=by first | exact Or.inl rfl | exact Or.inr (Or.inl rfl) |exact Or.inr (Or.inr rfl)) (hd:(x ==("__debug__":Str))=false:=by decide)
  (hcd:(x ==("__classdict__":Str))=false:=by decide):PE X (.Name x pos) (dM X.K F (mOwn i)):=by
 refine PE.imp (zq7 (i:=i) hN hv hd hcd) ?_
 rintro σ H Q ⟨A,t,d,t',R,e,h⟩
 unfold mOwn at e
 split at e
 ·rename_i xs q
  split at e
  case isFalse=>cases e
  rename_i f
  cases e
  obtain⟨p,vs,A',a1,R1,a3,a4,a5,a6,a7⟩:=R.takeOwn q
  exact⟨_,a1,h _ H [p] A' ⟨Same.refl H,by simp,fun b hb=>by rw [zbn3.mp hb];exact a3,R1,fun b hb=>by rw [zbn3.mp hb];exact .inl a7,a6⟩ (.lst a4 (RepDs.of_flat f a5))⟩
 ·rename_i d0 q
  cases e
  obtain⟨v,B,A',a1,R1,a3,a4,a5,a6,a7⟩:=R.takeDp q
  exact⟨v,a1,h v H B A' ⟨Same.refl H,a3,a4,R1,fun b hb=>.inl (a7 b hb),a6⟩ a5⟩
 ·rename_i d0 q
  split at e
  case isFalse=>cases e
  rename_i f
  cases e
  obtain⟨v,h1,h2⟩:=R.rel.getVal q
  exact⟨v,h1,h v H [] A ⟨Same.refl H,zbr7,fun b hb=>(by cases hb),R,fun b hb=>(by cases hb),fun b hb=>hb⟩ (.flat f h2)⟩
 ·cases e
noncomputable def mOf (f:DE):DM:=fun t=>(f t).bind fun r=>(toDn r).map fun d=>(d,t)
theorem zbh7 {A B F:List Addr}{H:Hp}:Same (hide (B++(A++F)) H) (hide (A++(B++F)) H):=zb5 H fun x hx=>by
 rcases zbn2.mp hx with z | z
 ·exact zbm6 _ (zbm8 _ z)
 ·rcases zbn2.mp z with z | z
  ·exact zbm8 _ z
  ·exact zbm6 _ (zbm6 _ z)
theorem pm_of (he:PE X a (dE X.K F fa)):PE X a (dM X.K F (mOf fa)):=by
 refine PE.imp he ?_
 rintro σ H Q ⟨A,t,d,t',R,e,h⟩
 unfold mOf at e
 cases e1:fa t with
 |none=>rw [e1]at e;cases e
 |some r =>
  rw [e1]at e
  simp only [zbn0]at e
  cases e2:toDn r with
  |none=>rw [e2]at e;cases e
  |some d0 =>
   rw [e2]at e
   cases e
   refine⟨A,t,r,R,e1,fun v H' gs q=>?_⟩
   obtain⟨B,b1,b2,b3⟩:=q.toDn R.mu gs e2
   exact h v H' B A ⟨gs,b1,fun b hb z=>zd5 R.mu (b2 b hb) (zbm6 _ z),R.aside gs b2 b3.lists,fun b hb=>.inr (b2 b hb),fun b hb=>hb⟩ (RepD.mono zbh7 b3 fun _ _ _ w=>w)
noncomputable def mNil:DMs:=fun t=>some ([],t)
noncomputable def zar3 (f:DM) (g:DMs):DMs:=fun t=>(f t).bind fun q=>(g q.2).bind fun w=>some (q.1::w.1,w.2)
theorem pms_nil:PA X [] (dMs X.K F mNil):=PA.imp zm1 fun σ H Q ⟨A,t,ds,t',R,e,h⟩=>by cases e;exact h [] H [] A ⟨Same.refl H,zbr7,fun b hb=>(by cases hb),R,fun b hb=>(by cases hb),fun b hb=>hb⟩ .nil
theorem zav5 (ha:∀F,PE X a (dM X.K F fn)) (hr:∀F,PA X es (dMs X.K F fns)) (hs:zbo8 (a::es) X.env=(false,eval a X.env)::zbo8 es X.env:=by rfl):PA X (a::es) (dMs X.K F (zar3 fn fns)):=by
 intro p pins s σ H Q I h
 obtain⟨A,t,ds,t',R,e,h⟩:=h
 unfold zar3 at e
 cases e1:fn t with
 |none=>rw [e1]at e;cases e
 |some q1 =>
  obtain⟨d1,t1⟩:=q1
  rw [e1]at e
  simp only [zbn0]at e
  cases e2:fns t1 with
  |none=>rw [e2]at e;cases e
  |some q2 =>
   obtain⟨ds2,t2⟩:=q2
   rw [e2]at e
   cases e
   rw [hs]
   show wpAny _ _ (spliced ((false,eval a X.env)::zbu1 p (zbo8 es X.env))) _ _ s
   refine Calls.spliced_cons (thn (ha F pins s σ H (fun v H1 => ∃B1 A1,Mv X.K F A H H1 B1 A1 t1 σ∧RepD X.K (hide (A1++(B1++F)) H1) H1 d1 v B1) I ⟨A,t,d1,t1,R,e1,fun v H1 B1 A1 m1 r1=>⟨B1,A1,m1,r1⟩⟩) fun u s1 ⟨x,H1,I1,rx,B1,A1,m1,r1⟩=>?_)
   refine thn (hr (B1++F) p pins s1 σ H1 (fun vs H2=>Q (x::vs) H2) I1 ⟨A1,t1,ds2,t2,m1.rs,e2,fun vs H2 B2 A2 m2 r2=>?_⟩) fun us s2 ⟨xs,H2,I2,rx2,q2⟩=>⟨x::xs,H2,I2,.cons rx rx2,q2⟩
   have l1:Lists H2 B1:=r1.lists.mono m2.sm
   have d21:∀b∈B2,b∉B1:=fun b hb z=>m2.dj b hb (zbm8 _ z)
   have mem:∀x,x∈A2++((B1++B2)++F)→x∈A2++(B2++(B1++F)):=fun x hx=>by
    simp only [zbn2]at hx ⊢
    rcases hx with z | (z | z) |z
    ·exact .inl z
    ·exact .inr (.inr (.inl z))
    ·exact .inr (.inl z)
    ·exact .inr (.inr (.inr z))
   have mem':∀x,x∈(B1++B2)++F→x∈B2++(B1++F):=fun x hx=>by
    simp only [zbn2]at hx ⊢
    rcases hx with (z | z) |z
    ·exact .inr (.inl z)
    ·exact .inl z
    ·exact .inr (.inr z)
   refine h (x::vs) H2 (B1++B2) A2 ⟨m1.sm.trans m2.sm,zbo5.mpr ⟨m1.nd,m2.nd,fun y hy z hz e=>d21 z hz (e ▸ hy)⟩,fun b hb=>?_,m2.rs.less mem',fun b hb=>?_,fun b hb=>m1.sb b (m2.sb b hb)⟩ (.cons (B:=B1) (C:=B2) (RepD.hid (fun y hy=>m2.rs.mu y (mem y hy)) (zc2 _ _) (RepD.mono (H0':=hide B1 H2) (fun b o w=>?_) r1 fun _ _ _ w=>m2.sm _ _ w)) (RepDs.mono (zb5 H2 mem) r2 fun _ _ _ w=>w))
   ·rcases zbn2.mp hb with z | z
    ·exact m1.dj b z
    ·exact fun w=>m2.dj b z (zbm6 _ w)
   ·rcases zbn2.mp hb with z | z
    ·exact m1.fr b z
    ·rcases m2.fr b z with w | w
     ·exact .inl (m1.sb b w)
     ·exact .inr (Same.free m1.sm w)
   ·obtain⟨n,w⟩:=zk4 w
    exact zd1 (m2.sm _ _ w) fun z=>n (zbm6 _ (zbm8 _ z))
noncomputable def mTup (g:DMs):DM:=fun t=>(g t).bind fun q=>if q.1.length≤1000 then some (.tup q.1,q.2) else none
theorem pm_tup {x1} (h:PA X es (dMs X.K F fns)):PE X (.Tuple es x1 pos) (dM X.K F (mTup fns)):=by
 refine PE.imp (pe_tup h) ?_
 rintro σ H Q ⟨A,t,d,t',R,e,h⟩
 unfold mTup at e
 cases e1:fns t with
 |none=>rw [e1]at e;cases e
 |some q =>
  obtain⟨ds,t2⟩:=q
  rw [e1]at e
  simp only [zbn0]at e
  split at e
  case isFalse=>cases e
  rename_i hl
  cases e
  refine⟨A,t,ds,t',R,e1,fun vs H1 B A1 m1 r1=>⟨by rw [r1.length];exact le_line (by lia),fun p hp=>?_⟩⟩
  have s1:=zd2 (o:=HO.tup vs) hp
  have np:p∉A1++(B++F):=zd5 m1.rs.mu hp
  exact h _ _ B A1 ⟨m1.sm.trans s1,m1.nd,m1.dj,m1.rs.grow s1,m1.fr,m1.sb⟩ (.tup (SqT.of (zd1 zc1 np)) (RepDs.mono (zb6 s1) r1 fun _ _ _ w=>s1 _ _ w))
noncomputable def zbj2 (f:DM):DS:=fun t=>(f t).bind fun q=>some (.rt (.dn q.1))
theorem psd_retM (ha:PE X a (dM X.K F fn)):PS X (.Return (some a) pos) (dS X.K F (zbj2 fn)):=by
 refine PS.imp (zbd5 ha) ?_
 rintro E σ H ⟨A,t,o,R,e,h⟩
 unfold zbj2 at e
 cases e1:fn t with
 |none=>rw [e1]at e;cases e
 |some q =>
  rw [e1]at e
  cases e
  refine⟨A,t,q.1,q.2,R,e1,fun v H' B A' m r1=>h v H' A (Gr.of_same R.mu.left m.sm) ⟨B,m.nd,fun b hb=>⟨m.fr b hb,m.dj b hb⟩,RepD.mono (zb5 H' fun a z=>zbm6 _ z) r1 fun _ _ _ w=>w⟩⟩
end
end DL
namespace TS
section
variable (κ π:Keyed→Int)
noncomputable def rk (x:Keyed):Int:=κ x*1048576+π x
noncomputable def Ris (l:List Keyed):Prop:=l.Pairwise fun a b=>rk κ π a≤rk κ π b
noncomputable def Below (l m:List Keyed):Prop := ∀a∈l,∀b∈m,rk κ π a≤rk κ π b
variable {κ π}
structure Lo (X Y out:List Keyed) (i j:Nat):Prop where
 pm:out.Perm (X.take i++Y.take j)
 rs:Ris κ π out
 bx:Below κ π out (X.drop i)
 by':Below κ π out (Y.drop j)
variable {X Y out:List Keyed}{i j:Nat}
structure Hi (X Y out:List Keyed) (i j:Nat):Prop where
 pm:out.Perm (X.drop i++Y.drop j)
 rs:Ris κ π out.reverse
 bx:Below κ π (X.take i) out
 by':Below κ π (Y.take j) out
end
end TS
namespace TS
structure Cmp (M:Model) (A:Around) (E:Value→zbo3→Prop) (s:zbo3) (κ π:Keyed→Int) (a₀:Array Keyed) (kd:SortKind):Prop where
 lt:∀(st:SortSt) (x y:Keyed) (Q:Option Bool→SortSt→Prop),kindOf st=kd→x∈a₀.toList→y∈a₀.toList→Q (some (decide (κ x<κ y))) st→wpS M A E s (lt' x y) Q st
 pi:∀x∈a₀.toList,0≤π x∧π x<1048576
section
variable {M:Model}{A:Around}{E:Value→zbo3→Prop}{s:zbo3}{κ π:Keyed→Int}{a₀:Array Keyed}{kd:SortKind} (C:Cmp M A E s κ π a₀ kd)
structure SameS (st st':SortSt):Prop where
 arr:arrOf st'=arrOf st
 knd:kindOf st'=kindOf st
 pnd:pendingOf st'=pendingOf st
 fld:failedOf st'=failedOf st
theorem SameS.trans {a b c:SortSt} (h:SameS a b) (g:SameS b c):SameS a c:=⟨g.arr.trans h.arr,g.knd.trans h.knd,g.pnd.trans h.pnd,g.fld.trans h.fld⟩
structure Two (κ π:Keyed→Int) (a₀:Array Keyed) (xs ys:Array Keyed):Prop where
 mx:∀x∈xs.toList,x∈a₀.toList
 my:∀y∈ys.toList,y∈a₀.toList
 rx:Ris κ π xs.toList
 ry:Ris κ π ys.toList
 sep:∀x∈xs.toList,∀y∈ys.toList,π x≤π y
 px:0<xs.size
 py:0<ys.size
 first:∀x y,xs[0]?=some x→ys[0]?=some y→κ y<κ x
 last:∀x,xs[xs.size - 1]?=some x→∀y∈ys.toList,κ y<κ x
variable {xs ys:Array Keyed}{st:SortSt} (hk:kindOf st=kd) (T:Two κ π a₀ xs ys)
end
end TS
namespace TS
section
variable {M:Model}{A:Around}{E:Value→zbo3→Prop}{s:zbo3}{κ π:Keyed→Int}{a₀:Array Keyed}{kd:SortKind} (C:Cmp M A E s κ π a₀ kd)
noncomputable def sepL (π:Keyed→Int) (l m:List Keyed):Prop := ∀a∈l,∀b∈m,π a≤π b
end
end TS
namespace TS
noncomputable def kA (f:Keyed→Int) (xs:Array Keyed) (i:Nat):Int:=match xs[i]? with
 |some p=>f p
 |none=>0
structure Chg (xs zs:Array Keyed) (lo hi:Nat):Prop where
 pm:zs.Perm xs
 out:∀i,i<lo∨hi≤i→zs[i]?=xs[i]?
 ins:∀i,lo≤i→i<hi→∃j,lo≤j∧j<hi∧zs[i]?=xs[j]?
theorem Chg.size {xs zs:Array Keyed}{lo hi:Nat} (h:Chg xs zs lo hi):zs.size=xs.size:=h.pm.size_eq
section
variable {M:Model}{A:Around}{E:Value→zbo3→Prop}{s:zbo3}{κ π:Keyed→Int}{a₀:Array Keyed}{kd:SortKind} (C:Cmp M A E s κ π a₀ kd)
noncomputable def rA (κ π:Keyed→Int) (xs:Array Keyed) (i:Nat):Int:=kA κ xs i*1048576+kA π xs i
structure TB (a₀:Array Keyed) (kd:SortKind) (st:SortSt):Prop where
 pm:(arrOf st).Perm a₀
 kind:kindOf st=kd
 fld:failedOf st=none
theorem TB.size {st:SortSt} (h:TB a₀ kd st):(arrOf st).size=a₀.size:=h.pm.size_eq
end
end TS
namespace TS
section
variable {M:Model}{A:Around}{E:Value→zbo3→Prop}{s:zbo3}{κ π:Keyed→Int}{a₀:Array Keyed}{kd:SortKind} (C:Cmp M A E s κ π a₀ kd)
structure Dn (κ π:Keyed→Int) (a₀:Array Keyed) (kd:SortKind) (st0:SortSt) (lo x q:Nat) (st:SortSt):Prop where
 tb:TB a₀ kd st
 pd:pendingOf st=pendingOf st0
 ch:Chg (arrOf st0) (arrOf st) lo (lo+x)
 le:q+1≤x
 un:∀i,lo+x - (q+1)≤i→(arrOf st)[i]?=(arrOf st0)[i]?
 eq:∀i,lo+x - (q+1)≤i→i<lo+x→kA κ (arrOf st) i=kA κ (arrOf st) (lo+x - 1)
 fl:∀i j,lo≤i→i≤j→j<lo+x - (q+1)→rA κ π (arrOf st) j≤rA κ π (arrOf st) i
 gt:∀i,lo≤i→i<lo+x - (q+1)→kA κ (arrOf st) (lo+x - 1)<kA κ (arrOf st) i
end
end TS
namespace TS
noncomputable def MatchP:Nat→List (List Keyed)→List (Nat×Nat×Nat)→Prop
 |_,[],[]=>True
 |lo,L::Ls,q::ps=>q.1=lo∧q.2.1=L.length∧MatchP (lo+L.length) Ls ps
 |_,_,_=>False
section
variable {M:Model}{A:Around}{E:Value→zbo3→Prop}{s:zbo3}{κ π:Keyed→Int}{a₀:Array Keyed}{kd:SortKind} (C:Cmp M A E s κ π a₀ kd)
structure Runs (κ π:Keyed→Int) (a₀:Array Keyed) (kd:SortKind) (st:SortSt) (Ls:List (List Keyed)) (post:List Keyed):Prop where
 tb:TB a₀ kd st
 ar:(arrOf st).toList=Ls.flatten++post
 mt:MatchP 0 Ls (pendingOf st).toList
 ok:∀L∈Ls,Ris κ π L∧L≠[]
 sp:Ls.Pairwise (sepL π)
end
end TS
namespace TS
section
variable {M:Model}{A:Around}{E:Value→zbo3→Prop}{s:zbo3}{κ π:Keyed→Int}{a₀:Array Keyed}{kd:SortKind} (C:Cmp M A E s κ π a₀ kd)
structure Btw (κ π:Keyed→Int) (a₀:Array Keyed) (kd:SortKind) (lo:Nat) (st:SortSt) (Ls:List (List Keyed)) (rest:List Keyed):Prop where
 rn:Runs κ π a₀ kd st Ls rest
 ln:Ls.flatten.length=lo
 sp:sepL π Ls.flatten rest
 up:rest.Pairwise fun a b=>π a≤π b
end
end TS
namespace DL
open PySem.Spec L2 TS
noncomputable def zb9 (n:Nat):List Int:=(zbp2 n).map fun (i:Nat)=>(i:Int)
theorem ze2 (n:Nat):(zb9 n).length=n:=by simp [zb9]
theorem zbf2 {n i:Nat}{x:Int} (h:(zb9 n)[i]?=some x):x=(i:Int)∧i<n:=by
 unfold zb9 at h
 rw [zbp7]at h
 cases e:(zbp2 n)[i]? with
 |none=>rw [e]at h;cases h
 |some j =>
  rw [e]at h
  obtain⟨h1,h2⟩:=zbr5.mp e
  simp at h1 h2
  cases h
  exact⟨by rw [h2],h1⟩
theorem zz2 {i:Int} (h0:0≤i) (h1:i≤100000):Builtin.Range.rangeFitsLong i=true:=by
 unfold Builtin.Range.rangeFitsLong
 have e:(2:Int) ^ 63=9223372036854775808:=by decide
 rw [e]
 simp only [zbo2,decide_eq_true_eq]
 lia
theorem small_of {n:Int} (h0:0≤n) (h1:n≤100000):Builtin.Range.small 0 n 1=true:=by
 have rs:Builtin.Range.rangeSize 0 n 1=n:=by simp only [Builtin.Range.rangeSize];lia
 unfold Builtin.Range.small
 rw [rs,zz2 (i:=0) (by lia) (by lia),zz2 h0 h1,zz2 (i:=1) (by lia) (by lia),if_pos (by lia),zz2 (i:=n+(1 - 1)) (by lia) (by lia),zbs2]
 rfl
end DL
namespace DL
open PySem.Spec L2
section
variable {X:Cx}{F:List Addr}
noncomputable def zar8:List Ev→Option Ev:=fun rs=>match rs with
 |[r]=>(match r.d with
  |.bl b=>some (.cl (.int (if b then 1 else 0)))
  |_=>none)
 |_=>none
theorem zbl3:zp0 X (.type "int") (fun xs H Q => ∃b:Bool,xs=[.bl b]∧Q (.int (if b then 1 else 0)) H):=by
 intro pins s σ H xs us Q I r h
 obtain⟨b,rfl,q⟩:=h
 obtain⟨u,rfl,ru⟩:=zy3 r
 cases ru
 exact PySem.call_int_bool ⟨.int _,H,I.tok _,⟨_,rfl⟩,q⟩
theorem zbk5:CallD X F (.type "int") zar8:=CallD.of zbl3 fun H0 H A xs rs e Q m g q ek hq=>by
 unfold zar8 at ek
 split at ek
 case h_2=>cases ek
 cases q with
 |cons q1 q2 =>
  cases q2
  split at ek
  case h_2=>cases ek
  rename_i b z
  cases ek
  have p:=q1.full
  rw [z]at p
  cases p
  exact⟨b,rfl,hq _ H (Same.refl H) (.int _)⟩
end
end DL
namespace DL
open PySem.Spec L2
noncomputable def spT (K:zbm7) (G:D→List D→List D→D→Option (List Int×List Int)):Sp:=fun vs H Q _ => ∃(v0 v3:V) (p q:Addr) (ws us:List V) (d0 d3:D) (xs ys:List D) (r:List Int×List Int),vs=[v0,.ref p,.ref q,v3]∧p≠q∧H p=some (.lst ws)∧H q=some (.lst us) ∧
 Rep K (hide [p,q] H) d0 v0∧Reps K (hide [p,q] H) xs ws∧Reps K (hide [p,q] H) ys us∧Rep K (hide [p,q] H) d3 v3∧G d0 xs ys d3=some r ∧
 ∀H',(∀b o,b≠p→b≠q→H b=some o→H' b=some o)→H' p=some (.lst (r.1.map V.int))→H' q=some (.lst (r.2.map V.int))→Q .non H'
structure CalT (P:Program) (w:World) (K:zbm7) (mg:Str→Option Value) (base:BHeap) (x:Str) (k:Nat) (G:D→List D→List D→D→Option (List Int×List Int)):Prop where
 ex:∃(a:Addr) (fd:FuncData) (ps:List Str),mg x=some (.ref a)∧zbs0 K (.ref a)=true∧L2.Binds K fd ps []∧FnOk P w K mg base CX0 k a fd ps (spT K G)
section
variable {X:Cx}{F:List Addr}{a b c:Expr}{es:List Expr}{fa fb fc:DE}{pos:Pos}
noncomputable def zah2 (t:Th) (j i:Nat) (k:Ev):Option Out:=match t[i]?,t[j]?,k.d with
 |some (.own xs),some (.own ys),.int n=>if i=j then none else if decide (-1000000≤n∧n≤1000000∧ys.length<100000) then (ixN xs.length n).bind fun q=>(xs[q]?).map fun d=>.nx ((t.set i (.own (xs.eraseIdx q))).set j (.own (ys++[d]))) else none
 |_,_,_=>none
noncomputable def zac5 (j i:Nat) (f:DE):DS:=fun t=>(f t).bind (zah2 t j i)
theorem zaz0 (j i:Nat) {x y:Str}{p0 p1 apos cpos apos1 cpos1:Pos} (he:PE X a (dE X.K F fa)) (hN:X.N[i]?=some x:=by rfl) (hv:Vis X.env.scope x:=by first | exact Or.inl rfl | exact Or.inr (Or.inl rfl) |exact Or.inr (Or.inr rfl)) (hd:(x ==("__debug__":Str))=false:=by decide)
  (hcd:(x ==("__classdict__":Str))=false:=by decide) (hNy:X.N[j]?=some y:=by rfl) (hvy:Vis X.env.scope y:=by first | exact Or.inl rfl | exact Or.inr (Or.inl rfl) |exact Or.inr (Or.inr rfl)) (hdy:(y ==("__debug__":Str))=false:=by decide)
  (hcdy:(y ==("__classdict__":Str))=false:=by decide) (hst:zbo8 [a] X.env=[(false,eval a X.env)]:=by rfl)
  (hbase:attributeBase (.Name x p1) "pop" X.env (eval (.Name x p1) X.env)=eval (.Name x p1) X.env:=by rfl)
  (hfew:((zbu1 cpos1 (zbo8 [a] X.env)).all (fun x=>!x.1)&&(backToKw cpos1 (keywordEach [] X.env)).all (fun x=>x.1.isSome)
   && decide ([a].length+([]:List Keyword).length+(if ([]:List Keyword).isEmpty then 0 else 1)<30))=true:=by rfl)
  (hline:(apos1.endLine == cpos1.line)=true:=by rfl) (hplain:(zbu1 cpos1 (zbo8 [] X.env)).any (·.1)=false:=by rfl)
  (hst2:zbo8 [.Call (.Attribute (.Name x p1) "pop" apos1) [a] [] cpos1] X.env=[(false,eval (.Call (.Attribute (.Name x p1) "pop" apos1) [a] [] cpos1) X.env)]:=by rfl)
  (hbase2:attributeBase (.Name y p0) "append" X.env (eval (.Name y p0) X.env)=eval (.Name y p0) X.env:=by rfl)
  (hfew2:((zbu1 cpos (zbo8 [.Call (.Attribute (.Name x p1) "pop" apos1) [a] [] cpos1] X.env)).all (fun x=>!x.1)&&(backToKw cpos (keywordEach [] X.env)).all (fun x=>x.1.isSome)
   && decide ([Expr.Call (.Attribute (.Name x p1) "pop" apos1) [a] [] cpos1].length+([]:List Keyword).length+(if ([]:List Keyword).isEmpty then 0 else 1)<30))=true:=by rfl)
  (hline2:(apos.endLine == cpos.line)=true:=by rfl) (hplain2:(zbu1 cpos (zbo8 [] X.env)).any (·.1)=false:=by rfl)
  (hsw:swapsWith (.Call (.Attribute (.Name y p0) "append" apos) [.Call (.Attribute (.Name x p1) "pop" apos1) [a] [] cpos1] [] cpos) none pos.line X.env=pure false:=by rfl) :
  PS X (.Expr (.Call (.Attribute (.Name y p0) "append" apos) [.Call (.Attribute (.Name x p1) "pop" apos1) [a] [] cpos1] [] cpos) pos) (dS X.K F (zac5 j i fa)):=by
 refine PS.imp (zaa7 (zaz5 zbr3 zbw5 zbw6 zo7 (zq7 (i:=j) hNy hvy hdy hcdy) (zh0 (zaz5 zbr3 zbz9 zca0 mt_popAt (zq7 (i:=i) hN hv hd hcd) (zh0 he zm1 hst) hbase hfew hline hst hplain) zm1 hst2) hbase2 hfew2 hline2 hst2 hplain2) hsw) ?_
 rintro E σ H ⟨A,t,o,R,e,h⟩
 unfold zac5 at e
 cases e1:fa t with
 |none=>rw [e1]at e;cases e
 |some r =>
  rw [e1]at e
  have e:zah2 t j i r=some o:=e
  unfold zah2 at e
  split at e
  case h_2=>cases e
  rename_i xs ys n z1 z2 zr
  split at e
  case isTrue=>cases e
  rename_i ne
  split at e
  case isFalse=>cases e
  rename_i ok
  simp only [decide_eq_true_eq]at ok
  cases e3:ixN xs.length n with
  |none=>rw [e3]at e;cases e
  |some q =>
   rw [e3]at e
   simp only [zbn0]at e
   cases e4:xs[q]? with
   |none=>rw [e4]at e;cases e
   |some d =>
    rw [e4]at e
    cases e
    obtain⟨p,vs,a1,a2,a3,a4⟩:=R.rel.getOwn z1
    obtain⟨p',ws,b1,b2,b3,b4⟩:=R.rel.getOwn z2
    obtain⟨v,c1,c2⟩:=a4.get e4
    have hj:=zas0 (by rw [← a4.length]at e3;exact e3)
    refine⟨_,b1,.inl ⟨rfl,ws,SqL.of b3⟩,_,a1,.inl ⟨rfl,vs,SqL.of a3⟩,A,t,r,R,e1,fun w H1 gs q1=>?_⟩
    have pr:=q1.full
    rw [zr]at pr
    cases ze7 pr
    obtain⟨R1,g1⟩:=(R.grow gs).write (es:=xs.eraseIdx q) (ws:=vs.eraseIdx q) z1 a1 (Reps.erase q (Reps.mono (zb6 gs) a4))
    have z2':(t.set i (.own (xs.eraseIdx q)))[j]?=some (.own ys):=by rw [zbu3 ne];exact z2
    obtain⟨p'',ws',b1',b2',b3',b4'⟩:=R1.rel.getOwn z2'
    rw [b1]at b1'
    cases b1'
    refine⟨p,vs,n,q,v,rfl,rfl,gs _ _ a3,by lia,by lia,hj.1,c1,p',ws',v,rfl,rfl,b3',?_,?_⟩
    ·have:ws'.length<100000:=by rw [b4'.length];exact ok.2.2
     exact zbo7 this (by rw [sizeLine_eq];decide)
    ·obtain⟨R2,g2⟩:=R1.write (es:=ys++[d]) (ws:=ws'++[v]) z2' b1 (b4'.app (Reps.one (Rep.mono g1.same (Rep.mono (zb6 gs) c2))))
     exact h _ _ _ (((Gr.of_same R.mu.left gs).trans g1).trans g2) R2
end
end DL
namespace TS
theorem zbe9:typeLookup (.type "list_reverseiterator") "__len__"=pure none:=by rw [typeLookup_type,builtinLookup_eq_fast];kernel_rfl
theorem hint_lri:typeLookup (.type "list_reverseiterator") "__length_hint__"=pure (some (.builtin "list_reverseiterator.__length_hint__")):=by rw [typeLookup_type,builtinLookup_eq_fast];kernel_rfl
section
variable {prog:Program}{w:World}{A:Around}{E:Value→zbo3→Prop}{s:zbo3}
theorem ext_rev {R:Result→zbo3→Prop} (hh:A.handled=none) {I l:Addr}{items:Array Value} (ne:l≠I) (ki:s.heap.IsRevIter I l ((items.size:Int) - 1)) (hl:s.heap.IsList l items) (hz:items.size≤100000) (S:Addr) (SI:S≠I) (Sl:S≠l) (res:Value) (c₀:Nat) (hS:s.heap.get? S=some { cls:=.type "list",data:=.seq #[] c₀ })
  (hR:∀h' tk acc c,(∀b o,b≠S→b≠I→s.heap.get? b=some o→h'.get? b=some o)→h'.get? S=some { cls:=.type "list",dict:=none,data:=.seq acc c,slots := #[] }→acc.toList=items.toList.reverse→R (.ok (.ret res)) { s with heap:=h',toks:=tk }) :
  wpAny (model prog w) A.in1 (Builtin.List.listExtendWith (.ref S) (.ref I) res) (fun fin s'=>match fin with | .done f=>R (.ok f) s' | .again c'=>c'.quiet=true∧codeAny (model prog w) A c' R s') (fun e s'=>R (.error e) s') s:=by
 have W:=(Walks.listRev (prog:=prog) (w:=w) (A:=A.in1) hh I l ne items).toS
 have ty:=ki.typeIs
 have h1:Builtin.List.listSameRef (.ref S) (.ref I)=false:=by simp [Builtin.List.listSameRef,SI]
 have st:(0:Nat)≤items.size∧s.heap.IsRevIter I l ((items.size:Int) - 1 - ((0:Nat):Int))∧s.heap.IsList l items:=⟨zbz6 _,by simpa using ki,hl⟩
 have nS:S∉[I,l]:=by simp [SI,Sl]
 have key:∀(h:Heap) (c₁ tk:Nat),(0≤items.size∧h.IsRevIter I l ((items.size:Int) - 1 - ((0:Nat):Int))∧h.IsList l items)→(∀b o,b≠S→s.heap.get? b=some o→h.get? b=some o)→h.get? S=some { cls:=.type "list",data:=.seq #[] c₁ } →
   codeAny (model prog w) A (.builtin "list.extend.loop" ⟨[.ref S,.ref I,res],[]⟩) R { s with heap:=h,toks:=tk }:=by
  intro h c₁ tk st' hk' g1
  refine codeAny_extend_loopS W (by rw [sizeLine_eq];lia) S nS res items.size 0 _ #[] c₁ rfl (zbz6 _) st' g1 (ItemsOf.nil _) fun s' acc' c' hm hS' hacc=>?_
  rw [Moved.eq_with hm]
  refine hR s'.heap s'.toks acc' c' (fun b o hb hi e=>hm.heap b o (fun hmem=>?_) (hk' b o hb e)) hS' ?_
  ·rcases zbn5.mp hmem with e' |hmem
   ·exact hb e'
   ·exact hi (zbn3.mp hmem)
  ·obtain⟨a1,a2⟩:=hacc
   have a1:acc'.size=items.size:=a1
   refine zce2 (by simp [a1]) fun i u v=>?_
   have hi:i<acc'.size:=by simpa using u
   have:items[items.size - 1 - i]?=some acc'[i]:=a2 i acc'[i] (by simp [hi])
   rw [zbx9 (by lia)]at this
   simpa [List.getElem_reverse] using (Option.some.inj this).symm
 unfold Builtin.List.listExtendWith
 refine zbn6 (wpAny_typeOf ty ?_)
 rw [if_neg (by rw [h1];decide)]
 refine zbn6 (wpAny_pyIter_revIter ki ?_)
 refine zbn6 (wpAny_holding ?_)
 unfold Builtin.List.listLengthHint
 refine zbn6 (wpAny_specialOf ty zbe9 ?_)
 show wpAny _ A.in1 (specialOf (Value.ref I) (Str.ofString "__length_hint__") >>= _) _ _ _
 refine zbn6 (wpAny_specialOf ty hint_lri ?_)
 generalize hid:("list_reverseiterator.__length_hint__":String)=id0
 wp_delta
 rw [show splitId id0=some ("list_reverseiterator", "__length_hint__") from by subst hid;decide +kernel]
 subst hid
 refine zbn6 (wpAny_isInstance (b:=true) ty (by rw [isSubtype_type];kernel_rfl) ?_)
 refine zbp3 ?_
 rw [if_neg (by decide)]
 exact zbp3 ⟨plainId_quiet F.plain_extend_loop _,key _ c₀ s.toks st (fun b o _ e=>e) hS⟩
theorem zah9 {Q:Value→zbo3→Prop} (hh:A.handled=none) {I l:Addr}{items:Array Value} (ne:l≠I) (ki:s.heap.IsRevIter I l ((items.size:Int) - 1)) (hl:s.heap.IsList l items) (hz:items.size≤100000)
  (hQ:∀h' tk acc c,(∀b o,b≠I→s.heap.get? b=some o→h'.get? b=some o)→h'.get? s.heap.objs.size=some { cls:=.type "list",dict:=none,data:=.seq acc c,slots := #[] }→acc.toList=items.toList.reverse→Q (.ref s.heap.objs.size) { s with heap:=h',toks:=tk }) :
  wpAny (model prog w) A (call (.type "list") [.ref I]) Q E s:=by
 have hI:I<s.heap.objs.size:=by obtain⟨o,g,_⟩:=ki;exact zbo6 g
 have hL:l<s.heap.objs.size:=by obtain⟨o,g,_⟩:=hl;exact zbo6 g
 refine callType_codes (Q₁:=fun ob s₁=>ob=.ref s.heap.objs.size∧s₁={ s with heap:=s.heap.push { cls:=.type "list",data:=.seq #[] } }) F.called_list (F.typeCall_list_1 _) F.entry_list_init (code_list_new _ ⟨rfl,rfl⟩) fun ob s₁ h₁=>?_
 obtain⟨rfl,rfl⟩:=h₁
 have g0:(s.heap.push { cls:=.type "list",data:=.seq #[] }).get? s.heap.objs.size=some { cls:=.type "list",data:=.seq #[] }:=zbp5 _ rfl
 refine⟨⟨_,g0,rfl⟩,F.args_list_init_2 _ _,?_⟩
 show wpAny _ _ (do let old ← Builtin.List.listItems (.ref s.heap.objs.size);Builtin.List.listUpdate (.ref s.heap.objs.size) (fun _ => #[]);letGo old.toList.reverse;Builtin.List.listExtendWith (.ref s.heap.objs.size) (.ref I) .none) _ _ _
 refine zbn6 ?_
 unfold Builtin.List.listItems
 refine zbn6 (wpAny_seqItems g0 rfl (zbp3 ?_))
 show wpAny _ _ (updateSeq s.heap.objs.size (fun _ => #[]) >>= fun _=>letGo (#[]:Array Value).toList.reverse >>= fun _=>Builtin.List.listExtendWith (.ref s.heap.objs.size) (.ref I) .none) _ _ _
 refine zbn6 (wpAny_updateSeq g0 rfl ?_)
 have g1:=zbz7 (Obj.mapSeq (fun _=>(#[]:Array Value))) g0 rfl
 have ot:∀b o,s.heap.get? b=some o→((s.heap.push { cls:=.type "list",data:=.seq #[] }).update s.heap.objs.size (Obj.mapSeq (fun _=>(#[]:Array Value)))).get? b=some o:=fun b o e=>(zbr0 _ _ (zbw0 (zbo6 e))).trans (zbn8 _ e)
 refine zbn6 (wpAny_letGo ?_)
 refine ext_rev (A:=A.in1) hh ne (ki.at fun o e=>ot I o e) (hl.at fun o e=>ot l o e) hz s.heap.objs.size (zbw0 hI) (zbw0 hL) .none _ g1 fun h' tk acc c hk gS ea=>?_
 exact⟨rfl,hQ h' tk acc c (fun b o hb e=>hk b o (zbp8 (zbo6 e)) hb (ot b o e)) gS ea⟩
end
end TS
namespace L2
open PySem.Spec TS
section
variable {X:Cx}{a:Expr}{pos pos2:Pos}{te:TE}
noncomputable def tListRev (K:zbm7) (te:TE):TE:=fun σ H Q=>te σ H fun v H1 => ∃(p:Addr) (xs:List V),v=.ref p∧SqL K H1 p xs∧xs.length≤50000∧∀l,H1 l=none→Q (.ref l) (upd H1 l (.lst xs.reverse))
theorem zaz4 {p1 p2:Pos} (hc:X.calm=true) (hg1:Gl X "list") (hm1:X.mg "list"=none) (hg2:Gl X "reversed") (hm2:X.mg "reversed"=none) (ha:PE X a te) (hst:zbo8 [a] X.env=[(false,eval a X.env)]:=by rfl) (hst2:zbo8 [.Call (.Name "reversed" p2) [a] [] pos2] X.env=[(false,eval (.Call (.Name "reversed" p2) [a] [] pos2) X.env)]:=by rfl)
  (hpl:(zbu1 pos2 (zbo8 [] X.env)).any (·.1)=false:=by rfl) (hpl2:(zbu1 pos (zbo8 [] X.env)).any (·.1)=false:=by rfl) :
  PE X (.Call (.Name "list" p1) [.Call (.Name "reversed" p2) [a] [] pos2] [] pos) (tListRev X.K te):=by
 intro pins s σ H Q I h
 refine wpAny_Call_Name_kw (zr5 I hg1 hm1 DL.bt_list ?_ (by decide) (by decide))
 refine PyProof.Rows.callWith_type1 ?_ hst2 hpl2
 rw [hst2]
 show wpAny _ _ (spliced ((false,eval (.Call (.Name "reversed" p2) [a] [] pos2) X.env)::zbu1 pos (zbo8 [] X.env))) _ _ s
 refine Calls.spliced_cons (wpAny_Call_Name_kw (zr5 I hg2 hm2 boot_reversed ?_ (by decide) (by decide)))
 refine PyProof.Rows.callWith_type1 ?_ hst hpl
 rw [hst]
 show wpAny _ _ (spliced ((false,eval a X.env)::zbu1 pos2 (zbo8 [] X.env))) _ _ s
 refine Calls.spliced_cons (thn (ha pins s σ H _ I h) fun u s1 ⟨x,H1,I1,r1,q1⟩=>Calls.spliced_nil ?_)
 obtain⟨p,xs,rfl,hs,hz,q⟩:=q1
 cases r1
 obtain⟨its,rv,pl,_⟩:=I1.list hs
 have hl:=rv.length
 have L1:=DL.PlainL.isL pl
 have pL:p<s1.heap.objs.size:=by obtain⟨o,g,_⟩:=L1;exact zbo6 g
 refine call_reversed_list L1 (Calls.spliced_nil ?_)
 have k1:∀b o,s1.heap.get? b=some o→(s1.heap.push (revObj p ((its.toArray.size:Int) - 1))).get? b=some o:=fun b o e=>zbn8 _ e
 refine zah9 (s:={ s1 with heap:=s1.heap.push (revObj p ((its.toArray.size:Int) - 1)) }) (I1.ok.hd hc) (items:=its.toArray) (zbp8 pL) ⟨_,zbp5 _ rfl,rfl,rfl⟩ (L1.at fun o e=>k1 p o e) (by rw [zbo4];lia) fun h' tk acc c hk gS ea=>?_
 have fr:s1.heap.objs.size≤(s1.heap.push (revObj p ((its.toArray.size:Int) - 1))).objs.size:=by rw [zbu4];exact zcc2 _
 refine⟨.ref _,_,I1.laid (o:=HO.lst xs.reverse) (fun b o e=>hk b o (zbp8 (zbo6 e)) (k1 b o e)) fr ⟨?_,acc.toList,c,?_,gS⟩,rfl,q _ (I1.hok.fresh fr)⟩
 ·rw [zbu7];exact DL.le_line (by lia)
 ·rw [ea];exact rv.reverse
end
end L2
namespace DL
open PySem.Spec L2 TS
section
variable {X:Cx}{F:List Addr}{a:Expr}{fa:DE}{pos pos2:Pos}
noncomputable def zw2:List Ev→Option Ev:=fun rs=>match rs with
 |[r]=>(match r.d with
  |.lst ds=>if (r.ok||flats ds)&&decide (ds.length≤50000) then some (.nw ds.reverse) else none
  |_=>none)
 |_=>none
theorem zaq3 {p1 p2:Pos} (hc:X.calm=true) (hg1:Gl X "list") (hm1:X.mg "list"=none) (hg2:Gl X "reversed") (hm2:X.mg "reversed"=none) (ha:PE X a (dE X.K F fa)) (hst:zbo8 [a] X.env=[(false,eval a X.env)]:=by rfl) (hst2:zbo8 [.Call (.Name "reversed" p2) [a] [] pos2] X.env=[(false,eval (.Call (.Name "reversed" p2) [a] [] pos2) X.env)]:=by rfl)
  (hpl:(zbu1 pos2 (zbo8 [] X.env)).any (·.1)=false:=by rfl) (hpl2:(zbu1 pos (zbo8 [] X.env)).any (·.1)=false:=by rfl) :
  PE X (.Call (.Name "list" p1) [.Call (.Name "reversed" p2) [a] [] pos2] [] pos) (dE X.K F (dT1 zw2 (za2 fa dNil))):=by
 refine PE.imp (zaz4 hc hg1 hm1 hg2 hm2 ha hst hst2 hpl hpl2) ?_
 rintro σ H Q ⟨A,t,r,R,e,h⟩
 unfold dT1 za2 dNil at e
 cases e1:fa t with
 |none=>rw [e1]at e;cases e
 |some r1 =>
  rw [e1]at e
  simp only [zbn0]at e
  unfold zw2 at e
  simp only at e
  split at e
  case h_2=>cases e
  rename_i ds z
  split at e
  case isFalse=>cases e
  rename_i ok
  rw [zbo2,decide_eq_true_eq]at ok
  cases e
  refine⟨A,t,r1,R,e1,fun x H1 gs q=>?_⟩
  obtain⟨p,vs,rfl,h1,h2⟩:=q.items R.mu gs z ok.1
  exact⟨p,vs,rfl,h1,by rw [h2.length];exact ok.2,fun l hl=>h _ _ (gs.trans (zd2 hl)) ⟨l,_,rfl,Same.free gs hl,zc1,Reps.mono (zi6 hl) h2.rev⟩⟩
end
end DL
namespace TS
section
variable {prog:Program}{w:World}{A:Around}{E:Value→zbo3→Prop}{s:zbo3}
theorem zan5 {I:Addr}{fp:List Addr}{items:Array Value}{St:Nat→Heap→Prop} (W:Walks prog w A I fp [I] items.size (fun i v=>items[i]?=some v) St):∀(n i:Nat) (s:zbo3) (Q:List Value→zbo3→Prop),St i s.heap→i+n≤items.size →
  (∀h' tk,St (i+n) h'→(∀b o,b≠I→s.heap.get? b=some o→h'.get? b=some o)→Q ((items.toList.drop i).take n) { s with heap:=h',toks:=tk })→wpAny (model prog w) A (draw (.ref I) n) Q E s
 |0,i,s,Q,st,_,hQ=>by
  show wpAny _ _ (pure []) Q E s
  exact zbp3 (by simpa using hQ s.heap s.toks st fun _ _ _ e=>e)
 |n+1,i,s,Q,st,hle,hQ=>by
  have lt:i<items.size:=by lia
  show wpAny _ _ (pyNext (.ref I) >>= _) Q E s
  refine zbn6 (W.item i s _ _ lt st fun v h1 tk p st1 k1=>?_)
  have ev:v=items[i]:=by
   rw [zbx9 lt]at p
   exact (Option.some.inj p).symm
  subst ev
  refine zbn6 (wpAny_holding (zan5 W n (i+1) _ _ st1 (by lia) fun h2 tk2 st2 k2=>zbp3 ?_))
  have hd:items.toList.drop i=items[i]::items.toList.drop (i+1):=by simp [zbp1,lt]
  have:=hQ h2 tk2 (by rw [show i+(n+1)=i+1+n by lia];exact st2) fun b o nb e=>k2 b o nb (k1 b o (by simpa using nb) e)
  rw [hd,List.take_succ_cons]at this
  exact this
theorem zap0 {l:Addr}{items:Array Value}{targets:List (Bool×(Value→Sem Unit))}{Q:Unit→zbo3→Prop} (hh:A.handled=none) (hl:s.heap.IsList l items) (hn:targets.length=items.size) (hs:targets.findIdx? (·.1)=none)
  (h:∀h' tk,(∀b o,s.heap.get? b=some o→h'.get? b=some o)→wpAny (model prog w) A (assignInOrder (targets.map (·.2)) items.toList) Q E { s with heap:=h',toks:=tk }) :
  wpAny (model prog w) A (unpack (.ref l) targets) Q E s:=by
 have ll:l<s.heap.objs.size:=by obtain⟨o,g,_⟩:=hl;exact zbo6 g
 unfold unpack
 rw [hn,hs]
 refine zbn6 (wpAny_holding ?_)
 unfold unpackItems
 refine zbn6 ?_
 unfold notIterableAtAll
 refine zbn6 (wpAny_specialOf hl.typeIs F.slot_list_iter.lookup ?_)
 refine zbp3 ?_
 simp only [zbv2,if_false]
 refine zbn6 (wpAny_holding (wpAny_pyIter_list hl ?_))
 have W:=Walks.list (prog:=prog) (w:=w) (A:=A) hh s.heap.objs.size l (zbp8 ll) items
 refine zbn6 (wpAny_holding (zan5 W items.size 0 _ _ ⟨⟨_,zbp5 _ rfl,rfl,rfl⟩,hl.push _⟩ (by lia) fun h1 tk st1 k1=>?_))
 have hall:List.take items.size (List.drop 0 items.toList)=items.toList:=by
  rw [List.drop_zero];exact zbt1 (by simp)
 rw [hall,if_neg (by simp)]
 rw [Nat.zero_add]at st1
 refine zbn6 (wpAny_holding (W.done _ _ _ st1 fun h2 tk2 k2=>?_))
 simp only [Option.isSome_none,zbv2,if_false]
 refine zbp3 (h h2 tk2 fun b o e=>k2 b o (fun z=>absurd (zbo6 e) (by rw [zbn3.mp z];exact zbt0 _)) (k1 b o (zbp8 (zbo6 e)) (zbn8 _ e)))
end
end TS
namespace L2
open PySem.Spec TS
section
variable {X:Cx}{pos:Pos}
noncomputable def gLst (K:zbm7) (n:Nat) (t:TGs):TG:=fun v σ H Q => ∃a xs,v=.ref a∧SqL K H a xs∧xs.length=n∧t xs σ H Q
theorem pg_lst {es:List Expr}{k:Nat}{t:TGs}{n:Nat} (hc:X.calm=true) (h:PGs X es t) (hn:(assignEach es X.env).length=n:=by rfl) (hst:(assignEach es X.env).findIdx? (·.1)=none:=by rfl):PG X (.Tuple es k pos) (gLst X.K n t):=by
 intro pins s σ H v u Q I r hw
 obtain⟨a,xs,e1,hq,hl,hw⟩:=hw
 subst e1
 cases r
 obtain⟨its,rv,pl,hz⟩:=I.list hq
 rw [arm_assign_Tuple]
 refine zbn6 (wpAny_standAt (zap0 (I.ok.hd hc) (DL.PlainL.isL pl) (by simp [hn, ← hl,rv.length]) hst fun h' tk hk=>?_))
 exact h pins _ σ H xs _ Q (I.kept (t':=tk) hk) (by simpa using rv) hw
end
end L2
namespace DL
open PySem.Spec L2
noncomputable def gkLst (n:Nat) (k:List D→Th→Option Th):D→Th→Option Th:=fun d t=>match d with
 |.lst ds=>if ds.length=n then k ds t else none
 |_=>none
theorem tg_lst {K:zbm7}{F:List Addr}{n:Nat}{g':TGs}{k':List D→Th→Option Th} (h2:zbm4 K F g' k'):TgOk K F (gLst K n g') (gkLst n k'):=by
 intro σ H A t t' d x Q R r e h
 unfold gkLst at e
 split at e
 ·rename_i ds
  split at e
  ·rename_i hl
   cases r with
   |@lst _ p vs h1 hr=>exact⟨p,vs,rfl,SqL.mono (zc2 _ _) h1,by rw [hr.length];exact hl,h2 σ H A t t' ds vs Q R hr e h⟩
  ·cases e
 ·cases e
end DL
namespace L2
open PySem.Spec
theorem vals_get:∀ {xs:List V}{us:List Value},xs.length=us.length→(∀(j:Nat) (a:V) (b:Value),xs[j]?=some a→us[j]?=some b→RelV a b)→Vals xs us
 |[],[],_,_=>.nil
 |[],_::_,h,_=>by simp at h
 |_::_,[],h,_=>by simp at h
 |x::xs,u::us,h,k=>.cons (k 0 x u rfl rfl) (vals_get (by simpa using h) fun j a b ha hb=>k (j+1) a b (by simpa using ha) (by simpa using hb))
end L2
namespace DL
open PySem.Spec L2
structure Lent (K:zbm7) (F:List Addr) (ir jx:Nat) (ds:List D) (k:Nat) (A0:List Addr) (Hb:Hp) (p r:Addr) (C1 C2:List Addr) (A:List Addr) (H:Hp) (σ:L2.St):Prop where
 nd:(p ::(C1++r::C2)).Nodup
 dj:∀b∈p ::(C1++r::C2),b∉F
 s1:σ[ir]?=some (some (.ref p))
 s2:σ[jx]?=some (some (.ref r))
 gr:Gr A0 Hb (A++p ::(C1++C2)) H
 kp:∀b∈p ::(C1++C2),∀o,Hb b=some o→H b=some o
 re:∀(H01 H1:Hp) (xs':List D),xs'.all scD=true→H1 r=some (.lst (xs'.map sV))→(∀b∈p ::(C1++C2),∀o,Hb b=some o→H1 b=some o)→Same (hide (A0++F) Hb) H01→RepD K H01 H1 (.lst (ds.set k (.lst xs'))) (.ref p) (p ::(C1++r::C2))
section
variable {X:Cx}{F:List Addr}{es:List Expr}{fns:DNs}{pos:Pos}
noncomputable def dNewL (g:DNs):DE:=fun t=>(g t).bind fun q=>if q.1.length≤1000&&q.2.isEmpty then some (.dn (.lst q.1)) else none
theorem ped_newL (h:PA X es (dNs X.K F fns)):PE X (.List es pos) (dE X.K F (dNewL fns)):=by
 refine PE.imp (pe_lst h) ?_
 rintro σ H Q ⟨A,t,r,R,e,h⟩
 unfold dNewL at e
 cases e1:fns t with
 |none=>rw [e1]at e;cases e
 |some q =>
  obtain⟨ds,I⟩:=q
  rw [e1]at e
  simp only [zbn0]at e
  split at e
  case isFalse=>cases e
  rename_i ok
  cases e
  simp only [zbo2,decide_eq_true_eq,List.isEmpty_iff]at ok
  obtain⟨hl,rfl⟩:=ok
  refine⟨A,t,ds,[],R,e1,fun vs H1 B g1 n1 f1 r1=>⟨by rw [r1.length];exact le_line (by lia),fun p hp=>?_⟩⟩
  have s1:=zd2 (o:=HO.lst vs) hp
  have np:p∉B:=zd5 r1.lists hp
  refine h _ _ (g1.trans s1) ⟨p::B,zbo9.mpr ⟨np,n1⟩,fun b hb=>?_,.lst zc1 (RepDs.mono (zi6 hp) r1 fun b hb o w=>s1 _ _ w)⟩
  rcases zbn5.mp hb with z | z
  ·rw [z];exact Same.free g1 hp
  ·rcases f1 b z with w | ⟨i,hi,_⟩
   ·exact w
   ·cases hi
end
end DL
namespace DL
open PySem.Spec L2
section
variable {X:Cx}{F:List Addr}{a b:Expr}{fa fb:DE}{pos:Pos}
noncomputable def zbh2 (k r:Ev):Option Ev:=match keyD k.d with
 |some kk=>if scD r.d then some (.dn (.dct [kk] [r.d])) else none
 |none=>none
noncomputable def zae9 (fk fv:DE):DE:=fun t=>(fk t).bind fun k=>(fv t).bind fun r=>zbh2 k r
theorem zak7 (hk:PE X a (dE X.K F fa)) (hv:PE X b (dE X.K F fb)):PE X (.Dict [some a] [b] pos) (dE X.K F (zae9 fa fb)):=by
 refine PE.imp (pe_disp (pps_cons hk hv pps_nil) rfl rfl (by simp) (by simp)) ?_
 rintro σ H Q ⟨A,t,r,R,e,h⟩
 intro p hp
 unfold zae9 at e
 cases e1:fa t with
 |none=>rw [e1]at e;cases e
 |some k =>
  cases e2:fb t with
  |none=>rw [e1,e2]at e;cases e
  |some v =>
   rw [e1,e2]at e
   have e:zbh2 k v=some r:=e
   unfold zbh2 at e
   split at e
   case h_2=>cases e
   rename_i kk ek
   split at e
   case isFalse=>cases e
   rename_i ok
   cases e
   have g0:=zd2 (o:=.dK []) hp
   refine⟨A,t,k,R.grow g0,e1,fun x H1 gs1 q1=>⟨A,t,v,(R.grow g0).grow gs1,e2,fun y H2 gs2 q2=>?_⟩⟩
   have ex:=zah0 q1.full ek
   have ey:=zak3 q2.full ok
   subst ex ey
   refine⟨gs2 _ _ (gs1 _ _ zc1),[(kk,sV v.d)],rfl,by simp,?_⟩
   refine h _ _ ?_ ⟨[p],by simp,fun b hb=>by simp at hb;subst hb;exact hp,.dct (vs:=[sV v.d]) rfl zc1 (zy8 (ds:=[v.d]) (by simp [ok]))⟩
   intro c o hc
   have n:c≠p:=fun z=>by rw [z,hp]at hc;cases hc
   show upd H2 p _ c=some o
   rw [upd]
   simp only [n,if_false]
   exact gs2 _ _ (gs1 _ _ (g0 _ _ hc))
end
end DL
namespace DL
open PySem.Spec L2
noncomputable def fsT (f:DE):DI:=fun t=>(f t).bind fun r=>match r.d with
 |.tup ds=>some (r.ok,ds)
 |_=>none
theorem src_tup {K:zbm7}{p:Addr}{vs:List V}{ds:List D} (hl:vs.length=ds.length):Src K ds (Itt K p) (fun P H=>SqT K (hide P H) p vs∧Reps K (hide P H) ds vs) where
 keep:=fun P H P' H' q s=>⟨SqT.mono s q.1,Reps.mono s q.2⟩
 stop:=fun P H q=>⟨vs,SqT.mono (zc2 _ _) q.1,by lia⟩
 go:=fun P H i q hi=>⟨vs,vs[i]'(by lia),SqT.mono (zc2 _ _) q.1,zbn9 (by lia)⟩
 yld:=fun P H i x H' q mu y hi=>by
  obtain⟨e1,e2⟩:=y
  subst e1
  exact⟨Same.refl _,q.2.getV (e2 vs (SqT.mono (zc2 _ _) q.1))⟩
section
variable {X:Cx}{F:List Addr}{a:Expr}{fa:DE}{tg:Expr}
theorem pid_tup (hl:PE X a (dE X.K F fa)):PI X tg a (dI X.K F (fsT fa)):=by
 refine PI.imp (pi_tup hl) ?_
 rintro σ H R ⟨A,t,b,ds,RR,e,h⟩
 unfold fsT at e
 cases e1:fa t with
 |none=>rw [e1]at e;cases e
 |some r =>
  rw [e1]at e
  refine⟨A,t,r,RR,e1,fun v H1 gs q=>?_⟩
  have e:(match r.d with | .tup ds=>some (r.ok,ds) |_=>none)=some (b,ds):=e
  split at e
  case h_2=>cases e
  rename_i ds' z
  cases e
  have cl:=RepEv.hidF RR.mu gs q
  rw [z]at cl
  cases cl with
  |@tup _ p vs h1 h2=>exact⟨p,rfl,⟨vs,SqT.mono (zc2 _ _) h1⟩,h _ H1 _ gs (src_tup h2.length) ⟨h1,h2⟩⟩
end
end DL
namespace DL
open PySem.Spec L2
mutual
theorem RepD.fl {K:zbm7}{H0 H:Hp}:∀ {d:D}{v:V}{B:List Addr},RepD K H0 H d v B→flat d=true→Rep K H0 d v∧B=[]
 |_,_,_,.flat _ r,_=>⟨r,rfl⟩
 |_,_,_,.tup h r,f=>⟨.tup h (RepDs.fl r (by simpa [flat] using f)).1,(RepDs.fl r (by simpa [flat] using f)).2⟩
 |_,_,_,.lst _ _,f=>by simp [flat]at f
 |_,_,_,.dct _ _ _,f=>by simp [flat]at f
 |_,_,_,.pdc _,f=>by simp [flat]at f
theorem RepDs.fl {K:zbm7}{H0 H:Hp}:∀ {ds:List D}{vs:List V}{B:List Addr},RepDs K H0 H ds vs B→flats ds=true→Reps K H0 ds vs∧B=[]
 |_,_,_,.nil,_=>⟨.nil,rfl⟩
 |_,_,_,.cons h r,f=>by
  simp only [flats,zbo2]at f
  obtain⟨a1,a2⟩:=RepD.fl h f.1
  obtain⟨b1,b2⟩:=RepDs.fl r f.2
  exact⟨.cons a1 b1,by rw [a2,b2];rfl⟩
end
noncomputable def thwD:Sl→Sl
 |.dp (.lst xs)=>if flats xs then .own xs else .dp (.lst xs)
 |s=>s
noncomputable def thwT (t:Th) (i:Nat):Th:=match t[i]? with
 |some s=>t.set i (thwD s)
 |none=>t
theorem zv4 (s:Sl) (t:Th) (i:Nat):thwT (s::t) (i+1)=s::thwT t i:=by
 unfold thwT
 simp only [zbz0]
 cases t[i]?<;>simp
theorem RSl.thaw {K:zbm7}{H0 H:Hp}{t:Th}{σ:L2.St}{A:List Addr} (h:RSl K H0 H t σ A):∀i,RSl K H0 H (thwT t i) σ A:=by
 induction h with
 |nil=>intro i;exact .nil
 |no r ih =>
  intro i
  cases i with
  |zero=>exact .no r
  |succ i=>rw [zv4];exact .no (ih i)
 |val h r ih =>
  intro i
  cases i with
  |zero=>exact .val h r
  |succ i=>rw [zv4];exact .val h (ih i)
 |own h1 h2 r ih =>
  intro i
  cases i with
  |zero=>exact .own h1 h2 r
  |succ i=>rw [zv4];exact .own h1 h2 (ih i)
 |@dp d v B t σ A h r ih =>
  intro i
  cases i with
  |succ i=>rw [zv4];exact .dp h (ih i)
  |zero =>
   show RSl K H0 H (thwD (.dp d)::t) _ _
   by_cases c:∃xs,d=.lst xs∧flats xs=true
   ·obtain⟨xs,e,f⟩:=c
    subst e
    have e:thwD (.dp (.lst xs))=.own xs:=by simp [thwD,f]
    rw [e]
    cases h with
    |flat z _=>simp [flat]at z
    |lst h1 h2 =>
     obtain⟨a,b⟩:=RepDs.fl h2 f
     subst b
     exact .own h1 a r
   ·have e:thwD (.dp d)=.dp d:=by
     cases d with
     |lst xs =>
      have:flats xs=false:=by
       cases z:flats xs with
       |false=>rfl
       |true=>exact absurd ⟨xs,rfl,z⟩ c
      simp [thwD,this]
     |_=>rfl
    rw [e]
    exact .dp h r
noncomputable def dThw (i:Nat) (g:DS):DS:=fun t=>g (thwT t i)
theorem dS_thw {K:zbm7}{F:List Addr}{g:DS}{i:Nat}{E:Ends}{σ:L2.St}{H:Hp} (h:dS K F (dThw i g) E σ H):dS K F g E σ H:=by
 obtain⟨A,t,o,R,e,p⟩:=zba4 h
 exact zbj1 (A:=A) ⟨R.mu,R.nd,R.dj,R.rel.thaw i⟩ e p
theorem psd_thw {X:Cx}{F:List Addr}{g:DS}{st:Stmt} (i:Nat) (h:PS X st (dS X.K F g)):PS X st (dS X.K F (dThw i g)):=PS.imp h fun _ _ _ q=>dS_thw q
end DL
namespace DL
open PySem.Spec L2
section
variable {prog:Program}{w:World}{A:Around}{E:Value→zbo3→Prop}{s:zbo3}{l:Addr}{xs:Array (Int×Tok)}
theorem zw4 {Q:Value→zbo3→Prop} (hl:s.heap.IsTuple l (intItems xs))
  (h:∀s₂:zbo3,s₂={ s with heap:=s.heap.push { cls:=.type "tuple_iterator",data:=.fields #[.ref l,.int 0 0] } } →
   (s₂.heap.IsTupleIter s.heap.objs.size l 0∧s₂.heap.IsTuple l (intItems xs))→(∀b∈[s.heap.objs.size,l],b<s₂.heap.objs.size)→l≠s.heap.objs.size→Q (.ref s.heap.objs.size) s₂) :
  wpAny (model prog w) A (pyIter (.ref l)) Q E s:=by
 have hlt:l<s.heap.objs.size:=by obtain⟨_,e,_⟩:=hl;exact zbo6 e
 refine wpAny_pyIter_tuple hl (h _ rfl ⟨⟨_,zbp5 _ rfl,rfl,rfl⟩,hl.at fun o e=>zbn8 _ e⟩ (fun b hb=>?_) (zbp8 hlt))
 show b<(s.heap.push _).objs.size
 rw [zbu4]
 rcases zbn5.mp hb with rfl | hb
 ·exact zbs1 _
 ·rcases zbn5.mp hb with rfl | hb
  ·exact zbu6 hlt
  ·cases hb
theorem zak9 {h':Heap} (hk:∀b o,b∉[s.heap.objs.size]→(s.heap.push { cls:=.type "tuple_iterator",data:=.fields #[.ref l,.int 0 0] }).get? b=some o→h'.get? b=some o) :
  ∀b o,s.heap.get? b=some o→h'.get? b=some o:=fun b o e=>by
 refine hk b o (fun hm=>?_) (zbn8 _ e)
 rcases zbn5.mp hm with e1 | hm
 ·exact absurd (e1 ▸ zbo6 e) (zbt0 _)
 ·cases hm
theorem zam4 {Q:Value→zbo3→Prop} (hh:A.handled=none) (hl:s.heap.IsTuple l (intItems xs)) (hne:0<xs.size)
  (h:∀v h' tk,(intItems xs)[argBest (fun i j=>decide (numAt xs i > numAt xs j)) (xs.size - 1)]?=some v→(∀b o,s.heap.get? b=some o→h'.get? b=some o)→Q v { s with heap:=h',toks:=tk }) :
  wpAny (model prog w) A (call (.builtin "max") [.ref l]) Q E s:=by
 refine call_max_walk (zw4 hl fun s₂ e st hfp hlI=>?_)
 subst e
 refine⟨_,_,_,_,_,_,_,rfl,Walks.tuple (A:=A.in1) hh _ l hlI (intItems xs),st,hfp,by simpa [intItems] using hne,CmpOf.ints_gt (numAt xs) (fun _ _=>intItems_at),fun v h' tk hP hk=>?_⟩
 exact h v h' tk (by simpa [intItems] using hP) (zak9 hk)
theorem zam1 {Q:Value→zbo3→Prop} (hh:A.handled=none) (hl:s.heap.IsTuple l (intItems xs)) (hne:0<xs.size)
  (h:∀v h' tk,(intItems xs)[argBest (fun i j=>decide (numAt xs i<numAt xs j)) (xs.size - 1)]?=some v→(∀b o,s.heap.get? b=some o→h'.get? b=some o)→Q v { s with heap:=h',toks:=tk }) :
  wpAny (model prog w) A (call (.builtin "min") [.ref l]) Q E s:=by
 refine call_min_walk (zw4 hl fun s₂ e st hfp hlI=>?_)
 subst e
 refine⟨_,_,_,_,_,_,_,rfl,Walks.tuple (A:=A.in1) hh _ l hlI (intItems xs),st,hfp,by simpa [intItems] using hne,CmpOf.ints_lt (numAt xs) (fun _ _=>intItems_at),fun v h' tk hP hk=>?_⟩
 exact h v h' tk (by simpa [intItems] using hP) (zak9 hk)
end
section
variable {X:Cx}{F:List Addr}
theorem zbk7 (hc:X.calm=true):zp0 X (.builtin "min") (fun xs H Q => ∃(p:Addr) (ns:List Int) (M:Int),xs=[.ref p]∧SqT X.K H p (ns.map V.int)∧M∈ns∧(∀a∈ns,M≤a)∧Q (.int M) H):=by
 intro pins s σ H xs us Q I r h
 obtain⟨p,ns,M,rfl,hs,hm,hle,q⟩:=h
 obtain⟨u,rfl,ru⟩:=zy3 r
 cases ru
 obtain⟨its,rv,pl,_⟩:=I.tuple hs
 have hi:IntsAre its ns:=zl8 rv
 obtain⟨ys,e⟩:=hi.allInts.items
 have hl:s.heap.IsTuple p (intItems ys):=by rw [← e];exact pl
 have hns:ys.toList.map (·.1)=ns:=by
  have e2:numsOf (intItems ys).toList=ns:=by rw [← e];exact hi.numsOf
  rw [← nums_intItems];exact e2
 have hsz:0<ys.size:=by
  have:0<ns.length:=zbt3 hm
  rw [← hns]at this;simpa using this
 refine zam1 (I.ok.hd hc) hl hsz fun v h' tk hv hk=>?_
 obtain⟨t,rfl⟩:=intItems_at hv
 obtain⟨h1,h2⟩:=argBest_lt (numAt ys) (ys.size - 1)
 refine⟨.int M,H,I.kept (t':=tk) hk,⟨t,?_⟩,q⟩
 have a1:=hle _ (hns ▸ zal9 (ys:=ys) (j:=argBest (fun i j=>decide (numAt ys i<numAt ys j)) (ys.size - 1)) (by lia))
 rw [← hns]at hm
 obtain⟨j,hj,ej⟩:=mem_getD hm
 have hj':j<ys.size:=by simpa using hj
 have a2:=h2 j (by lia)
 rw [numAt_eq ys j,ej]at a2
 congr 1
 lia
theorem zbl0 (hc:X.calm=true):zp0 X (.builtin "max") (fun xs H Q => ∃(p:Addr) (ns:List Int) (M:Int),xs=[.ref p]∧SqT X.K H p (ns.map V.int)∧M∈ns∧(∀a∈ns,a≤M)∧Q (.int M) H):=by
 intro pins s σ H xs us Q I r h
 obtain⟨p,ns,M,rfl,hs,hm,hle,q⟩:=h
 obtain⟨u,rfl,ru⟩:=zy3 r
 cases ru
 obtain⟨its,rv,pl,_⟩:=I.tuple hs
 have hi:IntsAre its ns:=zl8 rv
 obtain⟨ys,e⟩:=hi.allInts.items
 have hl:s.heap.IsTuple p (intItems ys):=by rw [← e];exact pl
 have hns:ys.toList.map (·.1)=ns:=by
  have e2:numsOf (intItems ys).toList=ns:=by rw [← e];exact hi.numsOf
  rw [← nums_intItems];exact e2
 have hsz:0<ys.size:=by
  have:0<ns.length:=zbt3 hm
  rw [← hns]at this;simpa using this
 refine zam4 (I.ok.hd hc) hl hsz fun v h' tk hv hk=>?_
 obtain⟨t,rfl⟩:=intItems_at hv
 obtain⟨h1,h2⟩:=argBest_gt (numAt ys) (ys.size - 1)
 refine⟨.int M,H,I.kept (t':=tk) hk,⟨t,?_⟩,q⟩
 have a1:=hle _ (hns ▸ zal9 (ys:=ys) (j:=argBest (fun i j=>decide (numAt ys i > numAt ys j)) (ys.size - 1)) (by lia))
 rw [← hns]at hm
 obtain⟨j,hj,ej⟩:=mem_getD hm
 have hj':j<ys.size:=by simpa using hj
 have a2:=h2 j (by lia)
 rw [numAt_eq ys j,ej]at a2
 congr 1
 lia
noncomputable def zy1 (f:Int→List Int→Int):List Ev→Option Ev:=fun rs=>match rs with
 |[r]=>(match r.d with
  |.tup ds=>(match zl3 ds with
   |some (n::ns)=>some (.cl (.int (f n ns)))
   |_=>none)
  |_=>none)
 |_=>none
theorem zax9 {id':String}{f:Int→List Int→Int} (h:∀n ns,zp0 X (.builtin id') (fun xs H Q => ∃p:Addr,xs=[.ref p]∧SqT X.K H p ((n::ns).map V.int)∧Q (.int (f n ns)) H)):CallD X F (.builtin id') (zy1 f):=by
 intro pins s σ H0 H A xs us Q rs r I m g v q ek hq
 unfold zy1 at ek
 split at ek
 case h_2=>cases ek
 rename_i r0
 cases q with
 |@cons _ y _ ys q1 q2 =>
  cases q2
  split at ek
  case h_2=>cases ek
  rename_i ds z
  split at ek
  case h_2=>cases ek
  rename_i n ns z2
  cases ek
  have p:=q1.full
  rw [z,zn4 z2]at p
  cases p with
  |@tup _ l ws h1 h2 =>
   rw [zg8 h2]at h1
   exact h n ns pins s σ H _ us Q I v ⟨l,rfl,h1,hq _ H (Same.refl H) (.int _)⟩
theorem cd_minU (hc:X.calm=true):CallD X F (.builtin "min") (zy1 zq9) :=
 zax9 fun n ns pins s σ H xs us Q I v ⟨p,e,h1,q⟩=>zbk7 hc pins s σ H xs us Q I v ⟨p,n::ns,zq9 n ns,e,h1,(zab4 ns n).1,(zab4 ns n).2,q⟩
theorem cd_maxU (hc:X.calm=true):CallD X F (.builtin "max") (zy1 zab3) :=
 zax9 fun n ns pins s σ H xs us Q I v ⟨p,e,h1,q⟩=>zbl0 hc pins s σ H xs us Q I v ⟨p,n::ns,zab3 n ns,e,h1,(zag6 ns n).1,(zag6 ns n).2,q⟩
end
end DL
namespace KX
open PySem.Spec L2 DL
noncomputable abbrev qA:=kOr (kI tt2 fun i j=>.int (i+j)) kCat
noncomputable abbrev qS:=kI tt2 fun i j=>.int (i - j)
noncomputable abbrev qM:=kOr (kI cMul fun i j=>.int (i*j)) kRep
noncomputable abbrev qV:=kI cDiv fun i j=>.int (i.fdiv j)
noncomputable abbrev qR:=kI cMod fun i j=>.int (i.fmod j)
noncomputable abbrev qL:=kI tt2 fun i j=>.bl (decide (i<j))
noncomputable abbrev qE:=kI tt2 fun i j=>.bl (decide (i≤j))
noncomputable abbrev qG:=kI tt2 fun i j=>.bl (decide (j<i))
noncomputable abbrev qN:=k2I fun i j=>if j<i then j else i
noncomputable abbrev qX:=k2I fun i j=>if j > i then j else i
noncomputable abbrev qU:=kBls fun bs=>bs.all id
noncomputable abbrev qY:=kBls fun bs=>bs.any id
noncomputable abbrev qP:=kI cPow fun i j=>.int (i ^ j.toNat)
theorem zbm0 (t:Th) {f:DE}{i:Nat}{xs:List D}{d:D} (hf:f t=some (.cl d)) (hi:t[i]?=some (.own xs)) (hl:xs.length<100000):dApp i f t=some (.nx (t.set i (.own (xs++[d])))):=by
 unfold dApp
 rw [hf]
 simp only [zbn0,kApp,hi,Ev.ok,Ev.d,hl,decide_true,Bool.and_self,if_true]
theorem asg_of (t:Th) {f:DE}{i:Nat}{d:D} (hf:f t=some (.cl d)) (hi:i<t.length):dAsg i f t=some (.nx (t.set i (.val d))):=by
 unfold dAsg
 rw [hf]
 simp only [zbn0,zn9,hi,if_true,zbq3]
theorem ze9:∀xs:List Int,flats (xs.map D.int)=true
 |[]=>rfl
 |x::xs=>by
  have:=ze9 xs
  simp [flats,flat,this]
theorem zl0 {k:List Ev→Option Ev}{fa fb:DE}{t:Th}{ra rb:Ev} (h1:fa t=some ra) (h2:fb t=some rb):dT1 k (za2 fa (za2 fb dNil)) t=k [ra,rb]:=by
 simp [dT1,za2,dNil,h1,h2]
theorem zh5 {k:Ev→Ev→Option Ev}{fa fb:DE}{t:Th}{ra rb:Ev} (h1:fa t=some ra) (h2:fb t=some rb):d2 k fa fb t=k ra rb:=by
 simp [d2,h1,h2]
theorem zac3 (n:Nat):∀xs:List Int,eqOk (n+1) (.lst (xs.map D.int)) (.lst (xs.map D.int))=true
 |[]=>rfl
 |x::xs=>by
  have:=zac3 n xs
  simp only [eqOk]at this ⊢
  simp only [zbn7,zbs5,zbq5,this,zbv0]
  cases n<;>rfl
theorem t4_of {k:List Ev→Option Ev}{fa fb fc fd:DE}{t:Th}{ra rb rc rd:Ev} (h1:fa t=some ra) (h2:fb t=some rb) (h3:fc t=some rc) (h4:fd t=some rd):dT1 k (za2 fa (za2 fb (za2 fc (za2 fd dNil)))) t=k [ra,rb,rc,rd]:=by
 simp [dT1,za2,dNil,h1,h2,h3,h4]
theorem zad3 {k:List Ev→Option Ev}{fa fb fc:DE}{t:Th}{ra rb rc:Ev} (h1:fa t=some ra) (h2:fb t=some rb) (h3:fc t=some rc):dT1 k (za2 fa (za2 fb (za2 fc dNil))) t=k [ra,rb,rc]:=by
 simp [dT1,za2,dNil,h1,h2,h3]
theorem zl9 {k:List Ev→Option Ev}{fa:DE}{t:Th}{ra:Ev} (h1:fa t=some ra):dT1 k (za2 fa dNil) t=k [ra]:=by
 simp [dT1,za2,dNil,h1]
theorem ze3 {t:Th}{f:DE}{i:Nat}{d:D} (hf:f t=some (.cl d)) (hi:i<t.length):dAsg i f t=some (.nx (t.set i (.val d))):=asg_of t hf hi
theorem zn6 {t:Th}{f:DE}{i:Nat}{xs:List D} (hf:f t=some (.nw xs)) (hi:i<t.length):dAsg i f t=some (.nx (t.set i (.own xs))):=by
 unfold dAsg
 rw [hf]
 simp only [zbn0,zn9,hi,if_true,zbq3]
theorem zt1 (n b:Nat) (h:b<n):ixN n (b:Int)=some b:=by unfold ixN;rw [if_pos (by lia),if_pos (by lia)];simp
theorem get_map (L:List Int) (b:Nat) (h:b<L.length):(L.map D.int)[b]?=some (.int (L.getD b 0)):=by simp [zbo1,h]
theorem at_map (L:List Int) (b:Nat) (h:b<L.length):atI (L.map D.int) (b:Int)=some (.int (L.getD b 0)):=by
 unfold atI
 rw [zt1 _ _ (by simpa using h)]
 exact get_map L b h
theorem ixEv {r1 r2:Ev} (L:List Int) (b:Nat) (h:b<L.length) (h1:r1.d=.lst (L.map D.int)) (h2:r2.d=.int (b:Int)):kIx r1 r2=some (.cl (.int (L.getD b 0))):=by
 unfold kIx
 rw [h1,h2]
 show (atI (L.map D.int) (b:Int)).map _=_
 rw [at_map L b h]
 simp [flat]
theorem ifs_of {c:DT}{g1 g2:DS}{t:Th}{b:Bool} (h:c t=some b):dIfS c g1 g2 t=if b then g1 t else g2 t:=by
 unfold dIfS;rw [h];rfl
theorem zr7 {c:DT}{g1 g2:DS}{t:Th}{b:Bool} (h:c t=some b) (hb:b=true):dIfS c g1 g2 t=g1 t:=by
 rw [ifs_of h,hb];rfl
theorem ifs_f {c:DT}{g1 g2:DS}{t:Th}{b:Bool} (h:c t=some b) (hb:b=false):dIfS c g1 g2 t=g2 t:=by
 rw [ifs_of h,hb];rfl
theorem zax2 {k:D→Th→Option Th}{fe:DE}{f:Int→Int}{ext:Th} (hk:∀(s:Sl) (x:Int),k (.int x) (s::ext)=some (.val (.int x)::ext)) (hf:∀x:Int,fe (.val (.int x)::ext)=some (.cl (.int (f x)))):∀(xs:List Int) (s:Sl),ze4 k zc3 fe (xs.map D.int) (s::ext)=some ((xs.map f).map D.int)
 |[],s=>rfl
 |x::xs,s=>by
  simp only [zbn7,ze4,hk,zbn0,zc3,hf,if_true]
  rw [zax2 hk hf xs]
  rfl
theorem rem_of {t:Th}{f:DE}{i:Nat}{r:Ev}{K:List Int}{p:Int} (hf:f t=some r) (hr:r.d=.int p) (hi:t[i]?=some (.own (K.map D.int))) (hp:p∈K):dRem i f t=some (.nx (t.set i (.own ((K.erase p).map D.int)))):=by
 unfold dRem
 rw [hf]
 show kRem t i r=_
 unfold kRem
 rw [hi,hr]
 show (zl3 (K.map D.int)).bind _=_
 rw [intsD_map]
 show (if K.contains p=true then _ else _)=_
 rw [if_pos (by simpa using hp)]
theorem zx7 (t:Th) {f:DE}{i:Nat}{xs:List Int}{p:Int} (hf:f t=some (.cl (.int p))) (hi:t[i]?=some (.own (xs.map D.int))) (hl:xs.length<100000):dApp i f t=some (.nx (t.set i (.own ((xs++[p]).map D.int)))):=by
 rw [zbm0 t hf hi (by simpa using hl)]
 simp
theorem seq_rt {g1 g2:DS}{t:Th}{r:Ev} (h:g1 t=some (.rt r)):dSeq g1 g2 t=some (.rt r):=by simp [dSeq,h]
theorem grd {c:DT}{g:DS}{t:Th}{b:Bool} (h:c t=some b) (hb:b=false):dIfS c g zh4 t=some (.nx t):=(ifs_f h hb).trans rfl
theorem zah3 {c:DT}{g:DS}{t:Th}{b:Bool}{d:D} (h:c t=some b) (hb:b=true):dIfS c (dRet (dC d)) g t=some (.rt (.cl d)):=(zr7 h hb).trans rfl
theorem bnd {g:Option Out}{r:Ev} (h:g=some (.rt r)):g.bind zm2=some r:=by rw [h];rfl
theorem zg6 {fa fb:DE}{t:Th}{a b:Int} (h1:fa t=some (.cl (.int a))) (h2:fb t=some (.cl (.int b))):(d2 qA fa fb) t=some (.cl (.int (a+b))):=(zh5 h1 h2).trans rfl
theorem zt0 {fa fb:DE}{t:Th}{a b:Int} (h1:fa t=some (.cl (.int a))) (h2:fb t=some (.cl (.int b))):(d2 qS fa fb) t=some (.cl (.int (a - b))):=(zh5 h1 h2).trans rfl
theorem zd7 {fa fb:DE}{t:Th}{a b:Int} (h1:fa t=some (.cl (.int a))) (h2:fb t=some (.cl (.int b))) (hb:b≠0):(d2 qR fa fb) t=some (.cl (.int (a.fmod b))):=by
 rw [zh5 h1 h2]
 show (if cMod a b=true then _ else none)=_
 rw [if_pos (by unfold cMod;exact decide_eq_true hb)]
theorem zk1 {fa fb:DE}{t:Th}{a b:Int} (h1:fa t=some (.cl (.int a))) (h2:fb t=some (.cl (.int b))) (hb:b≠0) (hs:sm b=true):(d2 qV fa fb) t=some (.cl (.int (a.fdiv b))):=by
 rw [zh5 h1 h2]
 show (if cDiv a b=true then _ else none)=_
 rw [if_pos (by unfold cDiv;rw [hs];simp [hb])]
theorem zq8 {fa fb:DE}{t:Th}{a b:Int} (h1:fa t=some (.cl (.int a))) (h2:fb t=some (.cl (.int b))) (ha:sm a=true) (hb:sm b=true):(d2 qM fa fb) t=some (.cl (.int (a*b))):=by
 rw [zh5 h1 h2]
 have:cMul a b=true:=by simp only [cMul];rw [ha,hb];rfl
 simp [kOr,kI,Ev.d,this]
theorem pow12 (t:Th):(d2 qP (dC (.int 10)) (dC (.int 12))) t=some (.cl (.int 1000000000000)):=by
 simp [d2,dC,kI,cPow,kOr,tt2,Ev.d]
theorem zaz9 {fa fb:DE}{t:Th}{a b:Int} (h1:fa t=some (.cl (.int a))) (h2:fb t=some (.cl (.int b))):dBo (d2 qL fa fb) t=some (decide (a<b)):=by
 unfold dBo;rw [zh5 h1 h2];rfl
theorem gt_of {fa fb:DE}{t:Th}{a b:Int} (h1:fa t=some (.cl (.int a))) (h2:fb t=some (.cl (.int b))):dBo (d2 qG fa fb) t=some (decide (b<a)):=by
 unfold dBo;rw [zh5 h1 h2];rfl
theorem zo8 {fa fb:DE}{t:Th}{a b:Int} (h1:fa t=some (.cl (.int a))) (h2:fb t=some (.cl (.int b))):dBo (d2 kEq fa fb) t=some (decide (a=b)):=by
 unfold dBo;rw [zh5 h1 h2]
 have:kEq (.cl (.int a)) (.cl (.int b))=some (.cl (.bl (eqD (.int a) (.int b)))):=rfl
 rw [this,zah5];rfl
theorem zbf1 {fa fb:DE}{t:Th}{a b:Int} (h1:fa t=some (.cl (.int a))) (h2:fb t=some (.cl (.int b))):dBo (d2 kNe fa fb) t=some (!decide (a=b)):=by
 unfold dBo;rw [zh5 h1 h2]
 have:kNe (.cl (.int a)) (.cl (.int b))=some (.cl (.bl (!eqD (.int a) (.int b)))):=rfl
 rw [this,zah5];rfl
theorem or_of {f g:DT}{t:Th}{a b:Bool} (h1:f t=some a) (h2:a=false→g t=some b):dOr f g t=some (a||b):=by
 unfold dOr;rw [h1]
 cases a with
 |true=>rfl
 |false=>simp [h2 rfl]
theorem zy0 {f g:DT}{t:Th}{a b:Bool} (h1:f t=some a) (h2:g t=some b):dOr f g t=some (a||b):=or_of h1 fun _=>h2
theorem zai4 {f g:DT}{t:Th}{a b:Bool} (h1:f t=some a) (h2:g t=some b):dAnd f g t=some (a&&b):=by
 unfold dAnd;rw [h1];cases a<;>simp [h2]
theorem zaw2 {t:Th}{f:DE}{r:Ev}{xs:List Int} (h:f t=some r) (hr:r.d=.lst (xs.map D.int)):(dT1 kLen (za2 f dNil)) t=some (.cl (.int (xs.length:Int))):=by
 rw [zl9 h]
 unfold kLen
 simp only [hr,zbo0]
theorem zw3 {fa fb:DE}{t:Th}{r1 r2:Ev} (L:List Int) (b:Nat) (ha:fa t=some r1) (hb:fb t=some r2) (h:b<L.length) (h1:r1.d=.lst (L.map D.int)) (h2:r2.d=.int (b:Int)):(d2 kIx fa fb) t=some (.cl (.int (L.getD b 0))):=by
 rw [zh5 ha hb,ixEv L b h h1 h2]
theorem calln {G:List D→Option Ev}{rs:List Ev}{xs:List Int} (h:G (rs.map Ev.d)=some (.nw (xs.map D.int))):zb8 G rs=some (.nw (xs.map D.int)):=by
 unfold zb8
 rw [h]
 simp only [zbq3,upEv]
 split
 ·rfl
 ·simp [ze9]
theorem zl6 {G:List D→Option Ev}{rs:List Ev}{d:D} (h:G (rs.map Ev.d)=some (.cl d)) (hf:flat d=true):zb8 G rs=some (.cl d):=by
 unfold zb8
 rw [h]
 simp only [zbq3,upEv]
 split
 ·rfl
 ·simp [hf]
theorem cns {f:DE}{g:DA}{t:Th}{r:Ev}{rs:List Ev} (h1:f t=some r) (h2:g t=some rs):za2 f g t=some (r::rs):=by
 unfold za2;rw [h1,h2];rfl
theorem tk1 {k:List Ev→Option Ev}{g:DA}{t:Th}{rs:List Ev} (h:g t=some rs):dT1 k g t=k rs:=by
 unfold dT1;rw [h];rfl
theorem zay6 {f:DE}{t:Th}{b:Bool} (h:f t=some (.cl (.bl b))):dTr f t=some b:=by
 unfold dTr;rw [h];rfl
theorem zav7 {f:DT}{t:Th}{b:Bool} (h:f t=some b):dNot f t=some (!b):=by
 unfold dNot;rw [h];rfl
theorem zaa4 {f:DE}{t:Th}{r:Ev} (h:f t=some r):dRet f t=some (.rt r):=by
 unfold dRet;rw [h];rfl
theorem zan0 {k:D→Th→Option Th}{f:DE}{b:DS}{t:Th}{r:Ev}{ds:List D} (h:f t=some r) (hd:r.d=.lst ds) (ho:r.ok=true):dFor k f b t=forD k b ds t:=by
 unfold dFor
 rw [h]
 simp only [zbn0,hd,ho,if_true]
theorem zau9 (x:Int):∀m:Nat,(zbn4 m [D.int x]).flatten=(zbn4 m x).map D.int
 |0=>rfl
 |m+1=>by rw [zbq9,zbv8,zau9 x m,zbq9];rfl
theorem zap8 {fa fb:DE}{t:Th}{x:Int}{m:Nat} (h1:fa t=some (.nw [.int x])) (h2:fb t=some (.cl (.int (m:Int)))) (hm:m≤900):(d2 qM fa fb) t=some (.nw ((zbn4 m x).map D.int)):=by
 rw [zh5 h1 h2]
 show (if ([D.int x].length≤100&&decide (-1000000≤(m:Int)∧(m:Int)≤1000))=true then some (Ev.nw (zbn4 (m:Int).toNat [D.int x]).flatten) else none)=_
 rw [if_pos (by simp;lia),zbs8,zau9]
theorem zap3 (n:Nat):Builtin.Range.rangeSize 0 (n:Int) 1=(n:Int):=by
 unfold Builtin.Range.rangeSize
 rw [if_pos (by lia)]
 split<;>lia
theorem ok_of {n:Nat} (hn:n≤1000):zaa3 0 (n:Int) 1=true:=by
 unfold zaa3
 rw [small_of (by lia) (by lia),zap3,decide_eq_true (by lia)]
 rfl
theorem lr_of {f:DE}{t:Th}{n:Nat} (h:f t=some (.cl (.int (n:Int)))) (hn:n≤1000):(zn5 (za2 f dNil)) t=some (.nw ((zb9 n).map D.int)):=by
 have e:(za2 f dNil) t=some [.cl (.int (n:Int))]:=by simp [za2,dNil,h]
 have e2:rArgs ([Ev.cl (.int (n:Int))].map Ev.d)=some (0,(n:Int),1):=rfl
 have c:(zaa3 0 (n:Int) 1&&decide (Builtin.Range.rangeSize 0 (n:Int) 1≤50000))=true:=by
  rw [ok_of hn,zap3,decide_eq_true (by lia)];rfl
 unfold zn5
 rw [e,zbn0,e2,zbn0,if_pos c]
 unfold rng3 zb9
 rw [zap3,zbs8]
 simp
theorem zm0 {k0:D→Th→Option Th}{b:DS}{t:Th}{f:DE}{r:Ev}{n:Nat} (h:f t=some r) (hr:r.d=.int (n:Int)) (hn:n≤100000):zi3 k0 f b t=forD k0 b ((zb9 n).map D.int) t:=by
 unfold zi3
 rw [h]
 simp only [zbn0,hr]
 rw [if_pos (by unfold bigI;exact decide_eq_true (by lia)),zbs8]
 congr 1
 unfold rngD zb9
 simp
theorem compR_of {cap:List Nat}{f:DE}{fe:DE}{t:Th}{n:Nat}{g:Int→Int}{b:Bool}{c:List D} (hf:f t=some (.cl (.int (n:Int)))) (hn:n≤50000) (hc:capD t cap=some (b,c)) (he:∀x:Int,fe (.val (.int x)::c.map Sl.val)=some (.cl (.int (g x)))) :
  (zf8 1 cap (fsR1 f) (za3 0) zc3 fe) t=some (.nw (((zb9 n).map g).map D.int)):=by
 unfold zf8
 have e1:fsR1 f t=some (true,(zb9 n).map D.int):=by
  unfold fsR1
  rw [hf]
  simp only [zbn0,Ev.d]
  rw [if_pos (by unfold bigI;exact decide_eq_true (by lia)),zbs8]
  congr 2
  unfold rngD zb9
  simp
 have e2:ze4 (za3 0) zc3 fe ((zb9 n).map D.int) (Sl.no::c.map Sl.val)=some (((zb9 n).map g).map D.int):=zax2 (fun _ _=>rfl) he _ _
 rw [e1,hc]
 simp only [zbn0]
 rw [if_pos (by simp [zb9];lia)]
 show (ze4 (za3 0) zc3 fe ((zb9 n).map D.int) (Sl.no::c.map Sl.val)).bind _=_
 rw [e2]
 simp only [zbn0,ze9,zbs2,if_true]
theorem zar5 {f:DE}{t:Th}{r:Ev}{xs:List Int} (h:f t=some r) (hr:r.d=.lst (xs.map D.int)):(dT1 zm7 (za2 f dNil)) t=some (.nw (xs.map D.int)):=by
 rw [zl9 h]
 unfold zm7
 simp only [hr,ze9,zbs2,if_true]
theorem zau3 {f:DE}{t:Th}{r:Ev}{xs:List Int} (h:f t=some r) (hr:r.d=.lst (xs.map D.int)) (hl:xs.length<64):(dT1 zae4 (za2 f dNil)) t=some (.nw ((zg7 xs).map D.int)):=by
 rw [zl9 h]
 unfold zae4
 simp only [hr,intsD_map,zbn0]
 rw [if_pos hl]
theorem zbh6 {f:DE}{t:Th}{b:Bool} (h:f t=some (.cl (.bl b))):(dT1 zar8 (za2 f dNil)) t=some (.cl (.int (if b then 1 else 0))):=by
 rw [zl9 h];rfl
theorem gtv_of {fa fb:DE}{t:Th}{a b:Int} (h1:fa t=some (.cl (.int a))) (h2:fb t=some (.cl (.int b))):(d2 qG fa fb) t=some (.cl (.bl (decide (b<a)))):=(zh5 h1 h2).trans rfl
theorem zax1 {k:D→Th→Option Th}{fe:DE}{f:Int→Int}{ext:Th} (hk:∀(s:Sl) (x:Int),k (.int x) (s::ext)=some (.val (.int x)::ext)):∀(xs:List Int) (s:Sl),(∀x∈xs,fe (.val (.int x)::ext)=some (.cl (.int (f x))))→ze4 k zc3 fe (xs.map D.int) (s::ext)=some ((xs.map f).map D.int)
 |[],s,_=>rfl
 |x::xs,s,hf=>by
  simp only [zbn7,ze4,hk,zbn0,zc3,hf x (zbn1 ..),if_true]
  rw [zax1 hk xs _ fun y hy=>hf y (zbm9 _ hy)]
  rfl
theorem zbc6 {f:DE}{t:Th}{r:Ev}{xs:List Int} (h:f t=some r) (hr:r.d=.lst (xs.map D.int)):(dT1 kSum (za2 f dNil)) t=some (.cl (.int xs.sum)):=by
 rw [zl9 h]
 unfold kSum
 simp only [hr,intsD_map]
 rfl
theorem for_P {k:D→Th→Option Th}{b:DS}{P:Th→Prop}:∀(ds:List D),(∀d∈ds,∀t,P t→∃t1 t2,k d t=some t1∧b t1=some (.nx t2)∧P t2)→∀t,P t→∃t',forD k b ds t=some (.nx t')∧P t'
 |[],_,t,h=>⟨t,rfl,h⟩
 |d::ds,hd,t,h=>by
  obtain⟨t1,t2,e1,e2,h2⟩:=hd d (zbn1 ..) t h
  obtain⟨t',e,h'⟩:=for_P ds (fun d' hd'=>hd d' (zbm9 _ hd')) t2 h2
  exact⟨t',by simp only [forD,e1,e2,zbn0];exact e,h'⟩
noncomputable def stG (W:Int→Int) (b x:Int):Int:=if W b<W x then x else b
theorem zbl6 {fb:DE}{W:Int→Int}{cs:List D}:∀(l:List Int) (b:Int),(∀x∈l,fb (.val (.int x)::cs.map Sl.val)=some (.cl (.int (W x))))→zbl7 true fb cs (.int b) (.int (W b)) (l.map D.int)=some (.int (l.foldl (stG W) b))
 |[],b,_=>rfl
 |x::l,b,h=>by
  have e:=h x (zbn1 ..)
  simp only [zbn7,zbl7,e,zbn0,Ev.d,flat,if_true,cmpD,cmpI,zca6]
  have ih:=fun b=>zbl6 l b fun y hy=>h y (zbm9 _ hy)
  by_cases c:W b<W x
  ·rw [if_pos (decide_eq_true c),show stG W b x=x from if_pos c];exact ih x
  ·rw [if_neg (by simpa using c),show stG W b x=b from if_neg c];exact ih b
theorem key_of {fa fb:DE}{W:Int→Int}{cs:List D}{b:Bool}{cap:List Nat}{t:Th}{r:Ev}{x:Int}{l:List Int} (ha:fa t=some r) (hr:r.d=.lst ((x::l).map D.int)) (hc:capD t cap=some (b,cs)) (h:∀y∈x::l,fb (.val (.int y)::cs.map Sl.val)=some (.cl (.int (W y)))):dKey true cap fa fb t=some (.cl (.int (l.foldl (stG W) x))):=by
 unfold dKey
 rw [ha,hc]
 simp only [zbn0,hr,zbn7]
 rw [show (zl3 (D.int x::l.map D.int)).isSome=true by rw [← zbn7 (f:=D.int),intsD_map];rfl,if_pos rfl,h x (zbn1 ..)]
 simp only [zbn0,Ev.d,flat,if_true]
 rw [zbl6 l x fun y hy=>h y (zbm9 _ hy)]
 rfl
noncomputable def pD (p:Int×Int):D:=.tup [.int p.1,.int p.2]
theorem zl5:∀ts:List (Int×Int),flats (ts.map pD)=true
 |[]=>rfl
 |p::ts=>by simp only [zbn7,flats,zl5 ts];rfl
theorem zbi1 (n:Nat):∀ts:List (Int×Int),eqOk (n+2) (.lst (ts.map pD)) (.lst (ts.map pD))=true
 |[]=>rfl
 |p::ts=>by
  have:=zbi1 n ts
  simp only [eqOk]at this ⊢
  simp only [zbn7,zbs5,zbq5,this,zbv0]
  cases n<;>rfl
theorem zan7 {k:D→Th→Option Th}{fe:DE}{f:Int→D}{ext:Th} (hk:∀(s:Sl) (x:Int),k (.int x) (s::ext)=some (.val (.int x)::ext)) (hc:∀x,flat (f x)=true):∀(xs:List Int) (s:Sl),(∀x∈xs,∃r,fe (.val (.int x)::ext)=some r∧r.d=f x)→ze4 k zc3 fe (xs.map D.int) (s::ext)=some (xs.map f)
 |[],s,_=>rfl
 |x::xs,s,hf=>by
  obtain⟨r,e,er⟩:=hf x (zbn1 ..)
  have ih:=zan7 hk hc xs (.val (.int x)) fun y hy=>hf y (zbm9 _ hy)
  have f1:=hc x
  rw [← er]at f1
  cases r<;>simp_all [ze4,zc3,Ev.d,Ev.ok]
theorem slu_pD {fa fb:DE}{t:Th}{r:Ev}{ts:List (Int×Int)}{n:Nat} (ha:fa t=some r) (hb:fb t=some (.cl (.int (n:Int)))) (hr:r.d=.lst (ts.map pD)):(dSlU fb fa) t=some (.nw ((ts.take n).map pD)):=by
 unfold dSlU
 rw [ha,hb]
 simp only [zbn0,hr]
 show (if (r.ok||flats (ts.map pD))=true then some (Ev.nw ((ts.map pD).take (HT.sIx (ts.map pD).length (ts.map pD).length (some (n:Int))))) else none)=_
 rw [zl5,if_pos (by simp),HT.sIx_nat,zbo0, ← List.map_take]
 congr 3
 by_cases h:n≤ts.length
 ·rw [Nat.min_eq_left h]
 ·rw [Nat.min_eq_right (by lia),zbt1 (zbp4 _),zbt1 (by lia)]
theorem cat_pD {fa fb:DE}{t:Th}{xs ys:List (Int×Int)} (ha:fa t=some (.nw (xs.map pD))) (hb:fb t=some (.nw (ys.map pD))) (hl:xs.length+ys.length≤100000):(d2 qA fa fb) t=some (.nw ((xs++ys).map pD)):=by
 rw [zh5 ha hb,zbs4]
 show kCat (.nw (xs.map pD)) (.nw (ys.map pD))=_
 unfold kCat
 simp only [Ev.d,Ev.ok,zcb3,zbz3]
 rw [if_pos (decide_eq_true (by simpa using hl))]
theorem zbg4 {f:DE}{t:Th}{r:Ev}{ts:List (Int×Int)} (h:f t=some r) (hr:r.d=.lst (ts.map pD)):(dT1 zm7 (za2 f dNil)) t=some (.nw (ts.map pD)):=by
 rw [zl9 h]
 unfold zm7
 simp only [hr,zl5,zbs2,if_true]
noncomputable def rwD (r:List Int):D:=.lst (r.map D.int)
noncomputable def mD (M:List (List Int)):D:=.lst (M.map rwD)
noncomputable def gM (M:List (List Int)) (i j:Int):Int:=(M.getD i.toNat []).getD j.toNat 0
structure Sq (n:Nat) (M:List (List Int)):Prop where
 len:M.length=n
 row:∀r∈M,r.length=n
theorem Sq.rowD {n:Nat}{M:List (List Int)} (S:Sq n M) {i:Nat} (h:i<n):(M.getD i []).length=n:=by
 have hi:i<M.length:=by rw [S.len];exact h
 rw [zbo1,zbn9 hi]
 exact S.row _ (zbz4 hi)
theorem zbd2 {fa fb:DE}{t:Th}{r1:Ev}{M:List (List Int)}{i:Int} (ha:fa t=some r1) (h1:r1.d=mD M) (hb:fb t=some (.cl (.int i))) (i0:0≤i) (il:i<(M.length:Int)):∃r,(d2 kIx fa fb) t=some r∧r.d=rwD (M.getD i.toNat []):=by
 rw [zh5 ha hb]
 unfold kIx
 rw [h1]
 have hl:i.toNat<M.length:=by lia
 have e:atI (M.map rwD) i=some (rwD (M.getD i.toNat [])):=by
  unfold atI
  have:ixN (M.map rwD).length i=some i.toNat:=by
   have:=zt1 (M.map rwD).length i.toNat (by simpa using hl)
   rwa [zbq6 i0]at this
  rw [this]
  simp [zbo1,hl]
 show ∃r,((atI (M.map rwD) i).map _)=some r∧_
 rw [e]
 refine⟨_,rfl,?_⟩
 dsimp only
 split<;>rfl
theorem zr6 {fa fb fc:DE}{t:Th}{r1:Ev}{n:Nat}{M:List (List Int)} (S:Sq n M) {i j:Int} (ha:fa t=some r1) (h1:r1.d=mD M) (hb:fb t=some (.cl (.int i))) (hc:fc t=some (.cl (.int j))) (i0:0≤i) (il:i<(n:Int)) (j0:0≤j) (jl:j<(n:Int)):(d2 kIx (d2 kIx fa fb) fc) t=some (.cl (.int (gM M i j))):=by
 obtain⟨r,e,hr⟩:=zbd2 ha h1 hb i0 (by rw [S.len];exact il)
 have hl:=S.rowD (i:=i.toNat) (by lia)
 exact zw3 (M.getD i.toNat []) j.toNat e hc (by rw [hl];lia) hr (by show D.int j=D.int _;rw [zbq6 j0])
theorem zbi2 (n:Nat):∀M:List (List Int),eqOk (n+2) (mD M) (mD M)=true
 |[]=>rfl
 |r::M=>by
  have:=zbi2 n M
  unfold mD at this ⊢
  simp only [eqOk]at this ⊢
  simp only [zbn7,zbs5,zbq5,this,zbv0]
  exact zac3 n r
theorem eq_mD {r1 r2:Ev} (M:List (List Int)) (h1:r1.d=mD M) (h2:r2.d=mD M):kEq r1 r2=some (.cl (.bl true)):=by
 unfold kEq
 rw [h1,h2,if_pos (zbi2 4 M),zah4]
theorem zx2 {t:Th}{f:DE}{r:Ev}{M:List (List Int)} (h:f t=some r) (hr:r.d=mD M):(dT1 kLen (za2 f dNil)) t=some (.cl (.int (M.length:Int))):=by
 rw [zl9 h]
 unfold kLen
 simp only [hr,mD,zbo0]
noncomputable def lowI (L:List Int):Int:=zq9 (L.headD 0) L.tail
noncomputable def setM (M:List (List Int)) (i j:Nat) (v:Int):List (List Int):=M.set i ((M.getD i []).set j v)
theorem zbd0 {n:Nat}{M:List (List Int)} (S:Sq n M) {i j:Nat} (v:Int) (hi:i<n):Sq n (setM M i j v):=by
 refine⟨by unfold setM;rw [zbx0];exact S.len,fun r hr=>?_⟩
 rcases List.mem_or_eq_of_mem_set hr with w | w
 ·exact S.row r w
 ·rw [w,zbx0];exact S.rowD hi
theorem zm8 {n:Nat}{M:List (List Int)} (S:Sq n M) {i j:Nat} (v:Int) (hi:i<n) (hj:j<n) (a b:Nat):((setM M i j v).getD a []).getD b 0=if a=i∧b=j then v else (M.getD a []).getD b 0:=by
 unfold setM
 have hl:i<M.length:=by rw [S.len];exact hi
 have hr:=S.rowD hi
 by_cases e:a=i
 ·subst e
  have e1:(M.set a ((M.getD a []).set j v)).getD a []=(M.getD a []).set j v:=by
   rw [zbo1,zbu8 hl];rfl
  rw [e1]
  by_cases f:b=j
  ·subst f
   rw [if_pos ⟨rfl,rfl⟩,zbo1,zbu8 (by rw [hr];exact hj)];rfl
  ·rw [if_neg fun w=>f w.2,zbo1,zbu3 (fun w=>f w.symm), ← zbo1]
 ·rw [if_neg fun w=>e w.1]
  have e1:(M.set i ((M.getD i []).set j v)).getD a []=M.getD a []:=by
   rw [zbo1,zbu3 (fun w=>e w.symm), ← zbo1]
  rw [e1]
theorem zbd1:∀xs:List Int,(xs.map D.int).all scD=true
 |[]=>rfl
 |x::xs=>by simp only [zbn7,zbq5,zbd1 xs];rfl
theorem zz9 {t:Th}{fi fk fv:DE}{s:Nat}{n i j:Nat}{M:List (List Int)}{v:Int}{ri rk rv:Ev} (S:Sq n M) (hv:fv t=some rv) (ev:rv.d=.int v) (hi:fi t=some ri) (ei:ri.d=.int (i:Int)) (hk:fk t=some rk) (ek:rk.d=.int (j:Int)) (hs:t[s]?=some (.dp (mD M))) (il:i<n) (jl:j<n):zah6 s [fi] fk fv t=some (.nx (t.set s (.dp (mD (setM M i j v))))):=by
 have hl:i<M.length:=by rw [S.len];exact il
 have hr:=S.rowD il
 have hx:(M.map rwD)[i]?=some (rwD (M.getD i [])):=by
  rw [zbp7,zbo1,zbn9 hl];rfl
 have ixn:ixN (M.map rwD).length (i:Int)=some i:=zt1 _ i (by rw [zbo0];exact hl)
 have ga:getP (mD M) [(i:Int)]=some (.lst ((M.getD i []).map D.int)):=by
  unfold mD getP atI
  rw [ixn]
  simp only [zbn0,hx]
  rfl
 have pu:putP (mD M) [(i:Int)] (.lst (((M.getD i []).map D.int).set j (.int v)))=some (mD (setM M i j v)):=by
  unfold mD putP
  rw [ixn]
  simp only [zbn0,hx]
  simp only [putP,zbq3]
  unfold setM
  rw [← zcb5 (f:=D.int),zcb5 (f:=rwD)]
  rfl
 unfold zah6
 rw [hv,hk]
 simp only [pthD,hi,zbn0,ei,zbq3]
 unfold kSetP
 rw [hs]
 simp only [ga,ek,ev]
 have cc:(((M.getD i []).map D.int).all scD&&scD (D.int v))=true:=by rw [zbd1];rfl
 rw [if_pos cc,zbo0,zt1 _ j (by rw [hr];exact jl)]
 simp only [zbn0,pu,zbq3]
theorem zg5 {n:Nat}{x:Int} (h:x∈zb9 n):0≤x∧x<(n:Int):=by
 obtain⟨i,hi⟩:=List.mem_iff_getElem?.mp h
 obtain⟨q,l⟩:=zbf2 hi
 lia
theorem zn2 {n:Nat}{x:Int} (h0:0≤x) (h1:x<(n:Int)):x∈zb9 n:=by
 unfold zb9
 exact zbq8.mpr ⟨x.toNat,zbw2.mpr (by lia),by lia⟩
theorem zz8:∀ {l C:List Int},l.Nodup→(∀x∈l,x∈C)→l.length≤C.length
 |[],C,_,_=>zbz6 _
 |x::l,C,nd,h=>by
  rw [zbo9]at nd
  have hx:=h x (zbn1 ..)
  have:=zz8 (l:=l) (C:=C.erase x) nd.2 fun y hy=>(zbq4 (fun e=>nd.1 (by rw [← e];exact hy))).mpr (h y (zbm9 _ hy))
  rw [zbs3 hx]at this
  have:=zbt3 hx
  simp only [zbp9]
  lia
theorem nats_nd (n:Nat):(zb9 n).Nodup:=by
 unfold zb9
 refine zby9.mpr ?_
 exact (zce3 (n:=n)).imp fun h e=>h (by lia)
theorem zae0 {f:DE}{t:Th}{n:Nat} (hf:f t=some (.cl (.int (n:Int)))) (hn:n≤50000):fsR1 f t=some (true,(zb9 n).map D.int):=by
 unfold fsR1
 rw [hf]
 simp only [zbn0,Ev.d]
 rw [if_pos (by unfold bigI;exact decide_eq_true (by lia)),zbs8]
 congr 2
 unfold rngD zb9
 simp
theorem zbj8 {cap:List Nat}{f:DE}{fe:DE}{t:Th}{n:Nat}{g:Int→Int}{b:Bool}{c:List D} (hf:f t=some (.cl (.int (n:Int)))) (hn:n≤50000) (hc:capD t cap=some (b,c)) (he:∀x∈zb9 n,fe (.val (.int x)::c.map Sl.val)=some (.cl (.int (g x)))) :
  (zf8 1 cap (fsR1 f) (za3 0) zc3 fe) t=some (.nw (((zb9 n).map g).map D.int)):=by
 unfold zf8
 have e2:ze4 (za3 0) zc3 fe ((zb9 n).map D.int) (Sl.no::c.map Sl.val)=some (((zb9 n).map g).map D.int):=zax1 (fun _ _=>rfl) _ _ he
 rw [zae0 hf hn,hc]
 simp only [zbn0]
 rw [if_pos (by rw [zbo0,ze2];exact hn)]
 show (ze4 (za3 0) zc3 fe ((zb9 n).map D.int) (Sl.no::c.map Sl.val)).bind _=_
 rw [e2]
 simp only [zbn0,ze9,zbs2,if_true]
noncomputable def nr (M:List (List Int)) (C:List Int) (p:Int):Int:=lowI (C.map (gM M p))
structure CIn (n:Nat) (C:List Int):Prop where
 ne:0<C.length
 rg:∀x∈C,0≤x∧x<(n:Int)
noncomputable def dV (P:List Int) (V:Int→Int):D:=.dct (P.map Sum.inl) (P.map fun p=>.int (V p))
noncomputable def adP (P:List Int) (p:Int):List Int:=if p∈P then P else P++[p]
noncomputable def upV (V:Int→Int) (p v:Int):Int→Int:=fun q=>if q=p then v else V q
theorem has_V (p:Int):∀P:List Int,hasK (P.map Sum.inl) (Sum.inl p)=decide (p∈P)
 |[]=>rfl
 |q::P=>by
  have i:=has_V p P
  unfold hasK at i ⊢
  rw [zbn7,zbx1,i]
  by_cases h:q=p
  ·subst h;simp
  ·have h' : ¬ (Sum.inl q:Key)=Sum.inl p:=fun z=>h (by injection z)
   have : ¬ p=q:=fun z=>h z.symm
   rw [decide_eq_false h']
   simp [this]
theorem sc_V (V:Int→Int):∀P:List Int,(P.map fun p=>D.int (V p)).all scD=true
 |[]=>rfl
 |_::P=>by simp only [zbn7,zbq5,sc_V V P];rfl
theorem get_V (V:Int→Int) (p:Int):∀P:List Int,zy5 (P.map Sum.inl) (P.map fun p=>D.int (V p)) (Sum.inl p)=if p∈P then some (.int (V p)) else none
 |[]=>rfl
 |q::P=>by
  simp only [zbn7,zy5,get_V V p P]
  by_cases h:q=p
  ·subst h;simp
  ·have h' : ¬ (Sum.inl q:Key)=Sum.inl p:=fun z=>h (by injection z)
   have : ¬ p=q:=fun z=>h z.symm
   rw [if_neg h']
   simp [this]
theorem zip_V (V:Int→Int) (p v:Int):∀P:List Int,zcb4 (fun (k':Key) d'=>if k'=Sum.inl p then D.int v else d') (P.map Sum.inl) (P.map fun p=>D.int (V p))=P.map fun q=>D.int (upV V p v q)
 |[]=>rfl
 |q::P=>by
  simp only [zbn7,zbx2,zip_V V p v P]
  by_cases h:q=p
  ·subst h;simp [upV]
  ·have h' : ¬ (Sum.inl q:Key)=Sum.inl p:=fun z=>h (by injection z)
   rw [if_neg h']
   simp [upV,h]
theorem put_V (P:List Int) (V:Int→Int) (p v:Int):D.dct (zv7 (P.map Sum.inl) (P.map fun p=>.int (V p)) (Sum.inl p) (.int v)).1 (zv7 (P.map Sum.inl) (P.map fun p=>.int (V p)) (Sum.inl p) (.int v)).2=dV (adP P p) (upV V p v):=by
 unfold zv7 adP
 rw [has_V]
 by_cases h:p∈P
 ·rw [decide_eq_true h,if_pos rfl,if_pos h]
  show D.dct (P.map Sum.inl) (zcb4 _ _ _)=_
  rw [zip_V]
  rfl
 ·rw [decide_eq_false h,if_neg (by decide),if_neg h]
  unfold dV
  have e:(P.map fun q=>D.int (upV V p v q))=P.map fun q=>D.int (V q):=zcc0 fun q hq=>by
   have:q≠p:=fun z=>h (z ▸ hq)
   simp [upV,this]
  simp only [zbs4,zbn7,zby3,e]
  simp [upV]
theorem zax0 {t:Th}{i:Nat}{fk fv:DE}{P:List Int}{V:Int→Int}{p v:Int}{rk rv:Ev} (hv:fv t=some rv) (ev:rv.d=.int v) (hk:fk t=some rk) (ek:rk.d=.int p) (hi:t[i]?=some (.dp (dV P V))) (hl:P.length<10000):zba6 i fk fv t=some (.nx (t.set i (.dp (dV (adP P p) (upV V p v))))):=by
 unfold zba6
 rw [hv,hk]
 show zbh3 t i rv rk=_
 unfold zbh3
 rw [hi,ek,ev]
 show (if (P.map fun p=>D.int (V p)).all scD&&scD (.int v)&&decide ((P.map Sum.inl).length<100000) then some (Out.nx (t.set i (.dp (.dct (zv7 (P.map Sum.inl) (P.map fun p=>.int (V p)) (Sum.inl p) (.int v)).1 (zv7 (P.map Sum.inl) (P.map fun p=>.int (V p)) (Sum.inl p) (.int v)).2)))) else none)=_
 rw [if_pos (by rw [sc_V];simp [scD];lia),put_V]
theorem zar0 {t:Th}{f1 f2:DE}{P:List Int}{V:Int→Int}{p:Int}{r2:Ev} (h1:f1 t=some (.cl (.int p))) (h2:f2 t=some r2) (e2:r2.d=dV P V):dBo (d2 (kInD true) f1 f2) t=some (!decide (p∈P)):=by
 unfold dBo
 rw [zh5 h1 h2]
 unfold kInD
 rw [e2]
 show (match D.bl (!hasK (P.map Sum.inl) (Sum.inl p)) with
  |.bl b=>some b
  |_=>none)=_
 rw [has_V]
theorem lenV_of {t:Th}{f:DE}{P:List Int}{V:Int→Int}{r:Ev} (h:f t=some r) (e:r.d=dV P V):(dT1 zam7 (za2 f dNil)) t=some (.cl (.int (P.length:Int))):=by
 rw [zl9 h]
 unfold zam7
 simp only [e]
 show some (Ev.cl (D.int ((P.map Sum.inl).length:Int)))=_
 rw [zbo0]
theorem zz5 {t:Th}{fa fb:DE}{P:List Int}{V:Int→Int}{p:Int}{ra rb:Ev} (ha:fa t=some ra) (ea:ra.d=dV P V) (hb:fb t=some rb) (eb:rb.d=.int p) (hp:p∈P):(d2 zah1 fa fb) t=some (.cl (.int (V p))):=by
 rw [zh5 ha hb]
 unfold zah1
 rw [ea,eb]
 show (if (P.map fun p=>D.int (V p)).all scD then (zy5 (P.map Sum.inl) (P.map fun p=>D.int (V p)) (Sum.inl p)).map Ev.cl else none)=_
 rw [if_pos (sc_V V P),get_V,if_pos hp]
 rfl
noncomputable def ltr (n:Int):Nat→List Int→Int→Int
 |_,[],_=>n
 |i,x::xs,p=>if x=p then (i:Int) else ltr n (i+1) xs p
noncomputable def Fo (v:Int→Int) (p q:Int):Prop:=v q<v p∨(v q=v p∧p≤q)
theorem for_I {k:D→Th→Option Th}{b:DS}{f:Nat→D}{P:Nat→Th→Prop}{n:Nat} (hb:∀x,x<n→∀t,P x t→∃t1 t2,k (f x) t=some t1∧b t1=some (.nx t2)∧P (x+1) t2):∀(m i:Nat) (t:Th),i+m=n→P i t→∃t',forD k b ((List.range' i m).map f) t=some (.nx t')∧P n t'
 |0,i,t,e,h=>⟨t,rfl,by rw [← e];exact h⟩
 |m+1,i,t,e,h=>by
  obtain⟨t1,t2,e1,e2,h2⟩:=hb i (by lia) t h
  obtain⟨t',e3,h'⟩:=for_I hb m (i+1) t2 (by lia) h2
  refine⟨t',?_,h'⟩
  rw [List.range'_succ,zbn7]
  simp only [forD,e1,e2,zbn0,e3]
theorem zae8 {k:D→Th→Option Th}{b:DS}{f:Nat→D}{P:Nat→Th→Prop}{n:Nat} (hb:∀x,x<n→∀t,P x t→∃t1 t2,k (f x) t=some t1∧b t1=some (.nx t2)∧P (x+1) t2) (t:Th) (h:P 0 t):∃t',forD k b ((zbp2 n).map f) t=some (.nx t')∧P n t':=by
 have:=for_I hb n 0 t (by lia) h
 rwa [List.range_eq_range']
noncomputable def DI (n:Int) (P:List Int) (V:Int→Int) (i:Nat) (ps:List Int):Prop := ∀q,(if q∈P then V q else n)=ltr n i (ps.drop i) q
end KX
set_option maxHeartbeats 1000000
namespace KX
section
variable {w:Int→Int→Int}
noncomputable abbrev Ed:=Int×Int
inductive Cn (S:List Int) (F:List Ed):Int→Prop
 |base {v:Int}:v∈S→Cn S F v
 |fw {u v:Int}:(u,v)∈F→Cn S F u→Cn S F v
 |bw {u v:Int}:(v,u)∈F→Cn S F u→Cn S F v
noncomputable def wtE (w:Int→Int→Int) (F:List Ed):Int:=(F.map fun e=>w e.1 e.2).sum
theorem zv0 (e:Ed) (F:List Ed):wtE w (e::F)=w e.1 e.2+wtE w F:=by simp [wtE]
theorem zba9 {F:List Ed} (h:∀e∈F,0≤w e.1 e.2):0≤wtE w F:=by
 induction F with
 |nil=>exact zbw8 0
 |cons e F ih =>
  rw [zv0]
  have:=ih fun x hx=>h x (zbm9 _ hx)
  have:=h e (zbn1 ..)
  lia
theorem zai7 {F:List Ed}{e:Ed} (h:e∈F):wtE w F=w e.1 e.2+wtE w (F.erase e):=by
 have p:=(zcb6 h).map fun e:Ed=>w e.1 e.2
 have key:∀ {l m:List Int},l.Perm m→l.sum=m.sum:=by
  intro l m p
  induction p with
  |nil=>rfl
  |cons _ _ ih=>simp [ih]
  |swap=>simp;lia
  |trans _ _ a b=>exact a.trans b
 have:=key p
 simpa [wtE] using this
theorem Cn.trans {S:List Int}{G:List Ed}{x u v:Int} (h:Cn (S++[u]) G v) (k:Cn (S++[x]) G u):Cn (S++[x]) G v:=by
 induction h with
 |@base v m =>
  rcases zbn2.mp m with z | z
  ·exact .base (zbm8 _ z)
  ·rw [zbn3.mp z];exact k
 |fw e _ ih=>exact .fw e ih
 |bw e _ ih=>exact .bw e ih
theorem cross {S:List Int}{F:List Ed}{x:Int} (h:Cn S F x):x∉S→∃(e:Ed) (a b:Int),e∈F∧(e=(a,b)∨e=(b,a))∧a∈S∧b∉S∧Cn (S++[x]) (F.erase e) b:=by
 induction h with
 |base m=>exact fun n=>absurd m n
 |@fw u v m _ ih =>
  intro n
  by_cases c:u∈S
  ·exact⟨(u,v),u,v,m,.inl rfl,c,n,.base (zbm6 _ (zbn3.mpr rfl))⟩
  ·obtain⟨e,a,b,h1,h2,h3,h4,h5⟩:=ih c
   have ne:(u,v)≠e:=fun z=>by
    rcases h2 with q | q
    ·rw [q]at z;injection z with z1 z2;exact c (z1 ▸ h3)
    ·rw [q]at z;injection z with z1 z2;exact n (z2 ▸ h3)
   exact⟨e,a,b,h1,h2,h3,h4,h5.trans (.bw ((zbq4 ne).mpr m) (.base (zbm6 _ (zbn3.mpr rfl))))⟩
 |@bw u v m _ ih =>
  intro n
  by_cases c:u∈S
  ·exact⟨(v,u),u,v,m,.inr rfl,c,n,.base (zbm6 _ (zbn3.mpr rfl))⟩
  ·obtain⟨e,a,b,h1,h2,h3,h4,h5⟩:=ih c
   have ne:(v,u)≠e:=fun z=>by
    rcases h2 with q | q
    ·rw [q]at z;injection z with z1 z2;exact n (z1 ▸ h3)
    ·rw [q]at z;injection z with z1 z2;exact c (z2 ▸ h3)
   exact⟨e,a,b,h1,h2,h3,h4,h5.trans (.fw ((zbq4 ne).mpr m) (.base (zbm6 _ (zbn3.mpr rfl))))⟩
theorem Cn.keep {S:List Int}{F:List Ed}{x v:Int}{e:Ed}{a b:Int} (h:Cn S F v) (he:e=(a,b)∨e=(b,a)) (ha:a∈S) (hb:Cn (S++[x]) (F.erase e) b):Cn (S++[x]) (F.erase e) v:=by
 induction h with
 |base m=>exact .base (zbm8 _ m)
 |@fw u v m _ ih =>
  by_cases c:(u,v)=e
  ·rcases he with q | q
   ·rw [q]at c;injection c with c1 c2;exact c2 ▸ hb
   ·rw [q]at c;injection c with c1 c2;exact .base (zbm8 _ (c2 ▸ ha))
  ·exact .fw ((zbq4 c).mpr m) ih
 |@bw u v m _ ih =>
  by_cases c:(v,u)=e
  ·rcases he with q | q
   ·rw [q]at c;injection c with c1 c2;exact .base (zbm8 _ (c1 ▸ ha))
   ·rw [q]at c;injection c with c1 c2;exact c1 ▸ hb
  ·exact .bw ((zbq4 c).mpr m) ih
inductive Prim (w:Int→Int→Int):List Int→List Int→List Ed→Prop
 |nil {S:List Int}:Prim w S [] []
 |cons {S U:List Int}{p x:Int}{T:List Ed}:p∈S→x∈U→(∀a∈S,∀b∈U,w p x≤w a b)→Prim w (S++[x]) (U.erase x) T→Prim w S U ((p,x)::T)
theorem zbd7 (sy:∀a b,w a b=w b a) {S U:List Int}{T:List Ed} (h:Prim w S U T):∀F:List Ed,U.Nodup→(∀v∈U,v∉S)→(∀e∈F,0≤w e.1 e.2)→(∀e∈F,(e.1∈S∨e.1∈U)∧(e.2∈S∨e.2∈U))→(∀v∈U,Cn S F v)→wtE w T≤wtE w F:=by
 induction h with
 |nil=>exact fun F _ _ nn _ _=>zba9 nn
 |@cons S U p x T hp hx hm _ ih =>
  intro F nd hd nn en cn
  obtain⟨e,a,b,h1,h2,h3,h4,h5⟩:=cross (cn x hx) (hd x hx)
  have hb:b∈U:=by
   rcases h2 with q | q
   ·have:=(en e h1).2;rw [q]at this;exact this.resolve_left h4
   ·have:=(en e h1).1;rw [q]at this;exact this.resolve_left h4
  have we:w p x≤w e.1 e.2:=by
   rcases h2 with q | q
   ·rw [q];exact hm a h3 b hb
   ·rw [q,sy b a];exact hm a h3 b hb
  have:=ih (F.erase e) (nd.erase x) (fun v hv z=>by
   have hv':=(List.Nodup.mem_erase_iff nd).mp hv
   rcases zbn2.mp z with q | q
   ·exact hd v hv'.2 q
   ·exact hv'.1 (zbn3.mp q)) (fun y hy=>nn y (zbq7 hy)) (fun y hy=>by
   have:=en y (zbq7 hy)
   have mv:∀z:Int,(z∈S∨z∈U)→(z∈S++[x]∨z∈U.erase x):=fun z hz=>by
    rcases hz with q | q
    ·exact .inl (zbm8 _ q)
    ·by_cases c:z=x
     ·exact .inl (zbm6 _ (zbn3.mpr c))
     ·exact .inr ((List.Nodup.mem_erase_iff nd).mpr ⟨c,q⟩)
   exact⟨mv _ this.1,mv _ this.2⟩) (fun v hv=>(cn v (zbq7 hv)).keep h2 h3 h5)
  rw [zv0,zai7 h1]
  show w p x+wtE w T≤_
  lia
noncomputable def pth (w:Int→Int→Int):Int→List Int→Int
 |_,[]=>0
 |a,b::r=>w a b+pth w b r
theorem Cn.more {S:List Int}{F G:List Ed}{v:Int} (h:Cn S F v) (k:∀e∈F,e∈G):Cn S G v:=by
 induction h with
 |base m=>exact .base m
 |fw e _ ih=>exact .fw (k _ e) ih
 |bw e _ ih=>exact .bw (k _ e) ih
end
end KX
namespace KX
section
variable {w:Int→Int→Int}
noncomputable def cyc (w:Int→Int→Int):List Int→Int
 |[]=>0
 |a::r=>pth w a (r++[a])
theorem zag2:∀(r:List Int) (a z:Int),pth w a (r++[z])=pth w a r+w (r.getLastD a) z
 |[],a,z=>by simp [pth]
 |b::r,a,z=>by
  have:=zag2 r b z
  show w a b+pth w b (r++[z])=w a b+pth w b r+w ((b::r).getLastD a) z
  have e:(b::r).getLastD a=r.getLastD b:=by cases r<;>rfl
  rw [this,e];lia
noncomputable def trav (ch:Int→List Int):Nat→List Int→List Int×List Int
 |0,st=>([],st)
 |_+1,[]=>([],[])
 |n+1,q::st=>(q ::(trav ch n (ch q++st)).1,(trav ch n (ch q++st)).2)
theorem zai9 (ch:Int→List Int):∀(n:Nat) (st:List Int),((trav ch n st).1++(trav ch n st).2).Perm (st++(trav ch n st).1.flatMap ch)
 |0,st=>by simp [trav]
 |n+1,[]=>by simp [trav]
 |n+1,q::st=>by
  have ih:=zai9 ch n (ch q++st)
  show (q ::((trav ch n (ch q++st)).1++(trav ch n (ch q++st)).2)).Perm (q ::(st++(ch q++(trav ch n (ch q++st)).1.flatMap ch)))
  refine List.Perm.cons q (ih.trans ?_)
  rw [← zbv9]
  exact List.Perm.append_right _ List.perm_append_comm
theorem zat9 (ch:Int→List Int):∀(n:Nat) (st:List Int),(trav ch n st).2=[]∨(trav ch n st).1.length=n
 |0,st=>.inr rfl
 |n+1,[]=>.inl rfl
 |n+1,q::st=>by
  rcases zat9 ch n (ch q++st) with h | h
  ·exact .inl h
  ·exact .inr (by show ((trav ch n (ch q++st)).1.length+1)=_;rw [h])
inductive Grown:List Int→List Ed→Prop
 |nil {S:List Int}:Grown S []
 |cons {S:List Int}{p x:Int}{T:List Ed}:p∈S→x∉S→Grown (S++[x]) T→Grown S ((p,x)::T)
theorem zaz1 {S U:List Int}{T:List Ed} (h:Prim w S U T):U.Nodup→(∀v∈U,v∉S)→Grown S T∧(T.map (·.2)).Perm U:=by
 induction h with
 |nil=>exact fun _ _=>⟨.nil,List.Perm.refl _⟩
 |@cons S U p x T hp hx _ _ ih =>
  intro nd hd
  obtain⟨g,q⟩:=ih (nd.erase x) (fun v hv z=>by
   have hv':=(List.Nodup.mem_erase_iff nd).mp hv
   rcases zbn2.mp z with q | q
   ·exact hd v hv'.2 q
   ·exact hv'.1 (zbn3.mp q))
  exact⟨.cons hp (hd x hx) g,(List.Perm.cons x q).trans (zcb6 hx).symm⟩
theorem Grown.new {S:List Int}{T:List Ed} (h:Grown S T):(∀e∈T,e.2∉S)∧(T.map (·.2)).Nodup:=by
 induction h with
 |nil=>exact⟨(fun e he=>nomatch he),zbr7⟩
 |@cons S p x T hp hx _ ih =>
  obtain⟨i1,i2⟩:=ih
  refine⟨fun e he=>?_,?_⟩
  ·rcases zbn5.mp he with rfl | he
   ·exact hx
   ·exact fun z=>i1 e he (zbm8 _ z)
  ·rw [zbn7]
   refine zbo9.mpr ⟨fun z=>?_,i2⟩
   obtain⟨e,he,ee⟩:=zbq8.mp z
   exact i1 e he (zbm6 _ (zbn3.mpr ee))
theorem heights {S:List Int}{T:List Ed} (h:Grown S T):∀h0:Int→Int,∃ht:Int→Int,(∀v∈S,ht v=h0 v)∧∀e∈T,ht e.2=ht e.1+w e.1 e.2:=by
 induction h with
 |nil=>exact fun h0=>⟨h0,fun _ _=>rfl,fun e he=>nomatch he⟩
 |@cons S p x T hp hx _ ih =>
  intro h0
  obtain⟨ht,a,b⟩:=ih fun v=>if v=x then h0 p+w p x else h0 v
  refine⟨ht,fun v hv=>?_,fun e he=>?_⟩
  ·rw [a v (zbm8 _ hv),if_neg (fun (z:v=x)=>hx (z ▸ hv))]
  ·rcases zbn5.mp he with rfl | he
   ·show ht x=ht p+w p x
    rw [a x (zbm6 _ (zbn3.mpr rfl)),if_pos rfl,a p (zbm8 _ hp),if_neg (fun (z:p=x)=>hx (z ▸ hp))]
   ·exact b e he
end
end KX
namespace KX
section
variable {w:Int→Int→Int}
structure Hng (T:List Ed) (ch:Int→List Int):Prop where
 p:∀u,(ch u).Perm ((T.filter fun e=>decide (e.1=u)).map (·.2))
theorem Hng.mem {T:List Ed}{ch:Int→List Int} (h:Hng T ch) {u x:Int}:x∈ch u↔(u,x)∈T:=by
 rw [(h.p u).mem_iff,zbq8]
 constructor
 ·rintro ⟨e,he,rfl⟩
  have:=zbw9.mp he
  have e1:e.1=u:=by simpa using this.2
  rw [← e1];exact this.1
 ·intro m
  exact⟨(u,x),zbw9.mpr ⟨m,by simp⟩,rfl⟩
theorem new_uniq {T:List Ed} (nd:(T.map (·.2)).Nodup):∀ {p q x:Int},(p,x)∈T→(q,x)∈T→p=q:=by
 induction T with
 |nil=>intro p q x h;cases h
 |cons e T ih =>
  intro p q x h1 h2
  rw [zbn7]at nd
  obtain⟨n1,n2⟩:=zbo9.mp nd
  rcases zbn5.mp h1 with z1 | z1<;>rcases zbn5.mp h2 with z2 | z2
  ·rw [← z1]at z2;injection z2 with z2 _;exact z2.symm
  ·exact absurd (zbq8.mpr ⟨_,z2,by rw [← z1]⟩) n1
  ·exact absurd (zbq8.mpr ⟨_,z1,by rw [← z2]⟩) n1
  ·exact ih n2 z1 z2
theorem ch_nodup {T:List Ed}{ch:Int→List Int} (h:Hng T ch) (nd:(T.map (·.2)).Nodup) (u:Int):(ch u).Nodup:=by
 rw [(h.p u).nodup_iff]
 exact nd.sublist ((List.filter_sublist).map _)
theorem zau2:∀ {l:List Int}{f:Int→Nat},(∀u∈l,f u=0)→(l.map f).sum=0
 |[],f,_=>rfl
 |a::l,f,h=>by
  rw [zbn7,zbz5,h a (zbn1 ..),zau2 fun u hu=>h u (zbm9 _ hu)]
theorem zbc5 (p:Int):∀ {l:List Int}{f:Int→Nat},f p=1→(∀u,u≠p→f u=0)→(l.map f).sum=l.count p
 |[],f,_,_=>rfl
 |a::l,f,h1,h0=>by
  rw [zbn7,zbz5,zbc5 p h1 h0,zcb1]
  by_cases c:a=p
  ·rw [c,h1];simp;lia
  ·rw [h0 a c];simp [c]
theorem cnt_new {T:List Ed}{ch:Int→List Int} (h:Hng T ch) (nd:(T.map (·.2)).Nodup) {p x:Int} (m:(p,x)∈T) (l:List Int):(l.flatMap ch).count x=l.count p:=by
 rw [zcc5]
 refine zbc5 p ?_ fun u hu=>?_
 ·exact Nat.le_antisymm (zcb7.mp (ch_nodup h nd p) x) (zbv4.mpr (h.mem.mpr m))
 ·exact zby0.mpr fun z=>hu (new_uniq nd (h.mem.mp z) m)
theorem zbj9 {T:List Ed}{ch:Int→List Int} (h:Hng T ch) {x:Int} (m:∀p,(p,x)∉T) (l:List Int):(l.flatMap ch).count x=0:=by
 rw [zcc5]
 exact zau2 fun u _=>zby0.mpr fun z=>m u (h.mem.mp z)
theorem zw5 {P:Int→Prop}{S:List Int}{T:List Ed} (h:Grown S T):(∀v∈S,P v)→(∀e∈T,P e.1→P e.2)→∀e∈T,P e.2:=by
 induction h with
 |nil=>exact fun _ _ e he=>nomatch he
 |@cons S p x T hp hx _ ih =>
  intro h1 h2 e he
  have px:P x:=h2 (p,x) (zbn1 ..) (h1 p hp)
  rcases zbn5.mp he with rfl | he
  ·exact px
  ·refine ih (fun v hv=>?_) (fun e he=>h2 e (zbm9 _ he)) e he
   rcases zbn2.mp hv with z | z
   ·exact h1 v z
   ·rw [zbn3.mp z];exact px
theorem zy6 {T:List Ed}{ch:Int→List Int} (g:Grown [0] T) (h:Hng T ch) {n:Nat} (hn:T.length+2≤n):(trav ch n [0]).2=[]∧(trav ch n [0]).1.Perm (0::T.map (·.2)):=by
 obtain⟨g1,nd⟩:=g.new
 have pm:=zai9 ch n [0]
 have n0:∀p,(p,(0:Int))∉T:=fun p z=>g1 _ z (by simp)
 have c0:((trav ch n [0]).1++(trav ch n [0]).2).count 0=1:=by
  rw [pm.count_eq,zbs9,zbj9 h n0];simp
 have cn:∀ {p x:Int},(p,x)∈T→((trav ch n [0]).1++(trav ch n [0]).2).count x=(trav ch n [0]).1.count p:=fun {p x} m=>by
  have nx:x≠0:=fun z=>n0 p (z ▸ m)
  rw [pm.count_eq,zbs9,cnt_new h nd m]
  simp [zcb1,Ne.symm nx]
 have le1:∀e∈T,(trav ch n [0]).1.count e.2≤1:=zw5 (P:=fun v=>(trav ch n [0]).1.count v≤1) g (fun v hv=>by
  rw [zbn3.mp hv]
  rw [zbs9]at c0;lia) (fun e he hp=>by
  have:=cn (p:=e.1) (x:=e.2) he
  rw [zbs9]at this;lia)
 have zero:∀v,v∉(0::T.map (·.2))→(trav ch n [0]).1.count v=0:=fun v hv=>by
  have q:((trav ch n [0]).1++(trav ch n [0]).2).count v=0:=by
   rw [pm.count_eq,zbs9,zbj9 h (fun p z=>hv (zbm9 _ (zbq8.mpr ⟨_,z,rfl⟩)))]
   have:v≠0:=fun z=>hv (by rw [z];exact zbn1 ..)
   simp [zcb1,Ne.symm this]
  rw [zbs9]at q;lia
 have ndl:(trav ch n [0]).1.Nodup:=zcb7.mpr fun v=>by
  by_cases c:v∈(0::T.map (·.2))
  ·rcases zbn5.mp c with z | z
   ·rw [z];rw [zbs9]at c0;lia
   ·obtain⟨e,he,rfl⟩:=zbq8.mp z
    exact le1 e he
  ·rw [zero v c];lia
 have sub:∀v∈(trav ch n [0]).1,v∈(0::T.map (·.2)):=fun v hv=>Classical.byContradiction fun c=>by
  have:=zero v c
  exact absurd hv (zby0.mp this)
 have len:=zz8 ndl sub
 rw [zbp9,zbo0]at len
 have fin:(trav ch n [0]).2=[]:=by
  rcases zat9 ch n [0] with z | z
  ·exact z
  ·lia
 refine⟨fin,?_⟩
 rw [fin,zbr4]at c0
 have cn':∀ {p x:Int},(p,x)∈T→(trav ch n [0]).1.count x=(trav ch n [0]).1.count p:=fun {p x} m=>by
  have:=cn m
  rw [fin,zbr4]at this;exact this
 have all:∀e∈T,e.2∈(trav ch n [0]).1:=zw5 (P:=fun v=>v∈(trav ch n [0]).1) g (fun v hv=>by
  rw [zbn3.mp hv]
  exact zbv4.mp (by lia)) (fun e he hp=>by
  refine zbv4.mp ?_
  rw [cn' (p:=e.1) (x:=e.2) he]
  exact zbv4.mpr hp)
 refine (List.perm_ext_iff_of_nodup ndl (zbo9.mpr ⟨fun z=>?_,nd⟩)).mpr fun v=>⟨sub v,fun hv=>?_⟩
 ·obtain⟨e,he,ee⟩:=zbq8.mp z
  exact g1 e he (by rw [ee];simp)
 ·rcases zbn5.mp hv with z | z
  ·rw [z];exact zbv4.mp (by lia)
  ·obtain⟨e,he,rfl⟩:=zbq8.mp z
   exact all e he
noncomputable def Lw (w:Int→Int→Int) (ht:Int→Int) (p a:Int):Prop:=w p a≤ht p - ht a
theorem Lw.trans (tr:∀a b c,w a c≤w a b+w b c) {ht:Int→Int}{a b c:Int} (h:Lw w ht a b) (k:Lw w ht b c):Lw w ht a c:=by
 have:=tr a b c
 unfold Lw at *
 lia
inductive Chn (w:Int→Int→Int) (T:List Ed) (ht:Int→Int):Int→List Int→Prop
 |nil {c:Int}:Chn w T ht c []
 |cons {c p q:Int}{st:List Int}:(p,q)∈T→Lw w ht c p→Chn w T ht p st→Chn w T ht c (q::st)
theorem Chn.up (tr:∀a b c,w a c≤w a b+w b c) {T:List Ed}{ht:Int→Int}{c d:Int}{st:List Int} (h:Chn w T ht c st) (k:Lw w ht d c):Chn w T ht d st:=by
 cases h with
 |nil=>exact .nil
 |cons m l r=>exact .cons m (k.trans tr l) r
theorem Chn.kids {T:List Ed}{ht:Int→Int}{q:Int}{st:List Int} (zz:∀a,w a a=0) (h:Chn w T ht q st):∀ {l:List Int},(∀c∈l,(q,c)∈T)→Chn w T ht q (l++st)
 |[],_=>h
 |c::l,k=>.cons (k c (zbn1 ..)) (by unfold Lw;rw [zz];lia) (Chn.kids zz h fun x hx=>k x (zbm9 _ hx))
theorem weights {S:List Int}{T:List Ed} (h:Grown S T):∃wv:Int→Int,∀e∈T,wv e.2=w e.1 e.2:=by
 induction h with
 |nil=>exact⟨fun _=>0,fun e he=>nomatch he⟩
 |@cons S p x T hp hx g ih =>
  obtain⟨wv,b⟩:=ih
  refine⟨fun v=>if v=x then w p x else wv v,fun e he=>?_⟩
  rcases zbn5.mp he with rfl | he
  ·exact if_pos rfl
  ·have:=g.new.1 e he
   show (if e.2=x then _ else _)=_
   rw [if_neg (fun z=>this (zbm6 _ (zbn3.mpr z)))]
   exact b e he
theorem zbb9 (tr:∀a b c,w a c≤w a b+w b c) (sy:∀a b,w a b=w b a) (zz:∀a,w a a=0) {T:List Ed}{ch:Int→List Int} (h:Hng T ch) {ht wv:Int→Int} (hh:∀e∈T,ht e.2=ht e.1+w e.1 e.2) (hw:∀e∈T,wv e.2=w e.1 e.2):∀(n:Nat) (st:List Int) (p:Int),Chn w T ht p st→pth w p (trav ch n st).1+ht ((trav ch n st).1.getLastD p)≤ht p+2*((trav ch n st).1.map wv).sum
 |0,st,p,_=>by simp [trav,pth]
 |n+1,[],p,_=>by simp [trav,pth]
 |n+1,q::st,p,hc=>by
  cases hc with
  |@cons _ pa _ _ m l r =>
   have e1:=hh _ m
   have e2:=hw _ m
   simp only at e1 e2
   have back:Lw w ht q pa:=by unfold Lw;rw [sy];lia
   have ih:=zbb9 tr sy zz h hh hw n (ch q++st) q ((r.up tr back).kids zz fun c hc=>h.mem.mp hc)
   have t:=tr p pa q
   unfold Lw at l
   show w p q+pth w q (trav ch n (ch q++st)).1+ht ((q ::(trav ch n (ch q++st)).1).getLastD p)≤ht p+2*(wv q+((trav ch n (ch q++st)).1.map wv).sum)
   have e3:(q ::(trav ch n (ch q++st)).1).getLastD p=(trav ch n (ch q++st)).1.getLastD q:=by cases (trav ch n (ch q++st)).1<;>rfl
   rw [e3]
   lia
theorem tour_le (tr:∀a b c,w a c≤w a b+w b c) (sy:∀a b,w a b=w b a) (zz:∀a,w a a=0) {T:List Ed}{ch:Int→List Int} (g:Grown [0] T) (h:Hng T ch) {n:Nat} (hn:T.length+2≤n):cyc w (trav ch n [0]).1≤2*wtE w T:=by
 obtain⟨f1,f2⟩:=zy6 g h hn
 obtain⟨ht,h0,hh⟩:=heights (w:=w) g fun _=>0
 obtain⟨wv,hw⟩:=weights (w:=w) g
 obtain⟨m,rfl⟩:∃m,n=m+1:=⟨n - 1,by lia⟩
 have le:=zbb9 tr sy zz h hh hw m (ch 0++[]) 0 (Chn.kids zz .nil fun c hc=>h.mem.mp hc)
 generalize hl:(trav ch m (ch 0++[])).1=l at le
 have f2:(0::l).Perm (0::T.map (·.2)):=by rw [← hl];exact f2
 have f3:l.Perm (T.map (·.2)):=f2.cons_inv
 have root:∀e∈T,Lw w ht e.2 0:=zw5 (P:=fun v=>Lw w ht v 0) g (fun v hv=>by rw [zbn3.mp hv];unfold Lw;rw [zz];lia) (fun e he hp=>by
  have e1:=hh e he
  have:Lw w ht e.2 e.1:=by unfold Lw;rw [sy];lia
  exact this.trans tr hp)
 have rl:Lw w ht (l.getLastD 0) 0:=by
  cases l with
  |nil=>unfold Lw;show w 0 0≤_;rw [zz];simp
  |cons a r =>
   have:(a::r).getLastD 0∈a::r:=by
    rw [zcc6]
    cases r with
    |nil=>simp
    |cons b r=>exact zbm9 _ (by rw [zcc6];cases r<;>simp [List.getLastD,List.getLast?_cons_cons])
   obtain⟨e,he,ee⟩:=zbq8.mp (f3.mem_iff.mp this)
   rw [← ee]
   exact root e he
 have sm:(l.map wv).sum=wtE w T:=by
  have key:∀ {l m:List Int},l.Perm m→l.sum=m.sum:=by
   intro l m p
   induction p with
   |nil=>rfl
   |cons _ _ ih=>simp [ih]
   |swap=>simp;lia
   |trans _ _ a b=>exact a.trans b
  rw [key (f3.map wv),zbu5]
  unfold wtE
  congr 1
  exact zcc0 fun e he=>hw e he
 have z0:ht 0=0:=h0 0 (by simp)
 show cyc w (0 ::(trav ch m (ch 0++[])).1)≤_
 rw [hl]
 show pth w 0 (l++[0])≤_
 rw [zag2]
 unfold Lw at rl
 rw [← sm]
 lia
end
end KX
namespace KX
open PySem.Spec L2 DL
noncomputable def lgF (w:Int→Int→Int) (C:List Int) (k:Nat):Int:=w (C.getD (if k=0 then C.length - 1 else k - 1) 0) (C.getD k 0)
theorem lg_pth (w:Int→Int→Int):∀(r:List Int) (a:Int),((zbp2 r.length).map fun k=>w ((a::r).getD k 0) (r.getD k 0)).sum=pth w a r
 |[],a=>rfl
 |b::r,a=>by
  rw [zbp9,zbv1,zbn7,zbu5,zbz5]
  have:=lg_pth w r b
  show w a b+_=w a b+pth w b r
  rw [← this]
  rfl
theorem lg_sum (w:Int→Int→Int):∀C:List Int,((zbp2 C.length).map (lgF w C)).sum=cyc w C
 |[]=>rfl
 |a::r=>by
  rw [zbp9,zbv1,zbn7,zbu5,zbz5]
  show _=pth w a (r++[a])
  rw [zag2, ← lg_pth w r a]
  have e:(lgF w (a::r) ∘ Nat.succ)=fun k=>w ((a::r).getD k 0) (r.getD k 0):=by
   funext k
   show lgF w (a::r) (k+1)=_
   unfold lgF
   rw [if_neg (by lia)]
   rfl
  rw [e]
  have h0:lgF w (a::r) 0=w (r.getLastD a) a:=by
   unfold lgF
   rw [if_pos rfl]
   have:(a::r).getD ((a::r).length - 1) 0=r.getLastD a:=by
    rw [zbp9,Nat.add_sub_cancel]
    cases r with
    |nil=>rfl
    |cons b q =>
     rw [List.getLastD_eq_getLast?,zbx8]
     simp
   rw [this]
   rfl
  rw [h0]
  lia
noncomputable def wM (n:Nat) (M:List (List Int)) (a b:Int):Int:=(M.getD (a.toNat % n) []).getD (b.toNat % n) 0
theorem zai8 {n:Nat}{M:List (List Int)}{a b:Int} (a0:0≤a) (a1:a<(n:Int)) (b0:0≤b) (b1:b<(n:Int)):wM n M a b=gM M a b:=by
 unfold wM gM
 rw [Nat.mod_eq_of_lt (by lia),Nat.mod_eq_of_lt (by lia)]
noncomputable abbrev tD (w:Int→Int→Int) (e:Ed):D:=.tup [.int (w e.1 e.2),.int e.1,.int e.2]
theorem cmp_tD (w:Int→Int→Int) (e f:Ed):∃b:Bool,cmpD false (tD w e) (tD w f)=some b∧(b=true→w e.1 e.2≤w f.1 f.2)∧(b=false→w f.1 f.2≤w e.1 e.2):=by
 refine⟨lexI false [w e.1 e.2,e.1,e.2] [w f.1 f.2,f.1,f.2],rfl,fun h=>?_,fun h=>?_⟩
 all_goals
  unfold lexI at h
  by_cases z:w e.1 e.2=w f.1 f.2
  ·lia
  ·rw [decide_eq_false z]at h
   simp [cmpI]at h
   lia
theorem zat3 (w:Int→Int→Int):∀(l:List Ed) (e:Ed),∃b:Ed,b∈e::l∧zao7 false (tD w e) (l.map (tD w))=some (tD w b)∧∀f∈e::l,w b.1 b.2≤w f.1 f.2
 |[],e=>⟨e,by simp,rfl,fun f hf=>by simp at hf;subst hf;lia⟩
 |d::l,e=>by
  obtain⟨c,ec,ct,cf⟩:=cmp_tD w d e
  cases c with
  |true =>
   obtain⟨b,m,eb,le⟩:=zat3 w l d
   refine⟨b,zbm9 _ m,?_,fun f hf=>?_⟩
   ·show (cmpD false (tD w d) (tD w e)).bind _=_
    rw [ec];exact eb
   ·rcases zbn5.mp hf with q | q
    ·subst q;have:=le d (by simp);have:=ct rfl;lia
    ·exact le f q
  |false =>
   obtain⟨b,m,eb,le⟩:=zat3 w l e
   refine⟨b,?_,?_,fun f hf=>?_⟩
   ·rcases zbn5.mp m with q | q
    ·exact zbn5.mpr (.inl q)
    ·exact zbm9 _ (zbm9 _ q)
   ·show (cmpD false (tD w d) (tD w e)).bind _=_
    rw [ec];exact eb
   ·have b0:=le e (by simp)
    rcases zbn5.mp hf with q | q
    ·subst q;exact b0
    ·rcases zbn5.mp q with q | q
     ·subst q;have:=cf rfl;lia
     ·exact le f (zbm9 _ q)
theorem extT_of {f:DE}{t:Th}{r:Ev}{w:Int→Int→Int}{l:List Ed} (h:f t=some r) (hr:r.d=.lst (l.map (tD w))) (hl:l≠[]):∃b∈l,(∀f∈l,w b.1 b.2≤w f.1 f.2)∧(dT1 (zbh1 false) (za2 f dNil)) t=some (.cl (tD w b)):=by
 cases l with
 |nil=>exact absurd rfl hl
 |cons e l =>
  obtain⟨b,m,eb,le⟩:=zat3 w l e
  refine⟨b,m,le,?_⟩
  rw [zl9 h]
  unfold zbh1
  simp only [hr,zbn7,eb,zbn0]
  rfl
end KX
namespace KX
section
variable {w:Int→Int→Int}
noncomputable def Bt (e:Ed) (u v:Int):Prop:=e=(u,v)∨e=(v,u)
theorem Bt.symm {e:Ed}{u v:Int} (h:Bt e u v):Bt e v u:=Or.symm h
theorem Bt.wt (sy:∀a b,w a b=w b a) {e:Ed}{u v:Int} (h:Bt e u v):w e.1 e.2=w u v:=by
 rcases h with rfl | rfl
 ·rfl
 ·exact sy ..
theorem Cn.step {S:List Int}{F:List Ed}{e:Ed}{u v:Int} (m:e∈F) (h:Bt e u v) (k:Cn S F u):Cn S F v:=by
 rcases h with rfl | rfl
 ·exact .fw m k
 ·exact .bw m k
noncomputable def mx (m x:Int):Int:=if x > m then x else m
theorem le_mx (m x:Int):m≤mx m x:=by unfold mx;split<;>lia
theorem le_mx' (m x:Int):x≤mx m x:=by unfold mx;split<;>lia
theorem mx_or (m x:Int):mx m x=m∨mx m x=x:=by unfold mx;split<;>simp
inductive Wy (T:List Ed) (w:Int→Int→Int) (s:Int):Int→List Int→List Ed→Int→Prop
 |nil:Wy T w s s [s] [] 0
 |cons {u v:Int}{r:List Int}{es:List Ed}{m:Int}{e:Ed}:Wy T w s u r es m→e∈T→Bt e u v→v∉r→Wy T w s v (v::r) (e::es) (mx m (w u v))
theorem Wy.here {T:List Ed}{s v:Int}{r:List Int}{es:List Ed}{m:Int} (h:Wy T w s v r es m):v∈r:=by
 cases h<;>simp
theorem Wy.nn {T:List Ed}{s v:Int}{r:List Int}{es:List Ed}{m:Int} (h:Wy T w s v r es m):0≤m:=by
 induction h with
 |nil=>exact zbw8 0
 |cons _ _ _ _ ih=>exact zbw7 ih (le_mx ..)
theorem Wy.ends {T:List Ed}{s v:Int}{r:List Int}{es:List Ed}{m:Int} (h:Wy T w s v r es m):∀e∈es,e∈T∧e.1∈r∧e.2∈r:=by
 induction h with
 |nil=>intro e he;cases he
 |@cons u v r es m e h1 he hb _ ih =>
  intro x hx
  rcases zbn5.mp hx with rfl | hx
  ·refine⟨he,?_⟩
   rcases hb with rfl | rfl
   ·exact⟨zbm9 _ h1.here,zbn1 ..⟩
   ·exact⟨zbn1 ..,zbm9 _ h1.here⟩
  ·exact⟨(ih x hx).1,zbm9 _ (ih x hx).2.1,zbm9 _ (ih x hx).2.2⟩
theorem Wy.cn {T G:List Ed}{s v:Int}{r:List Int}{es:List Ed}{m:Int} (h:Wy T w s v r es m) (g:∀e∈es,e∈G):Cn [s] G v:=by
 induction h with
 |nil=>exact .base (zbn3.mpr rfl)
 |cons _ _ hb _ ih=>exact .step (g _ (zbn1 ..)) hb (ih fun e he=>g e (zbm9 _ he))
theorem Wy.le (sy:∀a b,w a b=w b a) {T:List Ed}{s v:Int}{r:List Int}{es:List Ed}{m:Int} (h:Wy T w s v r es m):∀e∈es,w e.1 e.2≤m:=by
 induction h with
 |nil=>intro e he;cases he
 |cons _ _ hb _ ih =>
  intro x hx
  rcases zbn5.mp hx with rfl | hx
  ·rw [hb.wt sy];exact le_mx' ..
  ·exact zbw7 (ih x hx) (le_mx ..)
theorem Wy.cut (sy:∀a b,w a b=w b a) {T:List Ed}{s v:Int}{r:List Int}{es:List Ed}{m:Int} (h:Wy T w s v r es m):m=0∨∃e∈es,∃a b,Bt e a b∧m=w e.1 e.2∧Cn [s] (T.erase e) a∧Cn [b] (T.erase e) v:=by
 induction h with
 |nil=>exact .inl rfl
 |@cons u v r es m e h1 he hb hv ih =>
  rcases mx_or m (w u v) with q | q
  ·rcases ih with z | ⟨e',m',a,b,h3,h4,h5,h6⟩
   ·exact .inl (q.trans z)
   ·refine .inr ⟨e',zbm9 _ m',a,b,h3,q.trans h4,h5,?_⟩
    have ne:e≠e':=fun z=>by
     have:=h1.ends e' m'
     rw [← z]at this
     rcases hb with rfl | rfl
     ·exact hv this.2.2
     ·exact hv this.2.1
    exact .step ((zbq4 ne).mpr he) hb h6
  ·refine .inr ⟨e,zbn1 ..,u,v,hb,q.trans (hb.wt sy).symm,h1.cn fun x hx=>?_,.base (zbn3.mpr rfl)⟩
   have:=h1.ends x hx
   refine (zbq4 fun z=>?_).mpr this.1
   rw [z]at this
   rcases hb with rfl | rfl
   ·exact hv this.2.2
   ·exact hv this.2.1
theorem Cn.via {S S':List Int}{F:List Ed}{v:Int} (h:Cn S F v) (k:∀s∈S,Cn S' F s):Cn S' F v:=by
 induction h with
 |base m=>exact k _ m
 |fw e _ ih=>exact .fw e ih
 |bw e _ ih=>exact .bw e ih
theorem Cn.sym {F:List Ed}{s v:Int} (h:Cn [s] F v):Cn [v] F s:=by
 induction h with
 |base m=>rw [zbn3.mp m];exact .base (zbn3.mpr rfl)
 |@fw u v e _ ih=>exact ih.via fun z hz=>by rw [zbn3.mp hz];exact .bw e (.base (zbn3.mpr rfl))
 |@bw u v e _ ih=>exact ih.via fun z hz=>by rw [zbn3.mp hz];exact .fw e (.base (zbn3.mpr rfl))
theorem Cn.less {S:List Int}{F G:List Ed}{e:Ed}{a b v:Int} (h:Cn S F v) (hb:Bt e a b) (g:∀x∈F,x≠e→x∈G) (k:Cn [a] G b):Cn S G v:=by
 have one:∀ {u v:Int},Bt e u v→Cn S G u→Cn S G v:=by
  intro u v h1 h2
  have:(u=a∧v=b)∨(u=b∧v=a):=by
   rcases hb with rfl | rfl<;>rcases h1 with q | q<;>injection q with q1 q2<;>simp [q1,q2]
  rcases this with ⟨rfl,rfl⟩ | ⟨rfl,rfl⟩
  ·exact k.via fun z hz=>by rw [zbn3.mp hz];exact h2
  ·exact k.sym.via fun z hz=>by rw [zbn3.mp hz];exact h2
 induction h with
 |base m=>exact .base m
 |@fw u v m _ ih =>
  by_cases c:(u,v)=e
  ·exact one (.inl c.symm) ih
  ·exact .fw (g _ m c) ih
 |@bw u v m _ ih =>
  by_cases c:(v,u)=e
  ·exact one (.inr c.symm) ih
  ·exact .bw (g _ m c) ih
theorem prim_way (sy:∀a b,w a b=w b a) (nn:∀a b,0≤w a b) {S U:List Int}{T:List Ed} (h:Prim w S U T) (nd:U.Nodup) (hd:∀v∈U,v∉S) (en:∀e∈T,(e.1∈S∨e.1∈U)∧(e.2∈S∨e.2∈U)) (cn:∀v∈U,Cn S T v)
  {s v:Int} (hs:s∈S∨s∈U) (hv:v∈S∨v∈U) {r:List Int}{es:List Ed}{m:Int} (k:Wy T w s v r es m):m≤w s v:=by
 rcases k.cut sy with z | ⟨e,he,a,b,hb,hm,c1,c2⟩
 ·rw [z];exact nn ..
 ·have eT:=(k.ends e he).1
  have mo:∀x∈T.erase e,x∈(s,v)::T.erase e:=fun x hx=>zbm9 _ hx
  have ab:Cn [a] ((s,v)::T.erase e) b:=by
   have h1:Cn [a] ((s,v)::T.erase e) s:=(c1.more mo).sym
   have h2:Cn [a] ((s,v)::T.erase e) v:=.fw (zbn1 ..) h1
   exact ((c2.more mo).sym).via fun z hz=>by rw [zbn3.mp hz];exact h2
  have:=zbd7 sy h ((s,v)::T.erase e) nd hd (fun _ _=>nn ..) (fun x hx=>by
   rcases zbn5.mp hx with rfl | hx
   ·exact⟨hs,hv⟩
   ·exact en x (zbq7 hx)) (fun x hx=>(cn x hx).less hb (fun y hy ny=>zbm9 _ ((zbq4 ny).mpr hy)) ab)
  rw [zv0,zai7 eT]at this
  show m≤w s v
  have e1:w (s,v).1 (s,v).2=w s v:=rfl
  lia
theorem zaj2 (c:Int):∀U S:List Int,c∈S→Prim (fun _ _=>1) S U (U.map fun x=>(c,x))
 |[],_,_=>.nil
 |x::U,S,h=>by
  refine .cons h (zbn1 ..) (fun _ _ _ _=>zbw8 _) ?_
  rw [List.erase_cons_head]
  exact zaj2 c U _ (zbm8 _ h)
theorem zba8:∀F:List Ed,wtE (fun _ _=>1) F=(F.length:Int)
 |[]=>rfl
 |e::F=>by rw [zv0,zba8 F,zbp9];lia
theorem zbh4 {S U:List Int} (nd:U.Nodup) (hd:∀v∈U,v∉S) (ne:S≠[]) {F:List Ed} (en:∀e∈F,(e.1∈S∨e.1∈U)∧(e.2∈S∨e.2∈U)) (cn:∀v∈U,Cn S F v):U.length≤F.length:=by
 obtain⟨c,hc⟩:=List.exists_mem_of_ne_nil S ne
 have:=zbd7 (fun _ _=>rfl) (zaj2 c U S hc) F nd hd (fun _ _=>by decide) en cn
 rw [zba8,zba8,zbo0]at this
 lia
theorem zbb5 (sy:∀a b,w a b=w b a) {S U:List Int}{T:List Ed} (nd:U.Nodup) (hd:∀v∈U,v∉S) (ne:S≠[]) (hl:T.length=U.length) (en:∀e∈T,(e.1∈S∨e.1∈U)∧(e.2∈S∨e.2∈U)) (cn:∀v∈U,Cn S T v)
  {s v:Int}{r r':List Int}{es es':List Ed}{m m':Int} (h:Wy T w s v r es m) (k:Wy T w s v r' es' m'):m≤m':=by
 rcases h.cut sy with z | ⟨e,he,a,b,hb,hm,c1,c2⟩
 ·rw [z];exact k.nn
 ·by_cases c:e∈es'
  ·rw [hm];exact k.le sy e c
  ·have eT:=(h.ends e he).1
   have sv:Cn [s] (T.erase e) v:=k.cn fun x hx=>(zbq4 fun (z:x=e)=>c (z ▸ hx)).mpr (k.ends x hx).1
   have ab:Cn [a] (T.erase e) b:=by
    have h1:Cn [a] (T.erase e) s:=c1.sym
    have h2:Cn [a] (T.erase e) v:=sv.via fun z hz=>by rw [zbn3.mp hz];exact h1
    exact c2.sym.via fun z hz=>by rw [zbn3.mp hz];exact h2
   have:=zbh4 (S:=S) (U:=U) (F:=T.erase e) nd hd ne (fun x hx=>en x (zbq7 hx)) (fun x hx=>(cn x hx).less hb (fun y hy ny=>(zbq4 ny).mpr hy) ab)
   have:=zbs3 eT
   have:=zbt3 eT
   lia
end
end KX
namespace KX
open PySem.Spec L2 DL
noncomputable def upR (f:Int→List Int) (a b:Int):Int→List Int:=fun u=>if u=a then f u++[b] else f u
noncomputable def rwM (n:Nat) (f:Int→List Int):List (List Int):=(zbp2 n).map fun (p:Nat)=>f (p:Int)
theorem zaf9 (n:Nat) (f:Int→List Int):(rwM n f).length=n:=by simp [rwM]
theorem zaa2 {n:Nat}{f:Int→List Int}{q:Nat} (h:q<n):(rwM n f)[q]?=some (f (q:Int)):=by simp [rwM,h]
theorem rwM_getD {n:Nat}{f:Int→List Int}{q:Int} (h0:0≤q) (h1:q<(n:Int)):(rwM n f).getD q.toNat []=f q:=by
 rw [zbo1,zaa2 (by lia),zbu0,zbq6 h0]
theorem rwM_up {n:Nat} (f:Int→List Int) (a b:Int) (h0:0≤a) (h1:a<(n:Int)):((rwM n f).map rwD).set a.toNat (.lst ((f a).map D.int++[.int b]))=(rwM n (upR f a b)).map rwD:=by
 apply zcd3
 intro p
 by_cases hp:p<n
 ·rw [zcd4,zbp7,zbp7,zaa2 hp,zaa2 hp]
  by_cases z:a.toNat=p
  ·rw [if_pos z,if_pos (by rw [zbo0,zaf9];lia)]
   have:(p:Int)=a:=by lia
   simp [upR,this,rwD]
  ·rw [if_neg z]
   have : ¬ (p:Int)=a:=by lia
   simp [upR,this]
 ·rw [zbt7 (by rw [zbx0,zbo0,zaf9];lia),zbt7 (by rw [zbo0,zaf9];lia)]
noncomputable def nbS (f:Int→List Int) (e:Ed):Int→List Int:=upR (upR f e.1 e.2) e.2 e.1
noncomputable def nbF (T:List Ed):Int→List Int:=T.foldl nbS fun _=>[]
theorem mem_up {f:Int→List Int}{a b u v:Int}:v∈upR f a b u↔v∈f u∨(u=a∧v=b):=by
 unfold upR
 by_cases c:u=a<;>simp [c]
theorem mem_nbS {f:Int→List Int}{e:Ed}{u v:Int}:v∈nbS f e u↔v∈f u∨Bt e u v:=by
 unfold nbS Bt
 rw [mem_up,mem_up]
 obtain⟨a,b⟩:=e
 constructor
 ·rintro ((h | ⟨rfl,rfl⟩) | ⟨rfl,rfl⟩)
  ·exact .inl h
  ·exact .inr (.inl rfl)
  ·exact .inr (.inr rfl)
 ·rintro (h | h | h)
  ·exact .inl (.inl h)
  ·injection h with h1 h2;exact .inl (.inr ⟨h1.symm,h2.symm⟩)
  ·injection h with h1 h2;exact .inr ⟨h2.symm,h1.symm⟩
theorem zbf5 (u v:Int):∀(T:List Ed) (f:Int→List Int),v∈T.foldl nbS f u↔v∈f u∨∃e∈T,Bt e u v
 |[],f=>by simp
 |e::T,f=>by
  rw [zca6,zbf5 u v T,mem_nbS]
  constructor
  ·rintro ((h | h) | ⟨e',h1,h2⟩)
   ·exact .inl h
   ·exact .inr ⟨e,zbn1 ..,h⟩
   ·exact .inr ⟨e',zbm9 _ h1,h2⟩
  ·rintro (h | ⟨e',h1,h2⟩)
   ·exact .inl (.inl h)
   ·rcases zbn5.mp h1 with rfl | h1
    ·exact .inl (.inr h2)
    ·exact .inr ⟨e',h1,h2⟩
theorem mem_nb {T:List Ed}{u v:Int}:v∈nbF T u↔∃e∈T,Bt e u v:=by
 unfold nbF
 rw [zbf5]
 simp
theorem zbb7 (f:Int→List Int) (a b u:Int):(upR f a b u).length≤(f u).length+1:=by
 unfold upR
 split<;>simp
noncomputable def InN (n:Nat) (x:Int):Prop:=0≤x∧x<(n:Int)
structure Dfs (n:Nat) (T:List Ed) (w:Int→Int→Int) (s:Int) (P:List Int) (V:Int→Int) (W X:List Int):Prop where
 nd:P.Nodup
 rg:∀x∈P,InN n x
 st:s∈P
 wp:∀x∈W,x∈P
 wy:∀v∈P,∃r es,Wy T w s v r es (V v)∧∀x∈r,x∈P
 cl:∀v∈P,v∈W∨v∈X∨∀x,(∃e∈T,Bt e v x)→x∈P
theorem Dfs.one {n:Nat}{T:List Ed}{w:Int→Int→Int}{s:Int} (h:InN n s):Dfs n T w s [s] (fun _=>0) [s] [] where
 nd:=(by simp)
 rg:=fun x hx=>by rw [zbn3.mp hx];exact h
 st:=zbn3.mpr rfl
 wp:=fun x hx=>hx
 wy:=fun v hv=>by
  rw [zbn3.mp hv]
  exact⟨[s],[],.nil,fun x hx=>hx⟩
 cl:=fun v hv=>.inl hv
theorem Dfs.pop {n:Nat}{T:List Ed}{w:Int→Int→Int}{s q:Int}{P W:List Int}{V:Int→Int} (h:Dfs n T w s P V (W++[q]) []):Dfs n T w s P V W [q] where
 nd:=h.nd
 rg:=h.rg
 st:=h.st
 wp:=fun x hx=>h.wp x (zbm8 _ hx)
 wy:=h.wy
 cl:=fun v hv=>by
  rcases h.cl v hv with z | z | z
  ·rcases zbn2.mp z with z | z
   ·exact .inl z
   ·exact .inr (.inl z)
  ·cases z
  ·exact .inr (.inr z)
theorem Dfs.done {n:Nat}{T:List Ed}{w:Int→Int→Int}{s q:Int}{P W:List Int}{V:Int→Int} (h:Dfs n T w s P V W [q]) (k:∀x,(∃e∈T,Bt e q x)→x∈P):Dfs n T w s P V W [] where
 nd:=h.nd
 rg:=h.rg
 st:=h.st
 wp:=h.wp
 wy:=h.wy
 cl:=fun v hv=>by
  rcases h.cl v hv with z | z | z
  ·exact .inl z
  ·rw [zbn3.mp z];exact .inr (.inr k)
  ·exact .inr (.inr z)
theorem Dfs.add {n:Nat}{T:List Ed}{w:Int→Int→Int}{s q x:Int}{P W X:List Int}{V:Int→Int}{e:Ed} (h:Dfs n T w s P V W X) (hq:q∈P) (hx:x∉P) (rx:InN n x) (he:e∈T) (hb:Bt e q x):Dfs n T w s (P++[x]) (upV V x (mx (V q) (w q x))) (W++[x]) X where
 nd:=by
  refine zbo5.mpr ⟨h.nd,(by simp),fun a ha b hb z=>?_⟩
  rw [zbn3.mp hb]at z
  exact hx (z ▸ ha)
 rg:=fun y hy=>by
  rcases zbn2.mp hy with z | z
  ·exact h.rg y z
  ·rw [zbn3.mp z];exact rx
 st:=zbm8 _ h.st
 wp:=fun y hy=>by
  rcases zbn2.mp hy with z | z
  ·exact zbm8 _ (h.wp y z)
  ·exact zbm6 _ z
 wy:=fun v hv=>by
  by_cases c:v=x
  ·subst c
   obtain⟨r,es,wy,sub⟩:=h.wy q hq
   refine⟨v::r,e::es,?_,fun y hy=>?_⟩
   ·have:upV V v (mx (V q) (w q v)) v=mx (V q) (w q v):=by simp [upV]
    rw [this]
    exact .cons wy he hb fun z=>hx (sub v z)
   ·rcases zbn5.mp hy with rfl | z
    ·exact zbm6 _ (zbn3.mpr rfl)
    ·exact zbm8 _ (sub y z)
  ·have hv':v∈P:=by
    rcases zbn2.mp hv with z | z
    ·exact z
    ·exact absurd (zbn3.mp z) c
   obtain⟨r,es,wy,sub⟩:=h.wy v hv'
   refine⟨r,es,?_,fun y hy=>zbm8 _ (sub y hy)⟩
   have:upV V x (mx (V q) (w q x)) v=V v:=by simp [upV,c]
   rw [this];exact wy
 cl:=fun v hv=>by
  rcases zbn2.mp hv with z | z
  ·rcases h.cl v z with y | y | y
   ·exact .inl (zbm8 _ y)
   ·exact .inr (.inl y)
   ·exact .inr (.inr fun x' hx'=>zbm8 _ (y x' hx'))
  ·exact .inl (zbm6 _ z)
theorem Dfs.all {n:Nat}{T:List Ed}{w:Int→Int→Int}{s:Int}{P:List Int}{V:Int→Int} (h:Dfs n T w s P V [] []) {v:Int} (c:Cn [s] T v):v∈P:=by
 induction c with
 |base m=>rw [zbn3.mp m];exact h.st
 |@fw u v e _ ih =>
  rcases h.cl u ih with z | z | z
  ·cases z
  ·cases z
  ·exact z v ⟨(u,v),e,.inl rfl⟩
 |@bw u v e _ ih =>
  rcases h.cl u ih with z | z | z
  ·cases z
  ·cases z
  ·exact z v ⟨(v,u),e,.inr rfl⟩
theorem Dfs.len {n:Nat}{T:List Ed}{w:Int→Int→Int}{s:Int}{P W X:List Int}{V:Int→Int} (h:Dfs n T w s P V W X):P.length≤n:=by
 have:=zz8 h.nd (C:=zb9 n) fun x hx=>zn2 (h.rg x hx).1 (h.rg x hx).2
 rwa [ze2]at this
theorem Dfs.full {n:Nat}{T:List Ed}{w:Int→Int→Int}{s:Int}{P:List Int}{V:Int→Int} (h:Dfs n T w s P V [] []):P.length=n↔∀v,InN n v→Cn [s] T v:=by
 constructor
 ·intro e v hv
  have hp:v∈P:=by
   by_cases c:v∈P
   ·exact c
   ·have nd:(v::P).Nodup:=zbo9.mpr ⟨c,h.nd⟩
    have:=zz8 nd (C:=zb9 n) fun x hx=>by
     rcases zbn5.mp hx with rfl | hx
     ·exact zn2 hv.1 hv.2
     ·exact zn2 (h.rg x hx).1 (h.rg x hx).2
    rw [ze2,zbp9]at this
    lia
  obtain⟨r,es,wy,_⟩:=h.wy v hp
  exact wy.cn fun e he=>(wy.ends e he).1
 ·intro c
  have h1:=h.len
  have:=zz8 (nats_nd n) (C:=P) fun x hx=>h.all (c x (zg5 hx))
  rw [ze2]at this
  lia
structure TreeOk (n:Nat) (w:Int→Int→Int) (T:List Ed):Prop where
 len:T.length+1=n
 ends:∀e∈T,e.1≠e.2∧InN n e.1∧InN n e.2
 cn:∀v,InN n v→Cn [0] T v
 wy:∀s v,InN n s→InN n v→∀r es m,Wy T w s v r es m→m≤w s v
theorem zaw9 (n:Nat):∀xs ys:List Int,eqOk (n+1) (.lst (xs.map D.int)) (.lst (ys.map D.int))=true
 |[],ys=>by cases ys<;>rfl
 |x::xs,[]=>rfl
 |x::xs,y::ys=>by
  have h:=zaw9 n xs ys
  simp only [eqOk]at h ⊢
  simp only [zbn7,zbs5,zbq5,h,zbv0]
  cases n<;>rfl
theorem zbf7:∀ {xs ys:List Int},xs.map D.int=ys.map D.int→xs=ys
 |[],[],_=>rfl
 |[],_::_,h=>by cases h
 |_::_,[],h=>by cases h
 |x::xs,y::ys,h=>by
  simp only [zbn7,List.cons.injEq,D.int.injEq]at h
  rw [h.1,zbf7 h.2]
theorem eqD_ints (xs ys:List Int):eqD (.lst (xs.map D.int)) (.lst (ys.map D.int))=decide (xs=ys):=by
 by_cases h:xs=ys
 ·subst h;rw [zah4,decide_eq_true rfl]
 ·rw [decide_eq_false h]
  exact eqD_false.mpr fun z=>h (zbf7 (by injection z))
theorem nel_of {fa fb:DE}{t:Th}{r1 r2:Ev} (xs ys:List Int) (ha:fa t=some r1) (hb:fb t=some r2) (h1:r1.d=.lst (xs.map D.int)) (h2:r2.d=.lst (ys.map D.int)):dBo (d2 kNe fa fb) t=some (!decide (xs=ys)):=by
 unfold dBo
 rw [zh5 ha hb]
 unfold kNe
 rw [h1,h2,if_pos (zaw9 5 xs ys),eqD_ints]
 rfl
theorem nev_of {fa fb:DE}{t:Th}{a b:Int} (h1:fa t=some (.cl (.int a))) (h2:fb t=some (.cl (.int b))):(d2 kNe fa fb) t=some (.cl (.bl (!decide (a=b)))):=by
 rw [zh5 h1 h2]
 have:kNe (.cl (.int a)) (.cl (.int b))=some (.cl (.bl (!eqD (.int a) (.int b)))):=rfl
 rw [this,zah5]
theorem natsI_lt (n:Nat):(zb9 n).Pairwise (· < ·):=by
 unfold zb9
 rw [zby9]
 exact (List.pairwise_lt_range (n:=n)).imp fun {a b} h=>by lia
theorem zbc8 {xs:List Int}{n:Nat} (p:xs.Perm (zb9 n)):zg7 xs=zb9 n :=
 zp2 ((zf0 xs).trans p) (zl1 xs) ((natsI_lt n).imp Int.le_of_lt)
theorem sort_iff {xs:List Int}{n:Nat}:zg7 xs=zb9 n↔xs.Perm (zb9 n):=⟨fun h=>h ▸ (zf0 xs).symm,zbc8⟩
end KX
set_option maxHeartbeats 4000000
namespace KX
open PySem.Spec L2 DL
noncomputable def top (i:Nat):Stmt:=PySem.Challenge.pw_nearenough_k20_looker_of_tours.main.body.getD i (.Pass ⟨0,0,0,0⟩)
noncomputable abbrev zm9:Stmt:=top 1
noncomputable abbrev zp5:Stmt:=top 3
noncomputable abbrev zn0:Stmt:=top 4
noncomputable abbrev zp3:Stmt:=top 5
noncomputable abbrev zj6:Stmt:=top 6
noncomputable abbrev zq1:Stmt:=top 7
noncomputable abbrev zi5:Stmt:=top 8
noncomputable abbrev zg4:Stmt:=top 9
noncomputable abbrev zp4:Stmt:=top 10
noncomputable abbrev zs6:Stmt:=top 12
noncomputable abbrev zp9:Stmt:=top 13
noncomputable abbrev zv5:Stmt:=top 14
noncomputable abbrev zp6:Stmt:=top 15
noncomputable abbrev zg3:Stmt:=top 16
noncomputable abbrev zs4:Stmt:=top 17
noncomputable abbrev zs5:Stmt:=top 18
noncomputable abbrev zp8:Stmt:=top 19
noncomputable abbrev zv6:Stmt:=top 20
noncomputable abbrev zp7:Stmt:=top 21
noncomputable abbrev zj7:Stmt:=top 22
noncomputable abbrev zq0:Stmt:=top 23
noncomputable abbrev s_law:Stmt:=top 24
structure Blt (mg:Str→Option Value):Prop where
 n_abs:mg "abs"=none
 n_all:mg "all"=none
 n_any:mg "any"=none
 n_bool:mg "bool"=none
 n_int:mg "int"=none
 n_isinstance:mg "isinstance"=none
 n_len:mg "len"=none
 n_list:mg "list"=none
 n_max:mg "max"=none
 n_min:mg "min"=none
 n_range:mg "range"=none
 n_reversed:mg "reversed"=none
 n_sorted:mg "sorted"=none
 n_sum:mg "sum"=none
variable {P:Program}{w:World}{K:zbm7}{mg:Str→Option Value}{base:BHeap}{ad:Addr}{fd:FuncData}
theorem zaf7:FnScope ["web", "many", "ties", "beside", "one", "other"] ["web"] (zc4 zm9):=zm6 rfl rfl rfl rfl (by decide +kernel)
noncomputable def bdN:DS:=(dSeq (zx5 3 [(dVar 4)] (dVar 5))
  (zx5 3 [(dVar 5)] (dVar 4)))
noncomputable def zr8:DS :=
 (dSeq (zad6 (zh2 2 (zc0 (za3 1) (zc0 (za3 2) zh3))) (dVar 0)) (dSeq (dAsg 3 (zg1 1 [] (fsR1 (dVar 1)) (za3 0) zc3 (dT1 kLst dNil))) (dSeq (dFor (zh2 2 (zc0 (za3 4) (zc0 (za3 5) zh3))) (dVar 2) bdN) (zad5 3))))
noncomputable def zk3:List D→Option Ev:=mkG 1 ["web", "many", "ties", "beside", "one", "other"] zr8
theorem zag4 (Fn:L2.Fun K "neighbours" "neighbours" zm9 ad fd) (bu:Blt mg) :FnOk P w K mg base CX0 1 ad fd ["web"] (spD K zk3):=by
 have SC:=zaf7
 refine zh9 (k:=0) Fn SC (fun _ _ e=>zf3 e) zr8 (fun _ _ e=>zh8 e) (fun cdv A outer s H E F hr=>?_)
 refine za4 ?_ ?_
 ·exact (zaq0 (za0 0) (zv9 rfl (ze5 (zb3 (i:=1) SC.nd rfl (za8 rfl)) (ze5 (zb3 (i:=2) SC.nd rfl (za8 rfl)) zo2))) (zx8 (zf1 (zb4 1) (zf1 (zb4 2) zp1))))
 refine za4 ?_ ?_
 ·exact (zo6 (i:=3) 1 [] ["point"] SC.nd rfl (Or.inl rfl) rfl (zh7 rfl bu.n_range (za0 1)) (fun _ _ _ _ _=>(zb3 (i:=0) (show List.Nodup (["point"]:List Str) by decide +kernel) rfl (za8 rfl))) (fun _=>(zb4 0)) (fun _ _ _ _ _ _=>zd4) (fun _ _ _ _ _ _=>(zd8 za5)))
 refine za4 ?_ ?_
 ·exact (zr1 PassesOwn.never rfl (za0 2) (zv9 rfl (ze5 (zb3 (i:=4) SC.nd rfl (za8 rfl)) (ze5 (zb3 (i:=5) SC.nd rfl (za8 rfl)) zo2))) (zx8 (zf1 (zb4 4) (zf1 (zb4 5) zp1))) (za4 (zs7 3 (zaa8 (zr3 3) (za0 4)) (za0 5))
  (zb0 (zs7 3 (zaa8 (zr3 3) (za0 5)) (za0 4)))))
 exact zb0 (zn1 3)
theorem zaj6:FnScope ["roads", "tour"] ["roads", "tour"] (zc4 zp5):=zm6 rfl rfl rfl rfl (by decide +kernel)
noncomputable def feLg:DE:=(d2 kIx (d2 kIx (dVar 1) (d2 kIx (dVar 2) (d2 qS (dVar 0) (dC (.int 1))))) (d2 kIx (dVar 2) (dVar 0)))
noncomputable def zab8:DS :=
 (dRet (dT1 kSum (za2 (zf8 1 [0,1] (fsR1 (dT1 kLen (za2 (dVar 1) dNil))) (za3 0) zc3 feLg) dNil)))
noncomputable def zm3:List D→Option Ev:=mkG 2 ["roads", "tour"] zab8
theorem zal2 (Fn:L2.Fun K "length_of" "length_of" zp5 ad fd) (bu:Blt mg) :FnOk P w K mg base CX0 1 ad fd ["roads", "tour"] (spD K zm3):=by
 have SC:=zaj6
 refine zh9 (k:=0) Fn SC (fun _ _ e=>zf3 e) zab8 (fun _ _ e=>zh8 e) (fun cdv A outer s H E F hr=>?_)
 exact zb0 (ze1 (zb7 (zax7 rfl) rfl bu.n_sum (by decide +kernel) (za1 (zi2 1 [0,1] ["at", "roads", "tour"] rfl (zh7 rfl bu.n_range (zb7 zk2 rfl bu.n_len PySem.boot_len (za1 (za0 1) za5))) (fun _ _ _ _ _=>(zb3 (i:=0) (show List.Nodup (["at", "roads", "tour"]:List Str) by decide +kernel) rfl (za8 rfl))) (fun _=>(zb4 0)) (fun _ _ _ _ _ _=>zd4) (fun _ _ _ _ _ _=>(zc6 (zc6 (za0 1) (zc6 (za0 2) (za9 zj9 (za0 0) za6))) (zc6 (za0 2) (za0 0))))) za5)))
theorem zaf8:FnScope ["roads", "inside", "outside", "tree", "shortest", "place", "new"] ["roads"] (zc4 zn0):=zm6 rfl rfl rfl rfl (by decide +kernel)
noncomputable def feG:DE:=(dT1 kTup (za2 (d2 kIx (d2 kIx (dVar 3) (dVar 0)) (dVar 1)) (za2 (dVar 0) (za2 (dVar 1) dNil))))
noncomputable def bdG:DS:=(dSeq (dAsg 4 (dT1 (zbh1 false) (za2 (zaf0 2 [2,0] (fsL (dVar 1)) (za3 0) zc3 (fsL (dVar 2)) (za3 1) zc3 feG) dNil)))
  (dSeq (dPar 5 6 (za2 (d2 kIx (dVar 4) (dC (.int 1))) (za2 (d2 kIx (dVar 4) (dC (.int 2))) dNil)))
  (dSeq (dApp 3 (dT1 kTup (za2 (dVar 5) (za2 (dVar 6) dNil))))
  (dSeq (dApp 1 (dVar 6))
  (dRem 2 (dVar 6))))))
noncomputable def zr9:DS :=
 (dSeq (dAsg 1 (dT1 kLst (za2 (dC (.int 0)) dNil))) (dSeq (dAsg 2 (zn5 (za2 (dC (.int 1)) (za2 (dT1 kLen (za2 (dVar 0) dNil)) dNil)))) (dSeq (dAsg 3 (dT1 kLst dNil)) (dSeq (zs0 (fun _=>60) (dTr (dVar 2)) bdG) (zad5 3)))))
noncomputable def zn7:List D→Option Ev:=mkG 1 ["roads", "inside", "outside", "tree", "shortest", "place", "new"] zr9
theorem zag5 (Fn:L2.Fun K "grown_tree" "grown_tree" zn0 ad fd) (bu:Blt mg) :FnOk P w K mg base CX0 1 ad fd ["roads"] (spD K zn7):=by
 have SC:=zaf8
 refine zh9 (k:=0) Fn SC (fun _ _ e=>zf3 e) zr9 (fun _ _ e=>zh8 e) (fun cdv A outer s H E F hr=>?_)
 refine za4 ?_ ?_
 ·exact (zb1 (i:=1) SC.nd rfl (za8 rfl) (zd8 (za1 za6 za5)))
 refine za4 ?_ ?_
 ·exact (zb1 (i:=2) SC.nd rfl (za8 rfl) (zj8 rfl rfl bu.n_list rfl bu.n_range (za1 za6 (za1 (zb7 zk2 rfl bu.n_len PySem.boot_len (za1 (za0 0) za5)) za5))))
 refine za4 ?_ ?_
 ·exact (zb1 (i:=3) SC.nd rfl (za8 rfl) (zd8 za5))
 refine za4 ?_ ?_
 ·exact (zr0 (fun _=>60) PassesOwn.never (zo0 (za0 2)) (za4 (zb1 (i:=4) SC.nd rfl (za8 rfl) (zb7 (cd_minT rfl hr.units) rfl bu.n_min (by decide +kernel) (za1 (zaz3 2 [2,0] ["place", "new", "outside", "roads"] rfl (zl2 (za0 1)) (fun _ _ _ _ _=>(zb3 (i:=0) (show List.Nodup (["place", "new", "outside", "roads"]:List Str) by decide +kernel) rfl (za8 rfl))) (fun _=>(zb4 0)) (fun _ _ _ _ _ _=>zd4) (fun _ _ _ _ _ _=>(zl2 (za0 2))) (fun _ _ _ _ _=>(zb3 (i:=1) (show List.Nodup (["place", "new", "outside", "roads"]:List Str) by decide +kernel) rfl (za8 rfl))) (fun _=>(zb4 1)) (fun _ _ _ _ _ _=>zd4) (fun _ _ _ _ _ _=>(zf5 (za1 (zc6 (zc6 (za0 3) (za0 0)) (za0 1)) (za1 (za0 0) (za1 (za0 1) za5)))))) za5)))
  (za4 (psd_par (i:=5) (j:=6) rfl SC.nd rfl rfl (by decide) rfl rfl (za1 (zc6 (za0 4) za6) (za1 (zc6 (za0 4) za6) za5)) rfl)
  (za4 (zr2 3 (zf5 (za1 (za0 5) (za1 (za0 6) za5))))
  (za4 (zr2 1 (za0 6))
  (zb0 (psd_rem 2 (za0 6))))))))
 exact zb0 (zn1 3)
theorem zaj4:FnScope ["many", "tree", "hung", "place", "new", "tour", "waiting"] ["many", "tree"] (zc4 zp3):=zm6 rfl rfl rfl rfl (by decide +kernel)
noncomputable def bdD:DS:=(dSeq (dPop 3 6)
  (dSeq (dApp 5 (dVar 3))
  (dExt 6 (dT1 zae3 (za2 (d2 kIx (dVar 2) (dVar 3)) dNil)))))
noncomputable def zu1:DS :=
 (dSeq (dAsg 2 (zg1 1 [] (fsR1 (dVar 0)) (za3 0) zc3 (dT1 kLst dNil))) (dSeq (dFor (zh2 2 (zc0 (za3 3) (zc0 (za3 4) zh3))) (dVar 1) (zx5 2 [(dVar 3)] (dVar 4))) (dSeq (dAsg 5 (dT1 kLst dNil)) (dSeq (dAsg 6 (dT1 kLst (za2 (dC (.int 0)) dNil))) (dSeq (zs0 (fun _=>60) (dTr (dVar 6)) bdD) (zad5 5))))))
noncomputable def zj4:List D→Option Ev:=mkG 2 ["many", "tree", "hung", "place", "new", "tour", "waiting"] zu1
theorem zal0 (Fn:L2.Fun K "tour_down" "tour_down" zp3 ad fd) (bu:Blt mg) :FnOk P w K mg base CX0 1 ad fd ["many", "tree"] (spD K zj4):=by
 have SC:=zaj4
 refine zh9 (k:=0) Fn SC (fun _ _ e=>zf3 e) zu1 (fun _ _ e=>zh8 e) (fun cdv A outer s H E F hr=>?_)
 refine za4 ?_ ?_
 ·exact (zo6 (i:=2) 1 [] ["place"] SC.nd rfl (Or.inl rfl) rfl (zh7 rfl bu.n_range (za0 0)) (fun _ _ _ _ _=>(zb3 (i:=0) (show List.Nodup (["place"]:List Str) by decide +kernel) rfl (za8 rfl))) (fun _=>(zb4 0)) (fun _ _ _ _ _ _=>zd4) (fun _ _ _ _ _ _=>(zd8 za5)))
 refine za4 ?_ ?_
 ·exact (zr1 PassesOwn.never rfl (za0 1) (zv9 rfl (ze5 (zb3 (i:=3) SC.nd rfl (za8 rfl)) (ze5 (zb3 (i:=4) SC.nd rfl (za8 rfl)) zo2))) (zx8 (zf1 (zb4 3) (zf1 (zb4 4) zp1))) (zb0 (zs7 2 (zaa8 (zr3 2) (za0 3)) (za0 4))))
 refine za4 ?_ ?_
 ·exact (zb1 (i:=5) SC.nd rfl (za8 rfl) (zd8 za5))
 refine za4 ?_ ?_
 ·exact (zb1 (i:=6) SC.nd rfl (za8 rfl) (zd8 (za1 za6 za5)))
 refine za4 ?_ ?_
 ·exact (zr0 (fun _=>60) PassesOwn.never (zo0 (za0 6)) (za4 (zap9 (i:=3) 6 SC.nd rfl (za8 rfl))
  (za4 (zr2 5 (za0 3))
  (zb0 (psd_ext 6 (zaq1 rfl bu.n_sorted (zc6 (za0 2) (za0 3))))))))
 exact zb0 (zn1 5)
theorem zaa0:FnScope ["roads", "tree"] ["roads"] (zc4 zj6):=zm6 rfl rfl rfl rfl (by decide +kernel)
noncomputable def zo3:DS :=
 (dSeq (dAsg 1 (dT1 (zb8 zn7) (za2 (dVar 0) dNil))) (zbj2 (mTup (zar3 (mOf (dT1 (zb8 zj4) (za2 (dT1 kLen (za2 (dVar 0) dNil)) (za2 (dVar 1) dNil)))) (zar3 (mOwn 1) mNil)))))
noncomputable def zd0:List D→Option Ev:=mkG 1 ["roads", "tree"] zo3
theorem zab1 (Fn:L2.Fun K "tour_by_tree" "tour_by_tree" zj6 ad fd) (bu:Blt mg) (c_grown_tree:Cal P w K mg base "grown_tree" 1 zn7) (c_tour_down:Cal P w K mg base "tour_down" 1 zj4):FnOk P w K mg base CX0 2 ad fd ["roads"] (spD K zd0):=by
 have SC:=zaa0
 refine zh9 (k:=1) Fn SC (fun _ _ e=>zf3 e) zo3 (fun _ _ e=>zh8 e) (fun cdv A outer s H E F hr=>?_)
 refine za4 ?_ ?_
 ·exact (zb1 (i:=1) SC.nd rfl (za8 rfl) (zb2 c_grown_tree (hr.mono (by decide)) (za1 (za0 0) za5)))
 exact zb0 (psd_retM (pm_tup (zav5 (fun _=>(pm_of (zb2 c_tour_down (hr.mono (by decide)) (za1 (zb7 zk2 rfl bu.n_len PySem.boot_len (za1 (za0 0) za5)) (za1 (za0 1) za5))))) (fun _=>(zav5 (fun _=>(pm_own 1)) (fun _=>pms_nil))))))
theorem zak2:FnScope ["pair", "many"] ["pair", "many"] (zc4 zq1):=zm6 rfl rfl rfl rfl (by decide +kernel)
noncomputable def zu7:DS :=
 (dRet (zas5 (d2 kEq (dT1 kLen (za2 (dVar 0) dNil)) (dC (.int 2))) (zas5 (d2 kNe (d2 kIx (dVar 0) (dC (.int 0))) (d2 kIx (dVar 0) (dC (.int 1)))) (dT1 qU (za2 (zf8 1 [1] (fsT (dVar 0)) (za3 0) zc3 (dChV qE qL (dC (.int 0)) (dVar 0) (dVar 1))) dNil)))))
noncomputable def zg0:List D→Option Ev:=mkG 2 ["pair", "many"] zu7
theorem zal8 (Fn:L2.Fun K "joins_two" "joins_two" zq1 ad fd) (bu:Blt mg) :FnOk P w K mg base CX0 1 ad fd ["pair", "many"] (spD K zg0):=by
 have SC:=zak2
 refine zh9 (k:=0) Fn SC (fun _ _ e=>zf3 e) zu7 (fun _ _ e=>zh8 e) (fun cdv A outer s H E F hr=>?_)
 exact zb0 (ze1 (zaq4 (zq2 (zs9 hr.units) (zb7 zk2 rfl bu.n_len PySem.boot_len (za1 (za0 0) za5)) za6) (zaq4 (zq2 (zy4 hr.units) (zc6 (za0 0) za6) (zc6 (za0 0) za6)) (zbe4 (zb7 (zbk6 (zt2 rfl)) rfl bu.n_all (by decide +kernel) (za1 (zi2 1 [1] ["place", "many"] rfl (pid_tup (za0 0)) (fun _ _ _ _ _=>(zb3 (i:=0) (show List.Nodup (["place", "many"]:List Str) by decide +kernel) rfl (za8 rfl))) (fun _=>(zb4 0)) (fun _ _ _ _ _ _=>zd4) (fun _ _ _ _ _ _=>(zak8 od_le zaq9 za6 (za0 0) (za0 1)))) za5))))))
theorem zw9:FnScope ["roads", "beside", "start", "longest", "waiting", "place", "new"] ["roads", "beside", "start"] (zc4 zi5):=zm6 rfl rfl rfl rfl (by decide +kernel)
noncomputable def bdL:DS:=(dIfS (dBo (d2 (kInD true) (dVar 6) (dVar 3))) (dSeq (zba6 3 (dVar 6) (dT1 qX (za2 (d2 zah1 (dVar 3) (dVar 5)) (za2 (d2 kIx (d2 kIx (dVar 0) (dVar 5)) (dVar 6)) dNil))))
  (dApp 4 (dVar 6))) zh4)
noncomputable def bdLw:DS:=(dSeq (dPop 5 4) (dFor (za3 6) (d2 kIx (dVar 1) (dVar 5)) bdL))
noncomputable def zk5:DS :=
 (dSeq (dAsg 3 (zae9 (dVar 2) (dC (.int 0)))) (dSeq (dAsg 4 (dT1 kLst (za2 (dVar 2) dNil))) (dSeq (zs0 (fun _=>60) (dTr (dVar 4)) bdLw) (zad5 3))))
noncomputable def zd3:List D→Option Ev:=mkG 3 ["roads", "beside", "start", "longest", "waiting", "place", "new"] zk5
theorem zx1 (Fn:L2.Fun K "longest_on_way" "longest_on_way" zi5 ad fd) (bu:Blt mg) :FnOk P w K mg base CX0 1 ad fd ["roads", "beside", "start"] (spD K zd3):=by
 have SC:=zw9
 refine zh9 (k:=0) Fn SC (fun _ _ e=>zf3 e) zk5 (fun _ _ e=>zh8 e) (fun cdv A outer s H E F hr=>?_)
 refine za4 ?_ ?_
 ·exact (zb1 (i:=3) SC.nd rfl (za8 rfl) (zak7 (za0 2) za6))
 refine za4 ?_ ?_
 ·exact (zb1 (i:=4) SC.nd rfl (za8 rfl) (zd8 (za1 (za0 2) za5)))
 refine za4 ?_ ?_
 ·exact (zr0 (fun _=>60) PassesOwn.never (zo0 (za0 4)) (za4 (zap9 (i:=5) 4 SC.nd rfl (za8 rfl))
  (zb0 (zr1 PassesOwn.never rfl (zc6 (za0 1) (za0 5)) (zb3 (i:=6) SC.nd rfl (za8 rfl)) (zb4 6) (zb0 (zf6 (zc9 (zaq8 hr.units) (za0 6) (za0 3)) (za4 (zav3 3 hr.units (za0 6) (zb7 (zbk4 rfl) rfl bu.n_max (by decide +kernel) (za1 (zz1 hr.units (za0 3) (za0 5)) (za1 (zc6 (zc6 (za0 0) (za0 5)) (za0 6)) za5))))
  (zb0 (zr2 4 (za0 6)))) zd9))))))
 exact zb0 (zn1 3)
theorem zt5:FnScope ["roads", "tree", "many", "beside", "start", "longest"] ["roads", "tree"] (zc4 zg4):=zm6 rfl rfl rfl rfl (by decide +kernel)
noncomputable def feW:DE:=(d2 qL (d2 kIx (d2 kIx (dVar 2) (dVar 3)) (dVar 0)) (d2 zah1 (dVar 1) (dVar 0)))
noncomputable def bdR:DS:=(dSeq (dAsg 5 (dT1 (zb8 zd3) (za2 (dVar 0) (za2 (dVar 3) (za2 (dVar 4) dNil)))))
  (dIfS (dTr (dT1 qY (za2 (zf8 1 [5,0,4] (fsR1 (dVar 2)) (za3 0) zc3 feW) dNil))) (dRet (dC (.bl false))) zh4))
noncomputable def zj2:DS :=
 (dSeq (dAsg 2 (dT1 kLen (za2 (dVar 0) dNil))) (dSeq (dIfS (dOr (dBo (d2 kNe (dT1 kLen (za2 (dVar 1) dNil)) (d2 qS (dVar 2) (dC (.int 1))))) (dNot (dTr (dT1 qU (za2 (zf8 1 [2] (fsL (dVar 1)) (za3 0) zc3 (dT1 (zb8 zg0) (za2 (dVar 0) (za2 (dVar 1) dNil)))) dNil))))) (dRet (dC (.bl false))) zh4) (dSeq (dAsg 3 (dT1 (zb8 zk3) (za2 (dT1 kTup (za2 (dVar 2) (za2 (dVar 1) dNil))) dNil))) (dSeq (dFrz 3 (dIfS (dBo (d2 kNe (dT1 zam7 (za2 (dT1 (zb8 zd3) (za2 (dVar 0) (za2 (dVar 3) (za2 (dC (.int 0)) dNil)))) dNil)) (dVar 2))) (dRet (dC (.bl false))) zh4)) (dSeq (zi3 (za3 4) (dVar 2) bdR) (dRet (dC (.bl true))))))))
noncomputable def zf4:List D→Option Ev:=mkG 2 ["roads", "tree", "many", "beside", "start", "longest"] zj2
theorem zt8 (Fn:L2.Fun K "is_shortest_tree" "is_shortest_tree" zg4 ad fd) (bu:Blt mg) (c_joins_two:Cal P w K mg base "joins_two" 1 zg0) (c_neighbours:Cal P w K mg base "neighbours" 1 zk3) (c_longest_on_way:Cal P w K mg base "longest_on_way" 1 zd3):FnOk P w K mg base CX0 2 ad fd ["roads", "tree"] (spD K zf4):=by
 have SC:=zt5
 refine zh9 (k:=1) Fn SC (fun _ _ e=>zf3 e) zj2 (fun _ _ e=>zh8 e) (fun cdv A outer s H E F hr=>?_)
 refine za4 ?_ ?_
 ·exact (zb1 (i:=2) SC.nd rfl (za8 rfl) (zb7 zk2 rfl bu.n_len PySem.boot_len (za1 (za0 0) za5)))
 refine za4 ?_ ?_
 ·exact (zf6 (L2.PW.pt (zx9 (zc9 (zy4 hr.units) (zb7 zk2 rfl bu.n_len PySem.boot_len (za1 (za0 1) za5)) (za9 zj9 (za0 2) za6)) (zt6 (zaa6 (zo0 (zb7 (zbk6 (zt2 rfl)) rfl bu.n_all (by decide +kernel) (za1 (zi2 1 [2] ["pair", "many"] rfl (zl2 (za0 1)) (fun _ _ _ _ _=>(zb3 (i:=0) (show List.Nodup (["pair", "many"]:List Str) by decide +kernel) rfl (za8 rfl))) (fun _=>(zb4 0)) (fun _ _ _ _ _ _=>zd4) (fun _ _ _ _ _ _=>(zb2 c_joins_two (hr.mono (by decide)) (za1 (za0 0) (za1 (za0 1) za5))))) za5))))))) (zb0 (ze1 zk8)) zd9)
 refine za4 ?_ ?_
 ·exact (zb1 (i:=3) SC.nd rfl (za8 rfl) (zb2 c_neighbours (hr.mono (by decide)) (za1 (zf5 (za1 (za0 2) (za1 (za0 1) za5))) za5)))
 refine za4 ?_ ?_
 ·exact (zo1 3 (zf6 (zc9 (zy4 hr.units) (zb7 cd_lenD rfl bu.n_len PySem.boot_len (za1 (zb2 c_longest_on_way (hr.mono (by decide)) (za1 (za0 0) (za1 (za0 3) (za1 za6 za5)))) za5)) (za0 2)) (zb0 (ze1 zk8)) zd9))
 refine za4 ?_ ?_
 ·exact (zh6 PassesOwn.never rfl rfl bu.n_range (za0 2) (zb3 (i:=4) SC.nd rfl (za8 rfl)) (zb4 4) (za4 (zb1 (i:=5) SC.nd rfl (za8 rfl) (zb2 c_longest_on_way (hr.mono (by decide)) (za1 (za0 0) (za1 (za0 3) (za1 (za0 4) za5)))))
  (zb0 (zf6 (zo0 (zb7 (zbk6 (zad7 rfl)) rfl bu.n_any (by decide +kernel) (za1 (zi2 1 [5,0,4] ["end", "longest", "roads", "start"] rfl (zh7 rfl bu.n_range (za0 2)) (fun _ _ _ _ _=>(zb3 (i:=0) (show List.Nodup (["end", "longest", "roads", "start"]:List Str) by decide +kernel) rfl (za8 rfl))) (fun _=>(zb4 0)) (fun _ _ _ _ _ _=>zd4) (fun _ _ _ _ _ _=>(zq2 zaq9 (zc6 (zc6 (za0 2) (za0 3)) (za0 0)) (zz1 hr.units (za0 1) (za0 0))))) za5))) (zb0 (ze1 zk8)) zd9))))
 exact zb0 (ze1 zk8)
theorem zaj5:FnScope ["roads", "tour", "tree"] ["roads", "tour", "tree"] (zc4 zp4):=zm6 rfl rfl rfl rfl (by decide +kernel)
noncomputable def feT:DE:=(d2 kIx (d2 kIx (dVar 2) (dVar 0)) (dVar 1))
noncomputable def zu2:DS :=
 (dSeq (dIfS (dOr (dBo (d2 kNe (dT1 zae4 (za2 (dVar 1) dNil)) (zn5 (za2 (dT1 kLen (za2 (dVar 0) dNil)) dNil)))) (dNot (dTr (dT1 (zb8 zf4) (za2 (dVar 0) (za2 (dVar 2) dNil)))))) (dRet (dC (.bl false))) zh4) (dRet (d2 qE (dT1 (zb8 zm3) (za2 (dVar 0) (za2 (dVar 1) dNil))) (d2 qM (dC (.int 2)) (dT1 kSum (za2 (zf8 2 [0] (fsL (dVar 2)) (zh2 2 (zc0 (za3 0) (zc0 (za3 1) zh3))) zc3 feT) dNil))))))
noncomputable def ze0:List D→Option Ev:=mkG 3 ["roads", "tour", "tree"] zu2
theorem zal1 (Fn:L2.Fun K "lets_tour" "lets_tour" zp4 ad fd) (bu:Blt mg) (c_is_shortest_tree:Cal P w K mg base "is_shortest_tree" 2 zf4) (c_length_of:Cal P w K mg base "length_of" 1 zm3):FnOk P w K mg base CX0 3 ad fd ["roads", "tour", "tree"] (spD K ze0):=by
 have SC:=zaj5
 refine zh9 (k:=2) Fn SC (fun _ _ e=>zf3 e) zu2 (fun _ _ e=>zh8 e) (fun cdv A outer s H E F hr=>?_)
 refine za4 ?_ ?_
 ·exact (zf6 (L2.PW.pt (zx9 (zc9 (zy4 hr.units) (zb7 zax8 rfl bu.n_sorted boot_sorted (za1 (za0 1) za5)) (zj8 rfl rfl bu.n_list rfl bu.n_range (za1 (zb7 zk2 rfl bu.n_len PySem.boot_len (za1 (za0 0) za5)) za5))) (zt6 (zaa6 (zo0 (zb2 c_is_shortest_tree (hr.mono (by decide)) (za1 (za0 0) (za1 (za0 2) za5)))))))) (zb0 (ze1 zk8)) zd9)
 exact zb0 (ze1 (zq2 od_le (zb2 c_length_of (hr.mono (by decide)) (za1 (za0 0) (za1 (za0 1) za5))) (za9 (od_mul.or zk9) za6 (zb7 (zax7 rfl) rfl bu.n_sum (by decide +kernel) (za1 (zi2 2 [0] ["one", "other", "roads"] rfl (zl2 (za0 2)) (fun _ _ _ _ _=>(zv9 rfl (ze5 (zb3 (i:=0) (show List.Nodup (["one", "other", "roads"]:List Str) by decide +kernel) rfl (za8 rfl)) (ze5 (zb3 (i:=1) (show List.Nodup (["one", "other", "roads"]:List Str) by decide +kernel) rfl (za8 rfl)) zo2)))) (fun _=>(zx8 (zf1 (zb4 0) (zf1 (zb4 1) zp1)))) (fun _ _ _ _ _ _=>zd4) (fun _ _ _ _ _ _=>(zc6 (zc6 (za0 2) (za0 0)) (za0 1)))) za5)))))
theorem zap7:FnScope ["_law_script", "_law_k", "_law_number"] ["_law_script", "_law_k"] (zc4 zs6):=zm6 rfl rfl rfl rfl (by decide +kernel)
noncomputable def zi9:DS :=
 (dSeq (dIfS (dBo (d2 qL (dVar 1) (dT1 kLen (za2 (dVar 0) dNil)))) (dRet (d2 kIx (dVar 0) (dVar 1))) zh4) (dSeq (dAsg 2 (d2 qA (d2 qM (dVar 1) (dVar 1)) (dC (.int 7919)))) (dSeq (dIfS (dBo (d2 qG (dT1 kLen (za2 (dVar 0) dNil)) (dC (.int 0)))) (dAsg 2 (d2 qA (dVar 2) (d2 qR (d2 kIx (dVar 0) (d2 qR (d2 qM (dVar 1) (dC (.int 7))) (dT1 kLen (za2 (dVar 0) dNil)))) (dC (.int 2147483629))))) zh4) (dRet (d2 qR (d2 qM (dVar 2) (dVar 2)) (dC (.int 2147483629)))))))
noncomputable def zc7:List D→Option Ev:=mkG 2 ["_law_script", "_law_k", "_law_number"] zi9
theorem zaq7 (Fn:L2.Fun K "_law_cell" "_law_cell" zs6 ad fd) (bu:Blt mg) :FnOk P w K mg base CX0 1 ad fd ["_law_script", "_law_k"] (spD K zc7):=by
 have SC:=zap7
 refine zh9 (k:=0) Fn SC (fun _ _ e=>zf3 e) zi9 (fun _ _ e=>zh8 e) (fun cdv A outer s H E F hr=>?_)
 refine za4 ?_ ?_
 ·exact (zf6 (zc9 zaq9 (za0 1) (zb7 zk2 rfl bu.n_len PySem.boot_len (za1 (za0 0) za5))) (zb0 (ze1 (zc6 (za0 0) (za0 1)))) zd9)
 refine za4 ?_ ?_
 ·exact (zb1 (i:=2) SC.nd rfl (za8 rfl) (za9 (od_add.or ze8) (za9 (od_mul.or zk9) (za0 1) (za0 1)) za6))
 refine za4 ?_ ?_
 ·exact (zf6 (zc9 od_gt (zb7 zk2 rfl bu.n_len PySem.boot_len (za1 (za0 0) za5)) za6) (zb0 (zb1 (i:=2) SC.nd rfl (za8 rfl) (za9 (od_add.or ze8) (za0 2) (za9 zd6 (zc6 (za0 0) (za9 zd6 (za9 (od_mul.or zk9) (za0 1) za6) (zb7 zk2 rfl bu.n_len PySem.boot_len (za1 (za0 0) za5)))) za6)))) zd9)
 exact zb0 (ze1 (za9 zd6 (za9 (od_mul.or zk9) (za0 2) (za0 2)) za6))
theorem zak0:FnScope ["_law_cell_here", "_law_k", "_law_number"] ["_law_cell_here", "_law_k"] (zc4 zp9):=zm6 rfl rfl rfl rfl (by decide +kernel)
noncomputable def zq5:DS :=
 (dSeq (dAsg 2 (d2 qR (d2 qM (d2 qA (d2 qA (d2 qA (d2 qR (dVar 0) (dC (.int 2147483629))) (d2 qM (d2 qM (dVar 1) (dVar 1)) (dC (.int 7919)))) (dVar 1)) (dC (.int 1))) (dC (.int 48271))) (dC (.int 2147483587)))) (dSeq (dAsg 2 (d2 qR (d2 qM (dVar 2) (dVar 2)) (dC (.int 2147483629)))) (dRet (d2 qR (d2 qM (d2 qA (dVar 2) (dVar 1)) (dC (.int 69621))) (dC (.int 2147483563))))))
noncomputable def zc5:List D→Option Ev:=mkG 2 ["_law_cell_here", "_law_k", "_law_number"] zq5
theorem zal6 (Fn:L2.Fun K "_law_mixed" "_law_mixed" zp9 ad fd) (bu:Blt mg) :FnOk P w K mg base CX0 1 ad fd ["_law_cell_here", "_law_k"] (spD K zc5):=by
 have SC:=zak0
 refine zh9 (k:=0) Fn SC (fun _ _ e=>zf3 e) zq5 (fun _ _ e=>zh8 e) (fun cdv A outer s H E F hr=>?_)
 refine za4 ?_ ?_
 ·exact (zb1 (i:=2) SC.nd rfl (za8 rfl) (za9 zd6 (za9 (od_mul.or zk9) (za9 (od_add.or ze8) (za9 (od_add.or ze8) (za9 (od_add.or ze8) (za9 zd6 (za0 0) za6) (za9 (od_mul.or zk9) (za9 (od_mul.or zk9) (za0 1) (za0 1)) za6)) (za0 1)) za6) za6) za6))
 refine za4 ?_ ?_
 ·exact (zb1 (i:=2) SC.nd rfl (za8 rfl) (za9 zd6 (za9 (od_mul.or zk9) (za0 2) (za0 2)) za6))
 exact zb0 (ze1 (za9 zd6 (za9 (od_mul.or zk9) (za9 (od_add.or ze8) (za0 2) (za0 1)) za6) za6))
theorem zay7:FnScope ["_law_cell_here", "_law_many", "_law_bounds", "_law_plain", "_law_found", "_law_k", "_law_bound"] ["_law_cell_here", "_law_many", "_law_bounds", "_law_plain"] (zc4 zv5):=zm6 rfl rfl rfl rfl (by decide +kernel)
noncomputable def bdRw:DS:=(dSeq (dAsg 6 (d2 kIx (dVar 2) (d2 qR (dVar 5) (dT1 kLen (za2 (dVar 2) dNil)))))
  (dIfS (dTr (dVar 3)) (dSeq (dApp 4 (d2 qR (dVar 0) (dVar 6)))
  (dAsg 0 (d2 qV (dVar 0) (dVar 6)))) (dApp 4 (d2 qR (dT1 (zb8 zc5) (za2 (dVar 0) (za2 (dVar 5) dNil))) (dVar 6)))))
noncomputable def zab9:DS :=
 (dSeq (dAsg 4 (dT1 kLst dNil)) (dSeq (zi3 (za3 5) (dVar 1) bdRw) (zad5 4)))
noncomputable def zs3:List D→Option Ev:=mkG 4 ["_law_cell_here", "_law_many", "_law_bounds", "_law_plain", "_law_found", "_law_k", "_law_bound"] zab9
theorem zaz6 (Fn:L2.Fun K "_law_row" "_law_row" zv5 ad fd) (bu:Blt mg) (c_law_mixed:Cal P w K mg base "_law_mixed" 1 zc5):FnOk P w K mg base CX0 2 ad fd ["_law_cell_here", "_law_many", "_law_bounds", "_law_plain"] (spD K zs3):=by
 have SC:=zay7
 refine zh9 (k:=1) Fn SC (fun _ _ e=>zf3 e) zab9 (fun _ _ e=>zh8 e) (fun cdv A outer s H E F hr=>?_)
 refine za4 ?_ ?_
 ·exact (zb1 (i:=4) SC.nd rfl (za8 rfl) (zd8 za5))
 refine za4 ?_ ?_
 ·exact (zh6 PassesOwn.never rfl rfl bu.n_range (za0 1) (zb3 (i:=5) SC.nd rfl (za8 rfl)) (zb4 5) (za4 (zb1 (i:=6) SC.nd rfl (za8 rfl) (zc6 (za0 2) (za9 zd6 (za0 5) (zb7 zk2 rfl bu.n_len PySem.boot_len (za1 (za0 2) za5)))))
  (zb0 (zf6 (zo0 (za0 3)) (za4 (zr2 4 (za9 zd6 (za0 0) (za0 6)))
  (zb0 (zb1 (i:=0) SC.nd rfl (za8 rfl) (za9 zk0 (za0 0) (za0 6))))) (zb0 (zr2 4 (za9 zd6 (zb2 c_law_mixed (hr.mono (by decide)) (za1 (za0 0) (za1 (za0 5) za5))) (za0 6))))))))
 exact zb0 (zn1 4)
theorem zaj7:FnScope ["_law_script", "_law_start", "_law_many", "_law_plain", "_law_bound", "_law_roads_here", "_law_one", "_law_told", "_law_k", "_law_third", "_law_other", "_law_way"] ["_law_script", "_law_start", "_law_many"] (zc4 zp6):=zm6 rfl rfl rfl rfl (by decide +kernel)
noncomputable def mR:DE:=(d2 qS (d2 qS (dVar 2) (dC (.int 1))) (dVar 6))
noncomputable def pK:DE:=(d2 qA (d2 qA (dVar 6) (dC (.int 1))) (dVar 8))
noncomputable def bdI1:DS:=(dSeq (zah6 5 [(dVar 6)] pK (d2 kIx (dVar 7) (dVar 8))) (zah6 5 [pK] (dVar 6) (d2 kIx (dVar 7) (dVar 8))))
noncomputable def bdO1:DS:=(dSeq (dAsg 7 (dT1 (zb8 zs3) (za2 (dT1 (zb8 zc7) (za2 (dVar 0) (za2 (d2 qA (d2 qA (dVar 1) (dC (.int 1))) (dVar 6)) dNil))) (za2 mR (za2 (dT1 kLst (za2 (dVar 4) dNil)) (za2 (dVar 3) dNil))))))
  (zi3 (za3 8) mR bdI1))
noncomputable def bdT1:DS:=(dSeq (dAsg 11 (d2 qA (d2 kIx (d2 kIx (dVar 5) (dVar 6)) (dVar 9)) (d2 kIx (d2 kIx (dVar 5) (dVar 9)) (dVar 10))))
  (dIfS (dBo (d2 qL (dVar 11) (d2 kIx (d2 kIx (dVar 5) (dVar 6)) (dVar 10)))) (zah6 5 [(dVar 6)] (dVar 10) (dVar 11)) zh4))
noncomputable def mxR:DE:=(dT1 kLst (za2 (dC (.int 4)) (za2 (dC (.int 30)) (za2 (dC (.int 1000)) (za2 (d2 qA (d2 qP (dC (.int 10)) (dC (.int 12))) (dC (.int 1))) dNil)))))
noncomputable def zu3:DS :=
 (dSeq (dAsg 3 (d2 kEq (d2 qR (dT1 (zb8 zc7) (za2 (dVar 0) (za2 (dVar 1) dNil))) (dC (.int 2))) (dC (.int 1)))) (dSeq (dAsg 4 (d2 kIx mxR (d2 qR (d2 qV (dT1 (zb8 zc7) (za2 (dVar 0) (za2 (dVar 1) dNil))) (dC (.int 2))) (dC (.int 4))))) (dSeq (dAsg 5 (zg1 1 [2] (fsR1 (dVar 2)) (za3 0) zc3 (d2 qM (dT1 kLst (za2 (dC (.int 0)) dNil)) (dVar 1)))) (dSeq (zi3 (za3 6) (dVar 2) bdO1) (dSeq (zi3 (za3 9) (dVar 2) (zi3 (za3 6) (dVar 2) (zi3 (za3 10) (dVar 2) bdT1))) (zad5 5))))))
noncomputable def zi7:List D→Option Ev:=mkG 3 ["_law_script", "_law_start", "_law_many", "_law_plain", "_law_bound", "_law_roads_here", "_law_one", "_law_told", "_law_k", "_law_third", "_law_other", "_law_way"] zu3
theorem zal3 (Fn:L2.Fun K "_law_roads" "_law_roads" zp6 ad fd) (bu:Blt mg) (c_law_cell:Cal P w K mg base "_law_cell" 1 zc7) (c_law_row:Cal P w K mg base "_law_row" 2 zs3):FnOk P w K mg base CX0 3 ad fd ["_law_script", "_law_start", "_law_many"] (spD K zi7):=by
 have SC:=zaj7
 refine zh9 (k:=2) Fn SC (fun _ _ e=>zf3 e) zu3 (fun _ _ e=>zh8 e) (fun cdv A outer s H E F hr=>?_)
 refine za4 ?_ ?_
 ·exact (zb1 (i:=3) SC.nd rfl (za8 rfl) (zq2 (zs9 hr.units) (za9 zd6 (zb2 c_law_cell (hr.mono (by decide)) (za1 (za0 0) (za1 (za0 1) za5))) za6) za6))
 refine za4 ?_ ?_
 ·exact (zb1 (i:=4) SC.nd rfl (za8 rfl) (zc6 (by refine zd8 ?_;exact (by refine za1 ?_ ?_ ?_;exact za6;exact (by refine za1 ?_ ?_ ?_;exact za6;exact (by refine za1 ?_ ?_ ?_;exact za6;exact (by refine za1 ?_ ?_ ?_;exact (za9 (od_add.or ze8) (za9 od_pow za6 za6) za6);exact za5;exact (zj0 rfl));exact (zj0 rfl));exact (zj0 rfl));exact (zj0 rfl))) (za9 zd6 (za9 zk0 (zb2 c_law_cell (hr.mono (by decide)) (za1 (za0 0) (za1 (za0 1) za5))) za6) za6)))
 refine za4 ?_ ?_
 ·exact (zo6 (i:=5) 1 [2] ["_law_place", "_law_many"] SC.nd rfl (Or.inl rfl) rfl (zh7 rfl bu.n_range (za0 2)) (fun _ _ _ _ _=>(zb3 (i:=0) (show List.Nodup (["_law_place", "_law_many"]:List Str) by decide +kernel) rfl (za8 rfl))) (fun _=>(zb4 0)) (fun _ _ _ _ _ _=>zd4) (fun _ _ _ _ _ _=>(za9 (od_mul.or zk9) (zd8 (za1 za6 za5)) (za0 1))))
 refine za4 ?_ ?_
 ·exact (zh6 PassesOwn.never rfl rfl bu.n_range (za0 2) (zb3 (i:=6) SC.nd rfl (za8 rfl)) (zb4 6) (za4 (zb1 (i:=7) SC.nd rfl (za8 rfl) (zb2 c_law_row (hr.mono (by decide)) (by refine za1 ?_ ?_ ?_;exact (zb2 c_law_cell (hr.mono (by decide)) (za1 (za0 0) (za1 (za9 (od_add.or ze8) (za9 (od_add.or ze8) (za0 1) za6) (za0 6)) za5)));exact (by refine za1 ?_ ?_ ?_;exact (za9 zj9 (za9 zj9 (za0 2) za6) (za0 6));exact (by refine za1 ?_ ?_ ?_;exact (zd8 (za1 (za0 4) za5));exact (by refine za1 ?_ ?_ ?_;exact (za0 3);exact za5;exact (zj0 rfl));exact (zj0 rfl));exact (zj0 rfl));exact (zj0 rfl))))
  (zb0 (zh6 PassesOwn.never rfl rfl bu.n_range (za9 zj9 (za9 zj9 (za0 2) za6) (za0 6)) (zb3 (i:=8) SC.nd rfl (za8 rfl)) (zb4 8) (za4 (zv8 5 (zaa8 (zr3 5) (za0 6)) (za9 (od_add.or ze8) (za9 (od_add.or ze8) (za0 6) za6) (za0 8)) (zc6 (za0 7) (za0 8)))
  (zb0 (zv8 5 (zaa8 (zr3 5) (za9 (od_add.or ze8) (za9 (od_add.or ze8) (za0 6) za6) (za0 8))) (za0 6) (zc6 (za0 7) (za0 8)))))))))
 refine za4 ?_ ?_
 ·exact (zh6 PassesOwn.never rfl rfl bu.n_range (za0 2) (zb3 (i:=9) SC.nd rfl (za8 rfl)) (zb4 9) (zb0 (zh6 PassesOwn.never rfl rfl bu.n_range (za0 2) (zb3 (i:=6) SC.nd rfl (za8 rfl)) (zb4 6) (zb0 (zh6 PassesOwn.never rfl rfl bu.n_range (za0 2) (zb3 (i:=10) SC.nd rfl (za8 rfl)) (zb4 10) (za4 (zb1 (i:=11) SC.nd rfl (za8 rfl) (za9 (od_add.or ze8) (zc6 (zc6 (za0 5) (za0 6)) (za0 9)) (zc6 (zc6 (za0 5) (za0 9)) (za0 10))))
  (zb0 (zf6 (zc9 zaq9 (za0 11) (zc6 (zc6 (za0 5) (za0 6)) (za0 10))) (zb0 (zv8 5 (zaa8 (zr3 5) (za0 6)) (za0 10) (za0 11))) zd9))))))))
 exact zb0 (zn1 5)
theorem zt4:FnScope ["_law_roads_here", "_law_tree", "_law_start", "_law_known", "_law_waiting", "_law_place", "_law_road", "_law_near", "_law_far_here"] ["_law_roads_here", "_law_tree", "_law_start"] (zc4 zg3):=zm6 rfl rfl rfl rfl (by decide +kernel)
noncomputable def bdM:DS:=(dIfS (dAnd (dBo (d2 kEq (dVar 7) (dVar 5))) (dBo (d2 (kInD true) (dVar 8) (dVar 3)))) (dSeq (zba6 3 (dVar 8) (dT1 qX (za2 (d2 zah1 (dVar 3) (dVar 5)) (za2 (d2 kIx (d2 kIx (dVar 0) (dVar 5)) (dVar 8)) dNil))))
  (dApp 4 (dVar 8))) zh4)
noncomputable def bdM2:DS:=(dFor (zh2 2 (zc0 (za3 7) (zc0 (za3 8) zh3))) (dT1 kLst (za2 (dT1 kTup (za2 (d2 kIx (dVar 6) (dC (.int 0))) (za2 (d2 kIx (dVar 6) (dC (.int 1))) dNil))) (za2 (dT1 kTup (za2 (d2 kIx (dVar 6) (dC (.int 1))) (za2 (d2 kIx (dVar 6) (dC (.int 0))) dNil))) dNil))) bdM)
noncomputable def bdMw:DS:=(dSeq (dPop 5 4) (dFor (za3 6) (dVar 1) bdM2))
noncomputable def zj1:DS :=
 (dSeq (dAsg 3 (zae9 (dVar 2) (dC (.int 0)))) (dSeq (dAsg 4 (dT1 kLst (za2 (dVar 2) dNil))) (dSeq (zs0 (fun _=>60) (dBo (d2 kNe (dVar 4) (dT1 kLst dNil))) bdMw) (zad5 3))))
noncomputable def ze6:List D→Option Ev:=mkG 3 ["_law_roads_here", "_law_tree", "_law_start", "_law_known", "_law_waiting", "_law_place", "_law_road", "_law_near", "_law_far_here"] zj1
theorem zt7 (Fn:L2.Fun K "_law_most_on_ways" "_law_most_on_ways" zg3 ad fd) (bu:Blt mg) :FnOk P w K mg base CX0 1 ad fd ["_law_roads_here", "_law_tree", "_law_start"] (spD K ze6):=by
 have SC:=zt4
 refine zh9 (k:=0) Fn SC (fun _ _ e=>zf3 e) zj1 (fun _ _ e=>zh8 e) (fun cdv A outer s H E F hr=>?_)
 refine za4 ?_ ?_
 ·exact (zb1 (i:=3) SC.nd rfl (za8 rfl) (zak7 (za0 2) za6))
 refine za4 ?_ ?_
 ·exact (zb1 (i:=4) SC.nd rfl (za8 rfl) (zd8 (za1 (za0 2) za5)))
 refine za4 ?_ ?_
 ·exact (zr0 (fun _=>60) PassesOwn.never (zc9 (zy4 hr.units) (za0 4) (zd8 za5)) (za4 (zap9 (i:=5) 4 SC.nd rfl (za8 rfl))
  (zb0 (zr1 PassesOwn.never rfl (za0 1) (zb3 (i:=6) SC.nd rfl (za8 rfl)) (zb4 6) (zb0 (zr1 PassesOwn.never rfl (zd8 (za1 (zf5 (za1 (zc6 (za0 6) za6) (za1 (zc6 (za0 6) za6) za5))) (za1 (zf5 (za1 (zc6 (za0 6) za6) (za1 (zc6 (za0 6) za6) za5))) za5))) (zv9 rfl (ze5 (zb3 (i:=7) SC.nd rfl (za8 rfl)) (ze5 (zb3 (i:=8) SC.nd rfl (za8 rfl)) zo2))) (zx8 (zf1 (zb4 7) (zf1 (zb4 8) zp1))) (zb0 (zf6 (L2.PW.pt (zag1 (zc9 (zs9 hr.units) (za0 7) (za0 5)) (zy9 (zc9 (zaq8 hr.units) (za0 8) (za0 3))))) (za4 (zav3 3 hr.units (za0 8) (zb7 (zbk4 rfl) rfl bu.n_max (by decide +kernel) (za1 (zz1 hr.units (za0 3) (za0 5)) (za1 (zc6 (zc6 (za0 0) (za0 5)) (za0 8)) za5))))
  (zb0 (zr2 4 (za0 8)))) zd9))))))))
 exact zb0 (zn1 3)
theorem zap5:FnScope ["_law_roads_here", "_law_tour"] ["_law_roads_here", "_law_tour"] (zc4 zs4):=zm6 rfl rfl rfl rfl (by decide +kernel)
noncomputable def zae7:DS :=
 (dRet (dT1 kSum (za2 (zf8 1 [0,1] (fsR1 (dT1 kLen (za2 (dVar 1) dNil))) (za3 0) zc3 feLg) dNil)))
noncomputable def zo9:List D→Option Ev:=mkG 2 ["_law_roads_here", "_law_tour"] zae7
theorem zaq5 (Fn:L2.Fun K "_law_long" "_law_long" zs4 ad fd) (bu:Blt mg) :FnOk P w K mg base CX0 1 ad fd ["_law_roads_here", "_law_tour"] (spD K zo9):=by
 have SC:=zap5
 refine zh9 (k:=0) Fn SC (fun _ _ e=>zf3 e) zae7 (fun _ _ e=>zh8 e) (fun cdv A outer s H E F hr=>?_)
 exact zb0 (ze1 (zb7 (zax7 rfl) rfl bu.n_sum (by decide +kernel) (za1 (zi2 1 [0,1] ["_law_k", "_law_roads_here", "_law_tour"] rfl (zh7 rfl bu.n_range (zb7 zk2 rfl bu.n_len PySem.boot_len (za1 (za0 1) za5))) (fun _ _ _ _ _=>(zb3 (i:=0) (show List.Nodup (["_law_k", "_law_roads_here", "_law_tour"]:List Str) by decide +kernel) rfl (za8 rfl))) (fun _=>(zb4 0)) (fun _ _ _ _ _ _=>zd4) (fun _ _ _ _ _ _=>(zc6 (zc6 (za0 1) (zc6 (za0 2) (za9 zj9 (za0 0) za6))) (zc6 (za0 2) (za0 0))))) za5)))
theorem zap6:FnScope ["_law_roads_here", "_law_tour", "_law_tree", "_law_many", "_law_road", "_law_start", "_law_known", "_law_goal"] ["_law_roads_here", "_law_tour", "_law_tree"] (zc4 zs5):=zm6 rfl rfl rfl rfl (by decide +kernel)
noncomputable def bdY3:DS:=(dIfS (dOr (dBo (d2 (kInD true) (dVar 7) (dVar 6))) (dBo (d2 qL (d2 kIx (d2 kIx (dVar 0) (dVar 5)) (dVar 7)) (d2 zah1 (dVar 6) (dVar 7))))) (dRet (dC (.bl false))) zh4)
noncomputable def bdY2:DS:=(dSeq (dAsg 6 (dT1 (zb8 ze6) (za2 (dVar 0) (za2 (dVar 2) (za2 (dVar 5) dNil))))) (zi3 (za3 7) (dVar 3) bdY3))
noncomputable def bdY1:DS:=(dIfS (dOr (dBo (d2 qL (dT1 (zy1 zq9) (za2 (dVar 4) dNil)) (dC (.int 0)))) (dBo (d2 (kI tt2 fun i j=>.bl (decide (j≤i))) (dT1 (zy1 zab3) (za2 (dVar 4) dNil)) (dVar 3)))) (dRet (dC (.bl false))) zh4)
noncomputable def feT2:DE:=(d2 kIx (d2 kIx (dVar 1) (d2 kIx (dVar 0) (dC (.int 0)))) (d2 kIx (dVar 0) (dC (.int 1))))
noncomputable def zx4:DS :=
 (dSeq (dAsg 3 (dT1 kLen (za2 (dVar 0) dNil))) (dSeq (dIfS (dOr (dBo (d2 kNe (dT1 zae4 (za2 (dVar 1) dNil)) (zn5 (za2 (dVar 3) dNil)))) (dBo (d2 kNe (dT1 kLen (za2 (dVar 2) dNil)) (d2 qS (dVar 3) (dC (.int 1)))))) (dRet (dC (.bl false))) zh4) (dSeq (dFor (za3 4) (dVar 2) bdY1) (dSeq (zi3 (za3 5) (dVar 3) bdY2) (dRet (d2 qE (dT1 (zb8 zo9) (za2 (dVar 0) (za2 (dVar 1) dNil))) (d2 qM (dC (.int 2)) (dT1 kSum (za2 (zf8 1 [0] (fsL (dVar 2)) (za3 0) zc3 feT2) dNil)))))))))
noncomputable def zg2:List D→Option Ev:=mkG 3 ["_law_roads_here", "_law_tour", "_law_tree", "_law_many", "_law_road", "_law_start", "_law_known", "_law_goal"] zx4
theorem zaq6 (Fn:L2.Fun K "_law_lets" "_law_lets" zs5 ad fd) (bu:Blt mg) (c_law_most_on_ways:Cal P w K mg base "_law_most_on_ways" 1 ze6) (c_law_long:Cal P w K mg base "_law_long" 1 zo9):FnOk P w K mg base CX0 2 ad fd ["_law_roads_here", "_law_tour", "_law_tree"] (spD K zg2):=by
 have SC:=zap6
 refine zh9 (k:=1) Fn SC (fun _ _ e=>zf3 e) zx4 (fun _ _ e=>zh8 e) (fun cdv A outer s H E F hr=>?_)
 refine za4 ?_ ?_
 ·exact (zb1 (i:=3) SC.nd rfl (za8 rfl) (zb7 zk2 rfl bu.n_len PySem.boot_len (za1 (za0 0) za5)))
 refine za4 ?_ ?_
 ·exact (zf6 (L2.PW.pt (zx9 (zc9 (zy4 hr.units) (zb7 zax8 rfl bu.n_sorted boot_sorted (za1 (za0 1) za5)) (zj8 rfl rfl bu.n_list rfl bu.n_range (za1 (za0 3) za5))) (zt6 (zc9 (zy4 hr.units) (zb7 zk2 rfl bu.n_len PySem.boot_len (za1 (za0 2) za5)) (za9 zj9 (za0 3) za6))))) (zb0 (ze1 zk8)) zd9)
 refine za4 ?_ ?_
 ·exact (zr1 PassesOwn.never rfl (za0 2) (zb3 (i:=4) SC.nd rfl (za8 rfl)) (zb4 4) (zb0 (zf6 (L2.PW.pt (zx9 (zc9 zaq9 (zb7 (cd_minU rfl) rfl bu.n_min (by decide +kernel) (za1 (za0 4) za5)) za6) (zt6 (zc9 od_ge (zb7 (cd_maxU rfl) rfl bu.n_max (by decide +kernel) (za1 (za0 4) za5)) (za0 3))))) (zb0 (ze1 zk8)) zd9)))
 refine za4 ?_ ?_
 ·exact (zh6 PassesOwn.never rfl rfl bu.n_range (za0 3) (zb3 (i:=5) SC.nd rfl (za8 rfl)) (zb4 5) (za4 (zb1 (i:=6) SC.nd rfl (za8 rfl) (zb2 c_law_most_on_ways (hr.mono (by decide)) (za1 (za0 0) (za1 (za0 2) (za1 (za0 5) za5)))))
  (zb0 (zh6 PassesOwn.never rfl rfl bu.n_range (za0 3) (zb3 (i:=7) SC.nd rfl (za8 rfl)) (zb4 7) (zb0 (zf6 (L2.PW.pt (zx9 (zc9 (zaq8 hr.units) (za0 7) (za0 6)) (zt6 (zc9 zaq9 (zc6 (zc6 (za0 0) (za0 5)) (za0 7)) (zz1 hr.units (za0 6) (za0 7)))))) (zb0 (ze1 zk8)) zd9))))))
 exact zb0 (ze1 (zq2 od_le (zb2 c_law_long (hr.mono (by decide)) (za1 (za0 0) (za1 (za0 1) za5))) (za9 (od_mul.or zk9) za6 (zb7 (zax7 rfl) rfl bu.n_sum (by decide +kernel) (za1 (zi2 1 [0] ["_law_road", "_law_roads_here"] rfl (zl2 (za0 2)) (fun _ _ _ _ _=>(zb3 (i:=0) (show List.Nodup (["_law_road", "_law_roads_here"]:List Str) by decide +kernel) rfl (za8 rfl))) (fun _=>(zb4 0)) (fun _ _ _ _ _ _=>zd4) (fun _ _ _ _ _ _=>(zc6 (zc6 (za0 1) (zc6 (za0 0) za6)) (zc6 (za0 0) za6)))) za5)))))
theorem zaj9:FnScope ["_law_cell_here", "_law_many", "_law_left", "_law_found", "_law_size"] ["_law_cell_here", "_law_many"] (zc4 zp8):=zm6 rfl rfl rfl rfl (by decide +kernel)
noncomputable def bdO:DS:=(dSeq (dAsg 4 (dT1 kLen (za2 (dVar 2) dNil)))
  (dSeq (zac5 3 2 (d2 qR (dVar 0) (dVar 4)))
  (dAsg 0 (d2 qV (dVar 0) (dVar 4)))))
noncomputable def zu5:DS :=
 (dSeq (dAsg 2 (zn5 (za2 (dVar 1) dNil))) (dSeq (dAsg 3 (dT1 kLst dNil)) (dSeq (zs0 (fun _=>60) (dBo (d2 kNe (dVar 2) (dT1 kLst dNil))) bdO) (zad5 3))))
noncomputable def zj5:List D→Option Ev:=mkG 2 ["_law_cell_here", "_law_many", "_law_left", "_law_found", "_law_size"] zu5
theorem zal5 (Fn:L2.Fun K "_law_order" "_law_order" zp8 ad fd) (bu:Blt mg) :FnOk P w K mg base CX0 1 ad fd ["_law_cell_here", "_law_many"] (spD K zj5):=by
 have SC:=zaj9
 refine zh9 (k:=0) Fn SC (fun _ _ e=>zf3 e) zu5 (fun _ _ e=>zh8 e) (fun cdv A outer s H E F hr=>?_)
 refine za4 ?_ ?_
 ·exact (zb1 (i:=2) SC.nd rfl (za8 rfl) (zj8 rfl rfl bu.n_list rfl bu.n_range (za1 (za0 1) za5)))
 refine za4 ?_ ?_
 ·exact (zb1 (i:=3) SC.nd rfl (za8 rfl) (zd8 za5))
 refine za4 ?_ ?_
 ·exact (zr0 (fun _=>60) PassesOwn.never (zc9 (zy4 hr.units) (za0 2) (zd8 za5)) (za4 (zb1 (i:=4) SC.nd rfl (za8 rfl) (zb7 zk2 rfl bu.n_len PySem.boot_len (za1 (za0 2) za5)))
  (za4 (zaz0 3 2 (za9 zd6 (za0 0) (za0 4)))
  (zb0 (zb1 (i:=0) SC.nd rfl (za8 rfl) (za9 zk0 (za0 0) (za0 4)))))))
 exact zb0 (zn1 3)
theorem zay8:FnScope ["_law_number", "_law_many"] ["_law_number", "_law_many"] (zc4 zv6):=zm6 rfl rfl rfl rfl (by decide +kernel)
noncomputable def zac0:DS :=
 (dRet (d2 kIx (dT1 kLst (za2 (d1 kNeg (dC (.int 1))) (za2 (dVar 1) (za2 (d1 kNeg (dC (.int 2))) (za2 (d2 qS (dC (.int 0)) (dVar 1)) (za2 (d2 qP (dC (.int 10)) (dC (.int 12))) (za2 (d2 qR (d2 qV (dVar 0) (dC (.int 6))) (dVar 1)) dNil))))))) (d2 qR (dVar 0) (dC (.int 6)))))
noncomputable def zm5:List D→Option Ev:=mkG 2 ["_law_number", "_law_many"] zac0
theorem zaz7 (Fn:L2.Fun K "_law_far" "_law_far" zv6 ad fd) (bu:Blt mg) :FnOk P w K mg base CX0 1 ad fd ["_law_number", "_law_many"] (spD K zm5):=by
 have SC:=zay8
 refine zh9 (k:=0) Fn SC (fun _ _ e=>zf3 e) zac0 (fun _ _ e=>zh8 e) (fun cdv A outer s H E F hr=>?_)
 exact zb0 (ze1 (zc6 (by refine zd8 ?_;exact (by refine za1 ?_ ?_ ?_;exact (zaq2 za6);exact (by refine za1 ?_ ?_ ?_;exact (za0 1);exact (by refine za1 ?_ ?_ ?_;exact (zaq2 za6);exact (by refine za1 ?_ ?_ ?_;exact (za9 zj9 za6 (za0 1));exact (by refine za1 ?_ ?_ ?_;exact (za9 od_pow za6 za6);exact (by refine za1 ?_ ?_ ?_;exact (za9 zd6 (za9 zk0 (za0 0) za6) (za0 1));exact za5;exact (zj0 rfl));exact (zj0 rfl));exact (zj0 rfl));exact (zj0 rfl));exact (zj0 rfl));exact (zj0 rfl))) (za9 zd6 (za0 0) za6)))
theorem zaj8:FnScope ["_law_roads_here", "_law_cell_here", "_law_many", "_law_tour", "_law_tree", "_law_number", "_law_way", "_law_rest", "_law_k", "_law_near", "_law_beside"] ["_law_roads_here", "_law_cell_here"] (zc4 zp7):=zm6 rfl rfl rfl rfl (by decide +kernel)
noncomputable def bdE:DS:=(dSeq (dAsg 9 (d2 qR (d2 qV (dVar 7) (d2 qA (dVar 8) (dC (.int 1)))) (dVar 2)))
  (dSeq (dIfS (dBo (d2 kEq (dVar 8) (d2 qR (dVar 7) (dC (.int 7))))) (dAsg 9 (dT1 (zb8 zm5) (za2 (dVar 5) (za2 (dVar 2) dNil)))) zh4)
  (dApp 4 (dT1 kTup (za2 (dVar 9) (za2 (d2 qR (d2 qV (dVar 5) (d2 qA (dVar 8) (dC (.int 2)))) (dVar 2)) dNil))))))
noncomputable def bkE:DS:=(dIfS (dBo (d2 kEq (dVar 6) (dC (.int 4)))) (dSeq (dAsg 4 (dT1 kLst dNil)) (zi3 (za3 8) (d2 qS (dVar 2) (dC (.int 1))) bdE)) zh4)
noncomputable def bkF:DS:=(dIfS (dBo (d2 kEq (dVar 6) (dC (.int 5)))) (dSeq (dAsg 10 (d2 qM (dT1 kLst (za2 (dT1 (zb8 zm5) (za2 (d2 qV (dVar 5) (dC (.int 64))) (za2 (dVar 2) dNil))) dNil)) (d2 qR (d2 qV (dVar 5) (dC (.int 8))) (dC (.int 2)))))
  (dAsg 3 (d2 qA (dSlU (d2 qR (dVar 5) (d2 qA (dVar 2) (dC (.int 1)))) (dVar 3)) (dVar 10)))) zh4)
noncomputable def bkG:DS:=(dIfS (dBo (d2 kEq (dVar 6) (dC (.int 6)))) (dAsg 4 (d2 qA (dSlU (d2 qR (dVar 5) (dVar 2)) (dVar 4)) (d2 qM (dT1 kLst (za2 (dT1 kTup (za2 (dC (.int 0)) (za2 (d2 qS (dVar 2) (dC (.int 1))) dNil))) dNil)) (d2 qR (d2 qV (dVar 5) (dC (.int 64))) (dC (.int 3)))))) zh4)
noncomputable def bkC:DS:=(dIfS (dAnd (dBo (d2 kEq (dVar 6) (dC (.int 2)))) (dBo (d2 qG (dVar 2) (dC (.int 1))))) (dThw 4 (zbj0 4 (d2 qR (dVar 5) (d2 qS (dVar 2) (dC (.int 1)))) (dT1 kTup (za2 (d2 qR (dVar 7) (dVar 2)) (za2 (d2 qR (d2 qV (dVar 7) (dVar 2)) (dVar 2)) dNil))))) zh4)
noncomputable def bkH:DS:=(dIfS (dBo (d2 kEq (dVar 6) (dC (.int 7)))) (dSeq (dAsg 4 (zf8 1 [] (fsR1 (d2 qS (dVar 2) (dC (.int 1)))) (za3 0) zc3 (dT1 kTup (za2 (dVar 0) (za2 (d2 qA (dVar 0) (dC (.int 1))) dNil)))))
  (dAsg 3 (dT1 (zb8 zj5) (za2 (dVar 7) (za2 (dVar 2) dNil))))) zh4)
noncomputable def bkD:DS:=(dIfS (dAnd (dBo (d2 kEq (dVar 6) (dC (.int 3)))) (dBo (d2 qG (dVar 2) (dC (.int 1))))) (dSeq (dAsg 4 (zf8 1 [] (fsR2 (dC (.int 1)) (dVar 2)) (za3 0) zc3 (dT1 kTup (za2 (dC (.int 0)) (za2 (dVar 0) dNil)))))
  (dAsg 3 (zn5 (za2 (dVar 2) dNil)))) zh4)
noncomputable def bkA:DS:=(dIfS (dBo (d2 kEq (dVar 6) (dC (.int 0)))) (dAsg 4 (dT1 zw2 (za2 (zf8 2 [] (fsL (dVar 4)) (zh2 2 (zc0 (za3 0) (zc0 (za3 1) zh3))) zc3 (dT1 kTup (za2 (dVar 1) (za2 (dVar 0) dNil)))) dNil))) zh4)
noncomputable def bkB:DS:=(dIfS (dOr (dBo (d2 kEq (dVar 6) (dC (.int 1)))) (dBo (d2 kEq (dVar 6) (dC (.int 2))))) (dAsg 3 (dT1 (zb8 zj5) (za2 (dVar 7) (za2 (dVar 2) dNil)))) zh4)
noncomputable def zu4:DS :=
 (dSeq (dAsg 2 (dT1 kLen (za2 (dVar 0) dNil))) (dSeq (zbj3 (zh2 2 (zc0 (zae6 3) (zc0 (zae6 4) zh3))) (dT1 (zb8 zd0) (za2 (dVar 0) dNil))) (dSeq (dAsg 5 (dT1 (zb8 zc5) (za2 (dVar 1) (za2 (dC (.int 1)) dNil)))) (dSeq (dAsg 6 (d2 qR (dVar 1) (dC (.int 8)))) (dSeq (dAsg 7 (d2 qV (dVar 1) (dC (.int 8)))) (dSeq bkA (dSeq bkB (dSeq bkC (dSeq bkD (dSeq bkE (dSeq bkF (dSeq bkG (dSeq bkH (dFrz 4 (dFrz 3 (dRet (dT1 kLst (za2 (dVar 3) (za2 (dVar 4) dNil)))))))))))))))))))
noncomputable def zi8:List D→Option Ev:=mkG 2 ["_law_roads_here", "_law_cell_here", "_law_many", "_law_tour", "_law_tree", "_law_number", "_law_way", "_law_rest", "_law_k", "_law_near", "_law_beside"] zu4
theorem zal4 (Fn:L2.Fun K "_law_paper" "_law_paper" zp7 ad fd) (bu:Blt mg) (c_tour_by_tree:Cal P w K mg base "tour_by_tree" 2 zd0) (c_law_mixed:Cal P w K mg base "_law_mixed" 1 zc5) (c_law_order:Cal P w K mg base "_law_order" 1 zj5) (c_law_far:Cal P w K mg base "_law_far" 1 zm5):FnOk P w K mg base CX0 3 ad fd ["_law_roads_here", "_law_cell_here"] (spD K zi8):=by
 have SC:=zaj8
 refine zh9 (k:=2) Fn SC (fun _ _ e=>zf3 e) zu4 (fun _ _ e=>zh8 e) (fun cdv A outer s H E F hr=>?_)
 refine za4 ?_ ?_
 ·exact (zb1 (i:=2) SC.nd rfl (za8 rfl) (zb7 zk2 rfl bu.n_len PySem.boot_len (za1 (za0 0) za5)))
 refine za4 ?_ ?_
 ·exact (psd_asgN (zb2 c_tour_by_tree (hr.mono (by decide)) (za1 (za0 0) za5)) (zv9 rfl (ze5 (zb3 (i:=3) SC.nd rfl (za8 rfl)) (ze5 (zb3 (i:=4) SC.nd rfl (za8 rfl)) zo2))) (tn_tup (zau0 (zbc0 3) (zau0 (zbc0 4) tns_nil))))
 refine za4 ?_ ?_
 ·exact (zb1 (i:=5) SC.nd rfl (za8 rfl) (zb2 c_law_mixed (hr.mono (by decide)) (za1 (za0 1) (za1 za6 za5))))
 refine za4 ?_ ?_
 ·exact (zb1 (i:=6) SC.nd rfl (za8 rfl) (za9 zd6 (za0 1) za6))
 refine za4 ?_ ?_
 ·exact (zb1 (i:=7) SC.nd rfl (za8 rfl) (za9 zk0 (za0 1) za6))
 refine za4 ?_ ?_
 ·exact (zf6 (zc9 (zs9 hr.units) (za0 6) za6) (zb0 (zb1 (i:=4) SC.nd rfl (za8 rfl) (zaq3 rfl rfl bu.n_list rfl bu.n_reversed (zi2 2 [] ["_law_one", "_law_other"] rfl (zl2 (za0 4)) (fun _ _ _ _ _=>(zv9 rfl (ze5 (zb3 (i:=0) (show List.Nodup (["_law_one", "_law_other"]:List Str) by decide +kernel) rfl (za8 rfl)) (ze5 (zb3 (i:=1) (show List.Nodup (["_law_one", "_law_other"]:List Str) by decide +kernel) rfl (za8 rfl)) zo2)))) (fun _=>(zx8 (zf1 (zb4 0) (zf1 (zb4 1) zp1)))) (fun _ _ _ _ _ _=>zd4) (fun _ _ _ _ _ _=>(zf5 (za1 (za0 1) (za1 (za0 0) za5)))))))) zd9)
 refine za4 ?_ ?_
 ·exact (zf6 (L2.PW.pt (zx9 (zc9 (zs9 hr.units) (za0 6) za6) (zt6 (zc9 (zs9 hr.units) (za0 6) za6)))) (zb0 (zb1 (i:=3) SC.nd rfl (za8 rfl) (zb2 c_law_order (hr.mono (by decide)) (za1 (za0 7) (za1 (za0 2) za5))))) zd9)
 refine za4 ?_ ?_
 ·exact (zf6 (L2.PW.pt (zag1 (zc9 (zs9 hr.units) (za0 6) za6) (zy9 (zc9 od_gt (za0 2) za6)))) (zb0 (psd_thw 4 (psd_seti 4 (za9 zd6 (za0 5) (za9 zj9 (za0 2) za6)) (zf5 (za1 (za9 zd6 (za0 7) (za0 2)) (za1 (za9 zd6 (za9 zk0 (za0 7) (za0 2)) (za0 2)) za5)))))) zd9)
 refine za4 ?_ ?_
 ·exact (zf6 (L2.PW.pt (zag1 (zc9 (zs9 hr.units) (za0 6) za6) (zy9 (zc9 od_gt (za0 2) za6)))) (za4 (zz0 (i:=4) 1 [] ["_law_place"] SC.nd rfl (Or.inl rfl) rfl (pid_rng2 rfl bu.n_range za6 (za0 2)) (fun _ _ _ _ _=>(zb3 (i:=0) (show List.Nodup (["_law_place"]:List Str) by decide +kernel) rfl (za8 rfl))) (fun _=>(zb4 0)) (fun _ _ _ _ _ _=>zd4) (fun _ _ _ _ _ _=>(zf5 (za1 za6 (za1 (za0 0) za5)))))
  (zb0 (zb1 (i:=3) SC.nd rfl (za8 rfl) (zj8 rfl rfl bu.n_list rfl bu.n_range (za1 (za0 2) za5))))) zd9)
 refine za4 ?_ ?_
 ·exact (zf6 (zc9 (zs9 hr.units) (za0 6) za6) (za4 (zb1 (i:=4) SC.nd rfl (za8 rfl) (zd8 za5))
  (zb0 (zh6 PassesOwn.never rfl rfl bu.n_range (za9 zj9 (za0 2) za6) (zb3 (i:=8) SC.nd rfl (za8 rfl)) (zb4 8) (za4 (zb1 (i:=9) SC.nd rfl (za8 rfl) (za9 zd6 (za9 zk0 (za0 7) (za9 (od_add.or ze8) (za0 8) za6)) (za0 2)))
  (za4 (zf6 (zc9 (zs9 hr.units) (za0 8) (za9 zd6 (za0 7) za6)) (zb0 (zb1 (i:=9) SC.nd rfl (za8 rfl) (zb2 c_law_far (hr.mono (by decide)) (za1 (za0 5) (za1 (za0 2) za5))))) zd9)
  (zb0 (zr2 4 (zf5 (za1 (za0 9) (za1 (za9 zd6 (za9 zk0 (za0 5) (za9 (od_add.or ze8) (za0 8) za6)) (za0 2)) za5)))))))))) zd9)
 refine za4 ?_ ?_
 ·exact (zf6 (zc9 (zs9 hr.units) (za0 6) za6) (za4 (zb1 (i:=10) SC.nd rfl (za8 rfl) (za9 (od_mul.or zk9) (zd8 (za1 (zb2 c_law_far (hr.mono (by decide)) (za1 (za9 zk0 (za0 5) za6) (za1 (za0 2) za5))) za5)) (za9 zd6 (za9 zk0 (za0 5) za6) za6)))
  (zb0 (zb1 (i:=3) SC.nd rfl (za8 rfl) (za9 (od_add.or ze8) (zae1 (za0 3) (za9 zd6 (za0 5) (za9 (od_add.or ze8) (za0 2) za6))) (za0 10))))) zd9)
 refine za4 ?_ ?_
 ·exact (zf6 (zc9 (zs9 hr.units) (za0 6) za6) (zb0 (zb1 (i:=4) SC.nd rfl (za8 rfl) (za9 (od_add.or ze8) (zae1 (za0 4) (za9 zd6 (za0 5) (za0 2))) (za9 (od_mul.or zk9) (zd8 (za1 (zf5 (za1 za6 (za1 (za9 zj9 (za0 2) za6) za5))) za5)) (za9 zd6 (za9 zk0 (za0 5) za6) za6))))) zd9)
 refine za4 ?_ ?_
 ·exact (zf6 (zc9 (zs9 hr.units) (za0 6) za6) (za4 (zz0 (i:=4) 1 [] ["_law_place"] SC.nd rfl (Or.inl rfl) rfl (zh7 rfl bu.n_range (za9 zj9 (za0 2) za6)) (fun _ _ _ _ _=>(zb3 (i:=0) (show List.Nodup (["_law_place"]:List Str) by decide +kernel) rfl (za8 rfl))) (fun _=>(zb4 0)) (fun _ _ _ _ _ _=>zd4) (fun _ _ _ _ _ _=>(zf5 (za1 (za0 0) (za1 (za9 (od_add.or ze8) (za0 0) za6) za5)))))
  (zb0 (zb1 (i:=3) SC.nd rfl (za8 rfl) (zb2 c_law_order (hr.mono (by decide)) (za1 (za0 7) (za1 (za0 2) za5)))))) zd9)
 exact zb0 (zo1 4 (zo1 3 (ze1 (zd8 (za1 (za0 3) (za1 (za0 4) za5))))))
theorem zaa1:FnScope ["_law_cell_here", "_law_many", "_law_ends", "_law_roads_here", "_law_tree", "_law_bent", "_law_papers", "_law_tour", "_law_told"] ["_law_cell_here"] (zc4 zj7):=zm6 rfl rfl rfl rfl (by decide +kernel)
noncomputable def gLR:DS :=
  (dSeq (dAsg 2 (zf8 1 [] (fsR1 (dVar 1)) (za3 0) zc3 (d2 qA (d2 qM (dVar 0) (dVar 0)) (dVar 0))))
  (dSeq (dAsg 3 (zg1 1 [1,2] (fsR1 (dVar 1)) (za3 0) zc3 (zf8 1 [2,0] (fsR1 (dVar 1)) (za3 0) zc3 (dT1 kAbs (za2 (d2 qS (d2 kIx (dVar 1) (dVar 2)) (d2 kIx (dVar 1) (dVar 0))) dNil)))))
  (dSeq (dAsg 4 (zf8 1 [] (fsR1 (d2 qS (dVar 1) (dC (.int 1)))) (za3 0) zc3 (dT1 kTup (za2 (dVar 0) (za2 (d2 qA (dVar 0) (dC (.int 1))) dNil)))))
  (dSeq (dAsg 5 (d2 qA (dT1 kLst (za2 (dT1 kTup (za2 (dC (.int 0)) (za2 (d2 qS (dVar 1) (dC (.int 1))) dNil))) dNil)) (dSlF (dC (.int 1)) (dVar 4))))
  (dSeq (dFrz 5 (dFrz 4 (dAsg 6 (dT1 kLst (za2 (dT1 kTup (za2 (zn5 (za2 (dVar 1) dNil)) (za2 (dVar 4) dNil))) (za2 (dT1 kTup (za2 (zn5 (za2 (dVar 1) dNil)) (za2 (dVar 5) dNil))) (za2 (dT1 kTup (za2 (zn5 (za2 (dVar 1) dNil)) (za2 (d1 kRev (dVar 4)) dNil))) dNil)))))))
  (dSeq (dFrz 3 (dFrz 6 (dFor (zh2 2 (zc0 (za3 7) (zc0 (za3 8) zh3))) (dVar 6) (dIfS (dBo (d2 kNe (dT1 (zb8 ze0) (za2 (zg1 1 [] (fsL (dVar 3)) (za3 0) zc3 (dT1 zm7 (za2 (dVar 0) dNil))) (za2 (dT1 zm7 (za2 (dVar 7) dNil)) (za2 (dT1 zm7 (za2 (dVar 8) dNil)) dNil)))) (dT1 (zb8 zg2) (za2 (dVar 3) (za2 (dVar 7) (za2 (dVar 8) dNil)))))) (dRet (dC (.bl false))) zh4))))
  (dRet (dC (.bl true)))))))))
noncomputable def zo4:DS :=
 (dSeq (dAsg 1 (d2 qA (dC (.int 8)) (d2 qR (dVar 0) (dC (.int 5))))) gLR)
noncomputable def zi4:List D→Option Ev:=mkG 1 ["_law_cell_here", "_law_many", "_law_ends", "_law_roads_here", "_law_tree", "_law_bent", "_law_papers", "_law_tour", "_law_told"] zo4
theorem zab2 (Fn:L2.Fun K "_law_long_row" "_law_long_row" zj7 ad fd) (bu:Blt mg) (c_lets_tour:Cal P w K mg base "lets_tour" 3 ze0) (c_law_lets:Cal P w K mg base "_law_lets" 2 zg2):FnOk P w K mg base CX0 4 ad fd ["_law_cell_here"] (spD K zi4):=by
 have SC:=zaa1
 refine zh9 (k:=3) Fn SC (fun _ _ e=>zf3 e) zo4 (fun _ _ e=>zh8 e) (fun cdv A outer s H E F hr=>?_)
 refine za4 ?_ ?_
 ·exact (zb1 (i:=1) SC.nd rfl (za8 rfl) (za9 (od_add.or ze8) za6 (za9 zd6 (za0 0) za6)))
 refine za4 ?_ ?_
 ·exact (zb1 (i:=2) SC.nd rfl (za8 rfl) (zi2 1 [] ["_law_k"] rfl (zh7 rfl bu.n_range (za0 1)) (fun _ _ _ _ _=>(zb3 (i:=0) (show List.Nodup (["_law_k"]:List Str) by decide +kernel) rfl (za8 rfl))) (fun _=>(zb4 0)) (fun _ _ _ _ _ _=>zd4) (fun _ _ _ _ _ _=>(za9 (od_add.or ze8) (za9 (od_mul.or zk9) (za0 0) (za0 0)) (za0 0)))))
 refine za4 ?_ ?_
 ·exact (zo6 (i:=3) 1 [1,2] ["_law_one", "_law_many", "_law_ends"] SC.nd rfl (Or.inl rfl) rfl (zh7 rfl bu.n_range (za0 1)) (fun _ _ _ _ _=>(zb3 (i:=0) (show List.Nodup (["_law_one", "_law_many", "_law_ends"]:List Str) by decide +kernel) rfl (za8 rfl))) (fun _=>(zb4 0)) (fun _ _ _ _ _ _=>zd4) (fun _ _ _ _ _ _=>(zi2 1 [2,0] ["_law_other", "_law_ends", "_law_one"] rfl (zh7 rfl bu.n_range (za0 1)) (fun _ _ _ _ _=>(zb3 (i:=0) (show List.Nodup (["_law_other", "_law_ends", "_law_one"]:List Str) by decide +kernel) rfl (za8 rfl))) (fun _=>(zb4 0)) (fun _ _ _ _ _ _=>zd4) (fun _ _ _ _ _ _=>(zb7 cd_abs rfl bu.n_abs bt_abs (za1 (za9 zj9 (zc6 (za0 1) (za0 2)) (zc6 (za0 1) (za0 0))) za5))))))
 refine za4 ?_ ?_
 ·exact (zz0 (i:=4) 1 [] ["_law_place"] SC.nd rfl (Or.inl rfl) rfl (zh7 rfl bu.n_range (za9 zj9 (za0 1) za6)) (fun _ _ _ _ _=>(zb3 (i:=0) (show List.Nodup (["_law_place"]:List Str) by decide +kernel) rfl (za8 rfl))) (fun _=>(zb4 0)) (fun _ _ _ _ _ _=>zd4) (fun _ _ _ _ _ _=>(zf5 (za1 (za0 0) (za1 (za9 (od_add.or ze8) (za0 0) za6) za5)))))
 refine za4 ?_ ?_
 ·exact (zb1 (i:=5) SC.nd rfl (za8 rfl) (za9 (od_add.or ze8) (zd8 (za1 (zf5 (za1 za6 (za1 (za9 zj9 (za0 1) za6) za5))) za5)) (zaz2 (za0 4) za6)))
 refine za4 ?_ ?_
 ·exact (zo1 5 (zo1 4 (zb1 (i:=6) SC.nd rfl (za8 rfl) (zd8 (za1 (zf5 (za1 (zj8 rfl rfl bu.n_list rfl bu.n_range (za1 (za0 1) za5)) (za1 (za0 4) za5))) (za1 (zf5 (za1 (zj8 rfl rfl bu.n_list rfl bu.n_range (za1 (za0 1) za5)) (za1 (za0 5) za5))) (za1 (zf5 (za1 (zj8 rfl rfl bu.n_list rfl bu.n_range (za1 (za0 1) za5)) (za1 (ped_rev (za0 4)) za5))) za5)))))))
 refine za4 ?_ ?_
 ·exact (zo1 3 (zo1 6 (zr1 PassesOwn.never rfl (za0 6) (zv9 rfl (ze5 (zb3 (i:=7) SC.nd rfl (za8 rfl)) (ze5 (zb3 (i:=8) SC.nd rfl (za8 rfl)) zo2))) (zx8 (zf1 (zb4 7) (zf1 (zb4 8) zp1))) (zb0 (zf6 (zc9 (zy4 hr.units) (zb2 c_lets_tour (hr.mono (by decide)) (za1 (zae2 1 [] ["_law_row_here"] rfl (zl2 (za0 3)) (fun _ _ _ _ _=>(zb3 (i:=0) (show List.Nodup (["_law_row_here"]:List Str) by decide +kernel) rfl (za8 rfl))) (fun _=>(zb4 0)) (fun _ _ _ _ _ _=>zd4) (fun _ _ _ _ _ _=>(zg9 zq6 rfl bu.n_list bt_list (za1 (za0 0) za5)))) (za1 (zg9 zq6 rfl bu.n_list bt_list (za1 (za0 7) za5)) (za1 (zg9 zq6 rfl bu.n_list bt_list (za1 (za0 8) za5)) za5)))) (zb2 c_law_lets (hr.mono (by decide)) (za1 (za0 3) (za1 (za0 7) (za1 (za0 8) za5))))) (zb0 (ze1 zk8)) zd9)))))
 exact zb0 (ze1 zk8)
theorem zak1:FnScope ["_law_cell_here", "_law_many", "_law_half", "_law_turn", "_law_near", "_law_far_here", "_law_places", "_law_roads_here", "_law_k", "_law_j", "_law_road", "_law_trees", "_law_tree"] ["_law_cell_here"] (zc4 zq0):=zm6 rfl rfl rfl rfl (by decide +kernel)
noncomputable def bdHt:DS:=(dSeq (zx5 11 [(dC (.int 0))] (dT1 kTup (za2 (d2 kIx (dVar 6) (dC (.int 0))) (za2 (d2 kIx (dVar 6) (dVar 8)) dNil))))
  (dSeq (zx5 11 [(dC (.int 1))] (dT1 kTup (za2 (d2 kIx (dVar 6) (d2 qM (dVar 2) (dT1 zar8 (za2 (d2 qG (dVar 8) (dVar 2)) dNil)))) (za2 (d2 kIx (dVar 6) (dVar 8)) dNil))))
  (zx5 11 [(dC (.int 2))] (dT1 kTup (za2 (d2 kIx (dVar 6) (dVar 8)) (za2 (d2 kIx (dVar 6) (d2 qR (dT1 (zb8 zc5) (za2 (dVar 0) (za2 (dVar 8) dNil))) (dVar 8))) dNil))))))
noncomputable def bdHj:DS:=(dSeq (dAsg 10 (d2 kIx (dT1 kLst (za2 (dVar 4) (za2 (dVar 5) dNil))) (dT1 zar8 (za2 (dChV qL qE (dVar 9) (dVar 2) (dVar 8)) dNil))))
  (dSeq (zah6 7 [(d2 kIx (dVar 6) (dVar 8))] (d2 kIx (dVar 6) (dVar 9)) (dVar 10))
  (zah6 7 [(d2 kIx (dVar 6) (dVar 9))] (d2 kIx (dVar 6) (dVar 8)) (dVar 10))))
noncomputable def bdHk:DS:=(zi3 (za3 9) (dVar 8) bdHj)
noncomputable def bdHl:DS:=(dIfS (dBo (d2 kNe (dT1 (zb8 ze0) (za2 (zg1 1 [] (fsL (dVar 7)) (za3 0) zc3 (dT1 zm7 (za2 (dVar 0) dNil))) (za2 (dT1 zm7 (za2 (dVar 6) dNil)) (za2 (dT1 zm7 (za2 (dVar 12) dNil)) dNil)))) (dT1 (zb8 zg2) (za2 (dVar 7) (za2 (dVar 6) (za2 (dVar 12) dNil)))))) (dRet (dC (.bl false))) zh4)
noncomputable def zu6:DS :=
 (dSeq (dAsg 1 (d2 qA (dC (.int 8)) (d2 qR (dVar 0) (dC (.int 5))))) (dSeq (dAsg 2 (d2 qA (dC (.int 1)) (d2 qR (d2 qV (dVar 0) (dC (.int 5))) (d2 qS (dVar 1) (dC (.int 1)))))) (dSeq (dAsg 3 (d2 qR (d2 qV (dVar 0) (dC (.int 60))) (dVar 1))) (dSeq (dAsg 4 (d2 qA (dC (.int 1)) (d2 qR (d2 qV (dVar 0) (dC (.int 720))) (dC (.int 3))))) (dSeq (dAsg 5 (d2 qA (dVar 4) (d2 qR (d2 qV (dVar 0) (dC (.int 2160))) (dC (.int 12))))) (dSeq (dAsg 6 (zf8 1 [1,3] (fsR1 (dVar 1)) (za3 0) zc3 (d2 qR (d2 qA (dVar 0) (dVar 2)) (dVar 1)))) (dSeq (dAsg 7 (zg1 1 [1] (fsR1 (dVar 1)) (za3 0) zc3 (d2 qM (dT1 kLst (za2 (dC (.int 0)) dNil)) (dVar 1)))) (dSeq (zi3 (za3 8) (dVar 1) bdHk) (dSeq (dAsg 11 (dNewL (zam0 (nOf (dT1 kLst dNil)) (zam0 (nOf (dT1 kLst dNil)) (zam0 (nOf (dT1 kLst dNil)) nNil))))) (dSeq (zba5 (za3 8) (dC (.int 1)) (dVar 1) bdHt) (dSeq (dFrz 7 (dFrz 11 (dFor (za3 12) (dVar 11) bdHl))) (dRet (dC (.bl true))))))))))))))
noncomputable def zm4:List D→Option Ev:=mkG 1 ["_law_cell_here", "_law_many", "_law_half", "_law_turn", "_law_near", "_law_far_here", "_law_places", "_law_roads_here", "_law_k", "_law_j", "_law_road", "_law_trees", "_law_tree"] zu6
theorem zal7 (Fn:L2.Fun K "_law_heaps" "_law_heaps" zq0 ad fd) (bu:Blt mg) (c_law_mixed:Cal P w K mg base "_law_mixed" 1 zc5) (c_lets_tour:Cal P w K mg base "lets_tour" 3 ze0) (c_law_lets:Cal P w K mg base "_law_lets" 2 zg2):FnOk P w K mg base CX0 4 ad fd ["_law_cell_here"] (spD K zm4):=by
 have SC:=zak1
 refine zh9 (k:=3) Fn SC (fun _ _ e=>zf3 e) zu6 (fun _ _ e=>zh8 e) (fun cdv A outer s H E F hr=>?_)
 refine za4 ?_ ?_
 ·exact (zb1 (i:=1) SC.nd rfl (za8 rfl) (za9 (od_add.or ze8) za6 (za9 zd6 (za0 0) za6)))
 refine za4 ?_ ?_
 ·exact (zb1 (i:=2) SC.nd rfl (za8 rfl) (za9 (od_add.or ze8) za6 (za9 zd6 (za9 zk0 (za0 0) za6) (za9 zj9 (za0 1) za6))))
 refine za4 ?_ ?_
 ·exact (zb1 (i:=3) SC.nd rfl (za8 rfl) (za9 zd6 (za9 zk0 (za0 0) za6) (za0 1)))
 refine za4 ?_ ?_
 ·exact (zb1 (i:=4) SC.nd rfl (za8 rfl) (za9 (od_add.or ze8) za6 (za9 zd6 (za9 zk0 (za0 0) za6) za6)))
 refine za4 ?_ ?_
 ·exact (zb1 (i:=5) SC.nd rfl (za8 rfl) (za9 (od_add.or ze8) (za0 4) (za9 zd6 (za9 zk0 (za0 0) za6) za6)))
 refine za4 ?_ ?_
 ·exact (zz0 (i:=6) 1 [1,3] ["_law_k", "_law_many", "_law_turn"] SC.nd rfl (Or.inl rfl) rfl (zh7 rfl bu.n_range (za0 1)) (fun _ _ _ _ _=>(zb3 (i:=0) (show List.Nodup (["_law_k", "_law_many", "_law_turn"]:List Str) by decide +kernel) rfl (za8 rfl))) (fun _=>(zb4 0)) (fun _ _ _ _ _ _=>zd4) (fun _ _ _ _ _ _=>(za9 zd6 (za9 (od_add.or ze8) (za0 0) (za0 2)) (za0 1))))
 refine za4 ?_ ?_
 ·exact (zo6 (i:=7) 1 [1] ["_law_place", "_law_many"] SC.nd rfl (Or.inl rfl) rfl (zh7 rfl bu.n_range (za0 1)) (fun _ _ _ _ _=>(zb3 (i:=0) (show List.Nodup (["_law_place", "_law_many"]:List Str) by decide +kernel) rfl (za8 rfl))) (fun _=>(zb4 0)) (fun _ _ _ _ _ _=>zd4) (fun _ _ _ _ _ _=>(za9 (od_mul.or zk9) (zd8 (za1 za6 za5)) (za0 1))))
 refine za4 ?_ ?_
 ·exact (zh6 PassesOwn.never rfl rfl bu.n_range (za0 1) (zb3 (i:=8) SC.nd rfl (za8 rfl)) (zb4 8) (zb0 (zh6 PassesOwn.never rfl rfl bu.n_range (za0 8) (zb3 (i:=9) SC.nd rfl (za8 rfl)) (zb4 9) (za4 (zb1 (i:=10) SC.nd rfl (za8 rfl) (zc6 (zd8 (za1 (za0 4) (za1 (za0 5) za5))) (zg9 zbk5 rfl bu.n_int bt_int (za1 (zak8 zaq9 od_le (za0 9) (za0 2) (za0 8)) za5))))
  (za4 (zv8 7 (zaa8 (zr3 7) (zc6 (za0 6) (za0 8))) (zc6 (za0 6) (za0 9)) (za0 10))
  (zb0 (zv8 7 (zaa8 (zr3 7) (zc6 (za0 6) (za0 9))) (zc6 (za0 6) (za0 8)) (za0 10))))))))
 refine za4 ?_ ?_
 ·exact (zb1 (i:=11) SC.nd rfl (za8 rfl) (ped_newL (zag3 (pn_of (zd8 za5)) (zag3 (pn_of (zd8 za5)) (zag3 (pn_of (zd8 za5)) pns_nil)))))
 refine za4 ?_ ?_
 ·exact (zav2 PassesOwn.never rfl rfl bu.n_range za6 (za0 1) (zb3 (i:=8) SC.nd rfl (za8 rfl)) (zb4 8) (za4 (zs7 11 (zaa8 (zr3 11) za6) (zf5 (za1 (zc6 (za0 6) za6) (za1 (zc6 (za0 6) (za0 8)) za5))))
  (za4 (zs7 11 (zaa8 (zr3 11) za6) (zf5 (za1 (zc6 (za0 6) (za9 (od_mul.or zk9) (za0 2) (zg9 zbk5 rfl bu.n_int bt_int (za1 (zq2 od_gt (za0 8) (za0 2)) za5)))) (za1 (zc6 (za0 6) (za0 8)) za5))))
  (zb0 (zs7 11 (zaa8 (zr3 11) za6) (zf5 (za1 (zc6 (za0 6) (za0 8)) (za1 (zc6 (za0 6) (za9 zd6 (zb2 c_law_mixed (hr.mono (by decide)) (za1 (za0 0) (za1 (za0 8) za5))) (za0 8))) za5))))))))
 refine za4 ?_ ?_
 ·exact (zo1 7 (zo1 11 (zr1 PassesOwn.never rfl (za0 11) (zb3 (i:=12) SC.nd rfl (za8 rfl)) (zb4 12) (zb0 (zf6 (zc9 (zy4 hr.units) (zb2 c_lets_tour (hr.mono (by decide)) (za1 (zae2 1 [] ["_law_row_here"] rfl (zl2 (za0 7)) (fun _ _ _ _ _=>(zb3 (i:=0) (show List.Nodup (["_law_row_here"]:List Str) by decide +kernel) rfl (za8 rfl))) (fun _=>(zb4 0)) (fun _ _ _ _ _ _=>zd4) (fun _ _ _ _ _ _=>(zg9 zq6 rfl bu.n_list bt_list (za1 (za0 0) za5)))) (za1 (zg9 zq6 rfl bu.n_list bt_list (za1 (za0 6) za5)) (za1 (zg9 zq6 rfl bu.n_list bt_list (za1 (za0 12) za5)) za5)))) (zb2 c_law_lets (hr.mono (by decide)) (za1 (za0 7) (za1 (za0 6) (za1 (za0 12) za5))))) (zb0 (ze1 zk8)) zd9)))))
 exact zb0 (ze1 zk8)
theorem sc_law:FnScope ["_law_script", "_law_cell_here", "_law_k", "_law_number", "_law_many", "_law_last", "_law_roads_here", "_law_kept", "_law_tour", "_law_tree", "_law_handed", "_law_found"] ["_law_script"] (zc4 s_law):=zm6 rfl rfl rfl rfl (by decide +kernel)
noncomputable def bdQ:DS:=(dSeq (zad6 (gkLst 2 (zc0 (za3 8) (zc0 (za3 9) zh3))) (dT1 (zb8 zi8) (za2 (dVar 6) (za2 (dT1 (zb8 zc7) (za2 (dVar 0) (za2 (dVar 2) dNil))) dNil))))
  (dSeq (dAsg 10 (dT1 kTup (za2 (dT1 zm7 (za2 (dVar 8) dNil)) (za2 (dT1 zm7 (za2 (dVar 9) dNil)) dNil))))
  (dSeq (dAsg 11 (dT1 (zb8 ze0) (za2 (dVar 6) (za2 (d2 kIx (dVar 10) (dC (.int 0))) (za2 (d2 kIx (dVar 10) (dC (.int 1))) dNil)))))
  (dIfS (dOr (dNot (dTr (dIsi "bool" (dVar 11)))) (dOr (dBo (d2 kNe (dVar 11) (dT1 (zb8 zg2) (za2 (dVar 6) (za2 (dVar 8) (za2 (dVar 9) dNil)))))) (dBo (d2 kNe (dVar 10) (dT1 kTup (za2 (dVar 8) (za2 (dVar 9) dNil))))))) (dRet (dC (.bl false))) zh4))))
noncomputable def bdHq:DS:=(dIfS (dNot (dTr (dT1 (zb8 zm4) (za2 (dT1 (zb8 zc5) (za2 (dVar 1) (za2 (d2 qA (dC (.int 5)) (dVar 2)) dNil))) dNil)))) (dRet (dC (.bl false))) zh4)
noncomputable def g_law:DS :=
 (dSeq (dAsg 1 (dT1 (zb8 zc7) (za2 (dVar 0) (za2 (dC (.int 9)) dNil)))) (dSeq (dIfS (dAnd (dBo (d2 kEq (d2 qR (dT1 (zb8 zc5) (za2 (dVar 1) (za2 (dC (.int 3)) dNil))) (dC (.int 8))) (dC (.int 3)))) (dNot (dTr (dT1 (zb8 zi4) (za2 (dT1 (zb8 zc5) (za2 (dVar 1) (za2 (dC (.int 4)) dNil))) dNil))))) (dRet (dC (.bl false))) zh4) (dSeq (zi3 (za3 2) (dC (.int 4)) bdHq) (dSeq (dAsg 3 (dT1 (zb8 zc5) (za2 (dT1 (zb8 zc7) (za2 (dVar 0) (za2 (dC (.int 0)) dNil))) (za2 (dC (.int 1)) dNil)))) (dSeq (dAsg 4 (d2 qA (dC (.int 1)) (d2 qR (dVar 3) (dC (.int 6))))) (dSeq (dAsg 5 (dT1 qX (za2 (dC (.int 11)) (za2 (dT1 qN (za2 (dT1 kLen (za2 (dVar 0) dNil)) (za2 (dC (.int 63)) dNil))) dNil)))) (dSeq (dIfS (dBo (d2 kEq (d2 qR (d2 qV (dVar 3) (dC (.int 6))) (dC (.int 8))) (dC (.int 5)))) (dSeq (dAsg 4 (d2 qA (dC (.int 7)) (d2 qR (d2 qV (dVar 3) (dC (.int 48))) (dC (.int 6))))) (dAsg 5 (dT1 qN (za2 (dVar 5) (za2 (dC (.int 30)) dNil))))) zh4) (dSeq (dAsg 6 (dT1 (zb8 zi7) (za2 (dVar 0) (za2 (dC (.int 1)) (za2 (dVar 4) dNil))))) (dSeq (dFrz 6 (dAsg 7 (zg1 1 [] (fsL (dVar 6)) (za3 0) zc3 (dT1 zm7 (za2 (dVar 0) dNil))))) (dSeq (zba5 (za3 2) (dC (.int 10)) (dVar 5) bdQ) (dSeq (zad6 (zh2 2 (zc0 (za3 8) (zc0 (za3 9) zh3))) (dT1 (zb8 zd0) (za2 (dVar 6) dNil))) (dRet (zas5 (d2 kIsB (dT1 (zb8 ze0) (za2 (dVar 6) (za2 (dVar 8) (za2 (dVar 9) dNil)))) (dC (.bl true))) (d2 kEq (dVar 6) (dVar 7)))))))))))))))
noncomputable def G_law:List D→Option Ev:=mkG 1 ["_law_script", "_law_cell_here", "_law_k", "_law_number", "_law_many", "_law_last", "_law_roads_here", "_law_kept", "_law_tour", "_law_tree", "_law_handed", "_law_found"] g_law
theorem ok_law (Fn:L2.Fun K "law" "law" s_law ad fd) (bu:Blt mg) (c_law_cell:Cal P w K mg base "_law_cell" 1 zc7) (c_law_mixed:Cal P w K mg base "_law_mixed" 1 zc5) (c_law_long_row:Cal P w K mg base "_law_long_row" 4 zi4) (c_law_heaps:Cal P w K mg base "_law_heaps" 4 zm4) (c_law_roads:Cal P w K mg base "_law_roads" 3 zi7) (c_law_paper:Cal P w K mg base "_law_paper" 3 zi8) (c_lets_tour:Cal P w K mg base "lets_tour" 3 ze0) (c_law_lets:Cal P w K mg base "_law_lets" 2 zg2) (c_tour_by_tree:Cal P w K mg base "tour_by_tree" 2 zd0):FnOk P w K mg base CX0 5 ad fd ["_law_script"] (spD K G_law):=by
 have SC:=sc_law
 refine zh9 (k:=4) Fn SC (fun _ _ e=>zf3 e) g_law (fun _ _ e=>zh8 e) (fun cdv A outer s H E F hr=>?_)
 refine za4 ?_ ?_
 ·exact (zb1 (i:=1) SC.nd rfl (za8 rfl) (zb2 c_law_cell (hr.mono (by decide)) (za1 (za0 0) (za1 za6 za5))))
 refine za4 ?_ ?_
 ·exact (zf6 (L2.PW.pt (zag1 (zc9 (zs9 hr.units) (za9 zd6 (zb2 c_law_mixed (hr.mono (by decide)) (za1 (za0 1) (za1 za6 za5))) za6) za6) (zy9 (zaa6 (zo0 (zb2 c_law_long_row (hr.mono (by decide)) (za1 (zb2 c_law_mixed (hr.mono (by decide)) (za1 (za0 1) (za1 za6 za5))) za5))))))) (zb0 (ze1 zk8)) zd9)
 refine za4 ?_ ?_
 ·exact (zh6 PassesOwn.never rfl rfl bu.n_range za6 (zb3 (i:=2) SC.nd rfl (za8 rfl)) (zb4 2) (zb0 (zf6 (zaa6 (zo0 (zb2 c_law_heaps (hr.mono (by decide)) (za1 (zb2 c_law_mixed (hr.mono (by decide)) (za1 (za0 1) (za1 (za9 (od_add.or ze8) za6 (za0 2)) za5))) za5)))) (zb0 (ze1 zk8)) zd9)))
 refine za4 ?_ ?_
 ·exact (zb1 (i:=3) SC.nd rfl (za8 rfl) (zb2 c_law_mixed (hr.mono (by decide)) (za1 (zb2 c_law_cell (hr.mono (by decide)) (za1 (za0 0) (za1 za6 za5))) (za1 za6 za5))))
 refine za4 ?_ ?_
 ·exact (zb1 (i:=4) SC.nd rfl (za8 rfl) (za9 (od_add.or ze8) za6 (za9 zd6 (za0 3) za6)))
 refine za4 ?_ ?_
 ·exact (zb1 (i:=5) SC.nd rfl (za8 rfl) (zb7 (zbk4 rfl) rfl bu.n_max (by decide +kernel) (za1 za6 (za1 (zb7 (cd_min rfl) rfl bu.n_min (by decide +kernel) (za1 (zb7 zk2 rfl bu.n_len PySem.boot_len (za1 (za0 0) za5)) (za1 za6 za5))) za5))))
 refine za4 ?_ ?_
 ·exact (zf6 (zc9 (zs9 hr.units) (za9 zd6 (za9 zk0 (za0 3) za6) za6) za6) (za4 (zb1 (i:=4) SC.nd rfl (za8 rfl) (za9 (od_add.or ze8) za6 (za9 zd6 (za9 zk0 (za0 3) za6) za6)))
  (zb0 (zb1 (i:=5) SC.nd rfl (za8 rfl) (zb7 (cd_min rfl) rfl bu.n_min (by decide +kernel) (za1 (za0 5) (za1 za6 za5)))))) zd9)
 refine za4 ?_ ?_
 ·exact (zb1 (i:=6) SC.nd rfl (za8 rfl) (zb2 c_law_roads (hr.mono (by decide)) (za1 (za0 0) (za1 za6 (za1 (za0 4) za5)))))
 refine za4 ?_ ?_
 ·exact (zo1 6 (zo6 (i:=7) 1 [] ["_law_row_here"] SC.nd rfl (Or.inl rfl) rfl (zl2 (za0 6)) (fun _ _ _ _ _=>(zb3 (i:=0) (show List.Nodup (["_law_row_here"]:List Str) by decide +kernel) rfl (za8 rfl))) (fun _=>(zb4 0)) (fun _ _ _ _ _ _=>zd4) (fun _ _ _ _ _ _=>(zg9 zq6 rfl bu.n_list bt_list (za1 (za0 0) za5)))))
 refine za4 ?_ ?_
 ·exact (zav2 PassesOwn.never rfl rfl bu.n_range za6 (za0 5) (zb3 (i:=2) SC.nd rfl (za8 rfl)) (zb4 2) (za4 (zaq0 (zb2 c_law_paper (hr.mono (by decide)) (za1 (za0 6) (za1 (zb2 c_law_cell (hr.mono (by decide)) (za1 (za0 0) (za1 (za0 2) za5))) za5))) (pg_lst rfl (ze5 (zb3 (i:=8) SC.nd rfl (za8 rfl)) (ze5 (zb3 (i:=9) SC.nd rfl (za8 rfl)) zo2))) (tg_lst (zf1 (zb4 8) (zf1 (zb4 9) zp1))))
  (za4 (zb1 (i:=10) SC.nd rfl (za8 rfl) (zf5 (za1 (zg9 zq6 rfl bu.n_list bt_list (za1 (za0 8) za5)) (za1 (zg9 zq6 rfl bu.n_list bt_list (za1 (za0 9) za5)) za5))))
  (za4 (zb1 (i:=11) SC.nd rfl (za8 rfl) (zb2 c_lets_tour (hr.mono (by decide)) (za1 (za0 6) (za1 (zc6 (za0 10) za6) (za1 (zc6 (za0 10) za6) za5)))))
  (zb0 (zf6 (L2.PW.pt (zx9 (zaa6 (zo0 (ped_isi isi_bool (za0 11) rfl bu.n_isinstance rfl bu.n_bool bt_bool))) (zx9 (zc9 (zy4 hr.units) (za0 11) (zb2 c_law_lets (hr.mono (by decide)) (za1 (za0 6) (za1 (za0 8) (za1 (za0 9) za5))))) (zt6 (zc9 (zy4 hr.units) (za0 10) (zf5 (za1 (za0 8) (za1 (za0 9) za5)))))))) (zb0 (ze1 zk8)) zd9))))))
 refine za4 ?_ ?_
 ·exact (zaq0 (zb2 c_tour_by_tree (hr.mono (by decide)) (za1 (za0 6) za5)) (zv9 rfl (ze5 (zb3 (i:=8) SC.nd rfl (za8 rfl)) (ze5 (zb3 (i:=9) SC.nd rfl (za8 rfl)) zo2))) (zx8 (zf1 (zb4 8) (zf1 (zb4 9) zp1))))
 exact zb0 (ze1 (zaq4 (zq2 od_isB (zb2 c_lets_tour (hr.mono (by decide)) (za1 (za0 6) (za1 (za0 8) (za1 (za0 9) za5)))) zk8) (zbe4 (zq2 (zs9 hr.units) (za0 6) (za0 7)))))
end KX
namespace KX
open PySem.Spec L2 DL
theorem sm_of {i:Int} (h0 : -1000000000000000000000000000000≤i) (h1:i≤1000000000000000000000000000000):sm i=true:=by
 unfold sm
 refine decide_eq_true ?_
 have e:(2:Nat) ^ 100=1267650600228229401496703205376:=by decide
 have l:i.natAbs<2 ^ 100:=by rw [e];lia
 refine zbo7 l ?_
 unfold DL.bnd
 exact zbw1 (by decide) (by decide)
theorem fm {a b:Int} (h:0<b):0≤a.fmod b∧a.fmod b<b:=fmod_pos h
theorem mixed_lt (c:Int) (k:Nat) (hk:k<100000):∃m:Int,zc5 [.int c,.int (k:Int)]=some (.cl (.int m))∧0≤m∧m<2147483563:=by
 have f1:=@fm c 2147483629 (by decide)
 have hkk:(k:Int)*(k:Int)<10000000000:=by
  have:k*k≤99999*99999:=zby5 (by lia) (by lia)
  have e:((k*k:Nat):Int)=(k:Int)*(k:Int):=by simp
  rw [← e];lia
 have hkk0:0≤(k:Int)*(k:Int):=by
  have e:((k*k:Nat):Int)=(k:Int)*(k:Int):=by simp
  rw [← e];lia
 generalize hq:(k:Int)*(k:Int)=q at hkk hkk0
 have f2:=@fm ((c.fmod 2147483629+q*7919+(k:Int)+1)*48271) 2147483587 (by decide)
 generalize h2:((c.fmod 2147483629+q*7919+(k:Int)+1)*48271).fmod 2147483587=n2 at f2
 have f2b:n2*n2≤2147483587*2147483587:=Int.mul_le_mul (by lia) (by lia) (by lia) (by decide)
 have f3:=@fm (n2*n2) 2147483629 (by decide)
 generalize h3:(n2*n2).fmod 2147483629=n3 at f3
 have f4:=@fm ((n3+(k:Int))*69621) 2147483563 (by decide)
 refine⟨((n3+(k:Int))*69621).fmod 2147483563,?_,f4⟩
 refine bnd (g:=zq5 [.val (.int c),.val (.int (k:Int)),.no]) ?_
 unfold zq5
 rw [za7 (ze3 (d:=.int n2) (by
  rw [← h2, ← hq]
  exact zd7 (zq8 (zg6 (zg6 (zg6 (zd7 rfl rfl (by decide)) (zq8 (zq8 rfl rfl (sm_of (by lia) (by lia)) (sm_of (by lia) (by lia))) rfl (by rw [hq];exact sm_of (by lia) (by lia)) (by decide +kernel))) rfl) rfl) rfl (by rw [hq];exact sm_of (by lia) (by lia)) (by decide +kernel)) rfl (by decide)) (by simp))]
 rw [za7 (ze3 (d:=.int n3) (by
  rw [← h3]
  exact zd7 (zq8 rfl rfl (sm_of (by lia) (by lia)) (sm_of (by lia) (by lia))) rfl (by decide)) (by simp))]
 unfold dRet
 rw [zd7 (zq8 (zg6 (a:=n3) (b:=(k:Int)) rfl rfl) rfl (sm_of (by lia) (by lia)) (by decide +kernel)) rfl (by decide)]
 rfl
theorem zq3 (c:Int) (k:Nat) (hk:k<100000):∃m:Int,zc5 [.int c,.int (k:Int)]=some (.cl (.int m))∧0≤m :=
 let ⟨m,e,h⟩:=mixed_lt c k hk
 ⟨m,e,h.1⟩
theorem zad2 (ns:List Int) (hl:ns.length≤63) (k:Nat) (hk:k<100000):∃c:Int,zc7 [.lst (ns.map D.int),.int (k:Int)]=some (.cl (.int c)):=by
 have len:∀s2,(dT1 kLen (za2 (dVar 0) dNil)) [.val (.lst (ns.map D.int)),.val (.int (k:Int)),s2]=some (.cl (.int (ns.length:Int))):=fun s2=>zaw2 (xs:=ns) rfl rfl
 by_cases h:k<ns.length
 ·refine⟨ns.getD k 0,bnd (g:=zi9 [.val (.lst (ns.map D.int)),.val (.int (k:Int)),.no]) ?_⟩
  unfold zi9
  refine seq_rt ?_
  rw [zr7 (zaz9 rfl (len .no)) (decide_eq_true (by lia))]
  unfold dRet
  rw [zw3 ns k rfl rfl h rfl rfl]
  rfl
 ·have hkk:(k:Int)*(k:Int)<10000000000:=by
   have:k*k≤99999*99999:=zby5 (by lia) (by lia)
   have e:((k*k:Nat):Int)=(k:Int)*(k:Int):=by simp
   rw [← e];lia
  have hkk0:0≤(k:Int)*(k:Int):=by
   have e:((k*k:Nat):Int)=(k:Int)*(k:Int):=by simp
   rw [← e];lia
  generalize hq:(k:Int)*(k:Int)=q at hkk hkk0
  have fin:∀n:Int,0≤n→n≤100000000000→∀s0 s1,dRet (d2 qR (d2 qM (dVar 2) (dVar 2)) (dC (.int 2147483629))) [s0,s1,.val (.int n)]=some (.rt (.cl (.int ((n*n).fmod 2147483629)))):=fun n h0 h1 s0 s1=>by
   unfold dRet
   rw [zd7 (zq8 (a:=n) (b:=n) rfl rfl (sm_of (by lia) (by lia)) (sm_of (by lia) (by lia))) rfl (by decide)]
   rfl
  have a1:dAsg 2 (d2 qA (d2 qM (dVar 1) (dVar 1)) (dC (.int 7919))) [.val (.lst (ns.map D.int)),.val (.int (k:Int)),.no]=some (.nx [.val (.lst (ns.map D.int)),.val (.int (k:Int)),.val (.int (q+7919))]):=by
   rw [← hq]
   exact ze3 (zg6 (zq8 rfl rfl (sm_of (by lia) (by lia)) (sm_of (by lia) (by lia))) rfl) (by simp)
  cases ns with
  |nil =>
   refine⟨((q+7919)*(q+7919)).fmod 2147483629,bnd (g:=zi9 [.val (.lst (([]:List Int).map D.int)),.val (.int (k:Int)),.no]) ?_⟩
   unfold zi9
   rw [za7 (grd (zaz9 rfl (len .no)) (decide_eq_false (by simp))),za7 a1,za7 (grd (gt_of (len _) rfl) (by simp))]
   exact fin _ (by lia) (by lia) _ _
  |cons n0 r0 =>
   have f0:=@fm ((k:Int)*7) ((n0::r0).length:Int) (by simp)
   obtain⟨m,hm⟩:=Int.eq_ofNat_of_zero_le f0.1
   have hml:m<(n0::r0).length:=by lia
   have f1:=@fm ((n0::r0).getD m 0) 2147483629 (by decide)
   refine⟨((q+7919+((n0::r0).getD m 0).fmod 2147483629)*(q+7919+((n0::r0).getD m 0).fmod 2147483629)).fmod 2147483629,bnd (g:=zi9 [.val (.lst ((n0::r0).map D.int)),.val (.int (k:Int)),.no]) ?_⟩
   unfold zi9
   rw [za7 (grd (zaz9 rfl (len .no)) (decide_eq_false (by lia))),za7 a1]
   have a2:dAsg 2 (d2 qA (dVar 2) (d2 qR (d2 kIx (dVar 0) (d2 qR (d2 qM (dVar 1) (dC (.int 7))) (dT1 kLen (za2 (dVar 0) dNil)))) (dC (.int 2147483629)))) [.val (.lst ((n0::r0).map D.int)),.val (.int (k:Int)),.val (.int (q+7919))]=some (.nx [.val (.lst ((n0::r0).map D.int)),.val (.int (k:Int)),.val (.int (q+7919+((n0::r0).getD m 0).fmod 2147483629))]):=by
    refine ze3 (zg6 rfl (zd7 (zw3 (r2:=.cl (.int (m:Int))) (n0::r0) m rfl ?_ hml rfl rfl) rfl (by decide))) (by simp)
    rw [← hm]
    exact zd7 (zq8 (a:=(k:Int)) (b:=7) rfl rfl (sm_of (by lia) (by lia)) (by decide +kernel)) (len _) (by simp;lia)
   have a3:(dIfS (dBo (d2 qG (dT1 kLen (za2 (dVar 0) dNil)) (dC (.int 0)))) (dAsg 2 (d2 qA (dVar 2) (d2 qR (d2 kIx (dVar 0) (d2 qR (d2 qM (dVar 1) (dC (.int 7))) (dT1 kLen (za2 (dVar 0) dNil)))) (dC (.int 2147483629))))) zh4) [.val (.lst ((n0::r0).map D.int)),.val (.int (k:Int)),.val (.int (q+7919))]=some (.nx [.val (.lst ((n0::r0).map D.int)),.val (.int (k:Int)),.val (.int (q+7919+((n0::r0).getD m 0).fmod 2147483629))]):=by
    rw [zr7 (gt_of (len _) rfl) (decide_eq_true (by simp))]
    exact a2
   rw [za7 a3]
   exact fin _ (by lia) (by lia) _ _
structure Rds (n:Nat) (M:List (List Int)):Prop where
 sq:Sq n M
 nn:∀i j:Nat,i<n→j<n→0≤(M.getD i []).getD j 0
 dg:∀i:Nat,i<n→(M.getD i []).getD i 0=0
theorem eqv_of {fa fb:DE}{t:Th}{a b:Int} (h1:fa t=some (.cl (.int a))) (h2:fb t=some (.cl (.int b))):(d2 kEq fa fb) t=some (.cl (.bl (decide (a=b)))):=by
 rw [zh5 h1 h2]
 have:kEq (.cl (.int a)) (.cl (.int b))=some (.cl (.bl (eqD (.int a) (.int b)))):=rfl
 rw [this,zah5]
noncomputable abbrev tRw (c:Int) (s1:Sl) (q:Int) (b:Bool) (xs:List Int) (s5 s6:Sl):Th:=[.val (.int c),s1,.val (.lst [.int q]),.val (.bl b),.own (xs.map D.int),s5,s6]
theorem turn_rw (c:Int) (s1:Sl) {q:Int} (q0:0<q) (q1:q≤1000000000000000) (b:Bool) (xs:List Int) (hl:xs.length<100000) (k:Nat) (hk:k<100000) (s6:Sl):∃x c',0≤x∧x<q∧bdRw (tRw c s1 q b xs (.val (.int (k:Int))) s6)=some (.nx (tRw c' s1 q b (xs++[x]) (.val (.int (k:Int))) (.val (.int q)))):=by
 have e1:(d2 kIx (dVar 2) (d2 qR (dVar 5) (dT1 kLen (za2 (dVar 2) dNil)))) (tRw c s1 q b xs (.val (.int (k:Int))) s6)=some (.cl (.int q)):=by
  have m:=zd7 (fa:=dVar 5) (fb:=dT1 kLen (za2 (dVar 2) dNil)) (t:=tRw c s1 q b xs (.val (.int (k:Int))) s6) (a:=(k:Int)) (b:=1) rfl rfl (by decide)
  have z:(k:Int).fmod 1=0:=by have:=fm (a:=(k:Int)) (b:=1) (by decide);lia
  rw [z]at m
  exact (zh5 (rfl:dVar 2 _=some (.cl (.lst [.int q]))) m).trans rfl
 have E1:=ze3 (i:=6) e1 (by simp)
 let t:Th:=tRw c s1 q b xs (.val (.int (k:Int))) (.val (.int q))
 have cc:dTr (dVar 3) t=some b:=rfl
 unfold bdRw
 cases b with
 |true =>
  refine⟨c.fmod q,c.fdiv q,(fm q0).1,(fm q0).2,(za7 E1).trans ?_⟩
  refine (zr7 cc rfl).trans ?_
  have a1:=zx7 (i:=4) t (xs:=xs) (zd7 (fa:=dVar 0) (fb:=dVar 6) (t:=t) (a:=c) (b:=q) rfl rfl (by lia)) rfl hl
  refine (za7 a1).trans ?_
  exact ze3 (i:=0) (zk1 (fa:=dVar 0) (fb:=dVar 6) (a:=c) (b:=q) rfl rfl (by lia) (sm_of (by lia) (by lia))) (by simp [t])
 |false =>
  obtain⟨m,em,_⟩:=zq3 c k hk
  refine⟨m.fmod q,c,(fm q0).1,(fm q0).2,(za7 E1).trans ?_⟩
  refine (ifs_f cc rfl).trans ?_
  have e2:(dT1 (zb8 zc5) (za2 (dVar 0) (za2 (dVar 5) dNil))) t=some (.cl (.int m)):=(zl0 (rfl:dVar 0 t=some (.cl (.int c))) (rfl:dVar 5 t=some (.cl (.int (k:Int))))).trans (zl6 em rfl)
  exact zx7 (i:=4) t (xs:=xs) (zd7 e2 (fb:=dVar 6) (b:=q) rfl (by lia)) rfl hl
theorem row_is (c:Int) {q:Int} (q0:0<q) (q1:q≤1000000000000000) (b:Bool) (m:Nat) (hm:m≤1000):∃xs:List Int,xs.length=m∧(∀x∈xs,0≤x∧x<q)∧zs3 [.int c,.int (m:Int),.lst [.int q],.bl b]=some (.nw (xs.map D.int)):=by
 have L:∀(l:List Nat) (xs:List Int) (c:Int) (s5 s6:Sl),(∀k∈l,k<100000)→xs.length+l.length<100000→(∀x∈xs,0≤x∧x<q)→∃(ys:List Int) (c':Int) (u5 u6:Sl),ys.length=xs.length+l.length∧(∀x∈ys,0≤x∧x<q)∧forD (za3 5) bdRw (l.map fun (k:Nat)=>D.int (k:Int)) (tRw c (.val (.int (m:Int))) q b xs s5 s6)=some (.nx (tRw c' (.val (.int (m:Int))) q b ys u5 u6)):=by
  intro l
  induction l with
  |nil=>exact fun xs c s5 s6 _ _ hx=>⟨xs,c,s5,s6,rfl,hx,rfl⟩
  |cons k l ih =>
   intro xs c s5 s6 hk hl hx
   simp only [zbp9]at hl
   obtain⟨x,c',x0,x1,e⟩:=turn_rw c (.val (.int (m:Int))) q0 q1 b xs (by lia) k (hk k (zbn1 ..)) s6
   obtain⟨ys,c2,u5,u6,yl,yr,e'⟩:=ih (xs++[x]) c' (.val (.int (k:Int))) (.val (.int q)) (fun j hj=>hk j (zbm9 _ hj)) (by simp only [zbp6,zbr2];lia) (fun y hy=>by
    rcases zbn2.mp hy with w | w
    ·exact hx y w
    ·rw [zbn3]at w;subst w;exact⟨x0,x1⟩)
   refine⟨ys,c2,u5,u6,by simp only [zbp6,zbr2]at yl;simp only [zbp9];lia,yr,?_⟩
   have e0:za3 5 (.int (k:Int)) (tRw c (.val (.int (m:Int))) q b xs s5 s6)=some (tRw c (.val (.int (m:Int))) q b xs (.val (.int (k:Int))) s6):=rfl
   simp only [zbn7,forD,e0,zbn0,e]
   exact e'
 obtain⟨ys,c',u5,u6,yl,yr,e⟩:=L (zbp2 m) [] c .no .no (fun k hk=>by have:=zbw2.mp hk;lia) (by simp;lia) (fun x hx=>by cases hx)
 refine⟨ys,by simpa using yl,yr,?_⟩
 show (zab9 [.val (.int c),.val (.int (m:Int)),.val (.lst [.int q]),.val (.bl b),.no,.no,.no]).bind zm2=_
 have E1:dAsg 4 (dT1 kLst dNil) [.val (.int c),.val (.int (m:Int)),.val (.lst [.int q]),.val (.bl b),.no,.no,.no]=some (.nx (tRw c (.val (.int (m:Int))) q b [] .no .no)):=rfl
 have en:(zb9 m).map D.int=(zbp2 m).map fun (k:Nat)=>D.int (k:Int):=by unfold zb9;rw [zbu5];rfl
 have E2:zi3 (za3 5) (dVar 1) bdRw (tRw c (.val (.int (m:Int))) q b [] .no .no)=some (.nx (tRw c' (.val (.int (m:Int))) q b ys u5 u6)):=(zm0 (r:=.cl (.int (m:Int))) (n:=m) rfl rfl (by lia)).trans ((congrArg (fun l=>forD (za3 5) bdRw l (tRw c (.val (.int (m:Int))) q b [] .no .no)) en).trans e)
 refine bnd ?_
 refine (za7 E1).trans ?_
 refine (za7 E2).trans ?_
 rfl
theorem zaa5 {n:Nat}{M:List (List Int)} (R:Rds n M) {i j:Nat}{v:Int} (hi:i<n) (hj:j<n) (hij:i≠j) (v0:0≤v):Rds n (setM M i j v):=by
 refine⟨zbd0 R.sq v hi,fun a b ha hb=>?_,fun a ha=>?_⟩
 ·rw [zm8 R.sq v hi hj]
  split
  ·exact v0
  ·exact R.nn a b ha hb
 ·rw [zm8 R.sq v hi hj,if_neg (fun w=>hij (by rw [← w.1, ← w.2])),R.dg a ha]
theorem zav0 (n:Nat):Rds n (zbn4 n (zbn4 n 0)):=by
 have g:∀i j:Nat,((zbn4 n (zbn4 n (0:Int))).getD i []).getD j 0=0:=fun i j=>by
  simp only [zbo1,zbq1]
  split
  ·simp only [zbu0,zbq1]
   split<;>rfl
  ·rfl
 exact⟨⟨by simp,fun r hr=>by rw [List.mem_replicate]at hr;rw [hr.2];simp⟩,fun i j _ _=>by rw [g];exact zbw8 _,fun i _=>g i i⟩
noncomputable abbrev eM (M:List (List Int)) (i j:Nat):Int:=(M.getD i []).getD j 0
noncomputable def SyM (n:Nat) (M:List (List Int)):Prop := ∀i j:Nat,i<n→j<n→eM M i j=eM M j i
noncomputable def nxM (M:List (List Int)) (t i j:Nat):Int:=if eM M i t+eM M t j<eM M i j then eM M i t+eM M t j else eM M i j
noncomputable def TrM (n k:Nat) (M:List (List Int)):Prop := ∀t i j:Nat,t<k→i<n→j<n→eM M i j≤eM M i t+eM M t j
theorem nx_row {n:Nat}{M:List (List Int)} (R:Rds n M) {t i:Nat} (ht:t<n) (hi:i<n):nxM M t i t=eM M i t:=by
 have:=R.dg t ht
 unfold nxM eM
 rw [this]
 split<;>lia
theorem nx_col {n:Nat}{M:List (List Int)} (R:Rds n M) {t j:Nat} (ht:t<n) (hj:j<n):nxM M t t j=eM M t j:=by
 have:=R.dg t ht
 unfold nxM eM
 rw [this]
 split<;>lia
theorem nx_le {M:List (List Int)} (t i j:Nat):nxM M t i j≤eM M i j∧nxM M t i j≤eM M i t+eM M t j∧(nxM M t i j=eM M i j∨nxM M t i j=eM M i t+eM M t j):=by
 unfold nxM
 split<;>lia
theorem nx_tri {n k:Nat}{M M':List (List Int)} (R:Rds n M) (T:TrM n k M) (hk:k<n) (h:∀i j:Nat,i<n→j<n→eM M' i j=nxM M k i j):TrM n (k+1) M':=by
 intro t i j ht hi hj
 rw [h i j hi hj,h i t hi (by lia),h t j (by lia) hj]
 obtain⟨a1,a2,a3⟩:=nx_le (M:=M) k i j
 by_cases e:t=k
 ·subst e
  rw [nx_row R hk hi,nx_col R hk hj]
  exact a2
 ·have tk:t<k:=by lia
  obtain⟨b1,b2,b3⟩:=nx_le (M:=M) k i t
  obtain⟨c1,c2,c3⟩:=nx_le (M:=M) k t j
  have q1:=T t i j tk hi hj
  have q2:=T t i k tk hi hk
  have q3:=T t k j tk hk hj
  have z1:0≤eM M k t:=R.nn k t hk (by lia)
  have z2:0≤eM M t k:=R.nn t k (by lia) hk
  rcases b3 with b | b<;>rcases c3 with c | c<;>rw [b,c]<;>lia
theorem nx_sym {n k:Nat}{M M':List (List Int)} (S:SyM n M) (hk:k<n) (h:∀i j:Nat,i<n→j<n→eM M' i j=nxM M k i j):SyM n M':=by
 intro i j hi hj
 rw [h i j hi hj,h j i hj hi]
 unfold nxM
 rw [S i j hi hj,S i k hi hk,S k j hk hj,Int.add_comm]
theorem zbc4 {n:Nat}{M:List (List Int)} (Q:Sq n M) (S:SyM n M) {i j:Nat}{v:Int} (hi:i<n) (hj:j<n):SyM n (setM (setM M i j v) j i v):=by
 intro a b ha hb
 have Q1:=zbd0 Q v hi (j:=j)
 show eM (setM (setM M i j v) j i v) a b=eM (setM (setM M i j v) j i v) b a
 unfold eM
 rw [zm8 Q1 v hj hi,zm8 Q1 v hj hi,zm8 Q v hi hj,zm8 Q v hi hj]
 have s:(M.getD a []).getD b 0=(M.getD b []).getD a 0:=S a b ha hb
 by_cases c1:a=j∧b=i
 ·rw [if_pos c1]
  by_cases c2:b=j∧a=i
  ·rw [if_pos c2]
  ·rw [if_neg c2,if_pos ⟨c1.2,c1.1⟩]
 ·rw [if_neg c1]
  by_cases c2:b=j∧a=i
  ·rw [if_pos c2,if_pos ⟨c2.2,c2.1⟩]
  ·rw [if_neg c2,if_neg (fun z=>c2 ⟨z.2,z.1⟩),if_neg (fun z=>c1 ⟨z.2,z.1⟩)]
   exact s
theorem zbc3 (n:Nat):SyM n (zbn4 n (zbn4 n 0)):=by
 have g:∀i j:Nat,((zbn4 n (zbn4 n (0:Int))).getD i []).getD j 0=0:=fun i j=>by
  simp only [zbo1,zbq1]
  split
  ·simp only [zbu0,zbq1]
   split<;>rfl
  ·rfl
 intro i j _ _
 exact (g i j).trans (g j i).symm
noncomputable def BdM (n:Nat) (M:List (List Int)):Prop := ∀i j:Nat,i<n→j<n→eM M i j≤1000000000000
theorem zay0 {n:Nat}{M:List (List Int)} (Q:Sq n M) (S:BdM n M) {i j:Nat}{v:Int} (hi:i<n) (hj:j<n) (hv:v≤1000000000000):BdM n (setM M i j v):=by
 intro a b ha hb
 unfold eM
 rw [zm8 Q v hi hj]
 split
 ·exact hv
 ·exact S a b ha hb
theorem zbl8 (n:Nat):BdM n (zbn4 n (zbn4 n 0)):=by
 have g:∀i j:Nat,((zbn4 n (zbn4 n (0:Int))).getD i []).getD j 0=0:=fun i j=>by
  simp only [zbo1,zbq1]
  split
  ·simp only [zbu0,zbq1]
   split<;>rfl
  ·rfl
 intro i j _ _
 show ((zbn4 n (zbn4 n (0:Int))).getD i []).getD j 0≤_
 rw [g]
 decide
theorem natsI_dr {n k:Nat} (hk:k<n):(zb9 n).drop k=(k:Int) ::(zb9 n).drop (k+1):=by
 rw [zbp1 (by rw [ze2];exact hk)]
 congr 1
 simp [zb9]
theorem for_K {n i:Nat}{b:DS}{P:Nat→Th→Prop} (hb:∀(x:Nat),x<n→∀t,P x t→∃t1 t2,za3 i (.int (x:Int)) t=some t1∧b t1=some (.nx t2)∧P (x+1) t2):∀(j k:Nat) (t:Th),k+j=n→P k t→∃t',forD (za3 i) b (((zb9 n).drop k).map D.int) t=some (.nx t')∧P n t'
 |0,k,t,e,h=>by
  have:k=n:=by lia
  subst this
  rw [show (zb9 k).drop k=[] from List.drop_eq_nil_of_le (by rw [ze2];exact zbp4 _)]
  exact⟨t,rfl,h⟩
 |j+1,k,t,e,h=>by
  obtain⟨t1,t2,e1,e2,h2⟩:=hb k (by lia) t h
  obtain⟨t',e',h'⟩:=for_K hb j (k+1) t2 (by lia) h2
  refine⟨t',?_,h'⟩
  rw [natsI_dr (by lia)]
  simp only [zbn7,forD,e1,zbn0,e2]
  exact e'
theorem rng_K {n:Nat} (hn:n≤1000) {i:Nat}{b:DS}{P:Nat→Th→Prop}{f:DE} (hb:∀(x:Nat),x<n→∀t,P x t→∃t1 t2,za3 i (.int (x:Int)) t=some t1∧b t1=some (.nx t2)∧P (x+1) t2) (t:Th) (hf:f t=some (.cl (.int (n:Int)))) (h:P 0 t):∃t',zi3 (za3 i) f b t=some (.nx t')∧P n t':=by
 obtain⟨t',e,h'⟩:=for_K hb n 0 t (by lia) h
 exact⟨t',(zm0 (n:=n) hf rfl (by lia)).trans e,h'⟩
noncomputable abbrev tR (a b c d e:Sl) (M:List (List Int)) (s6 s7 s8 s9 s10 s11:Sl):Th:=[a,b,c,d,e,.dp (mD M),s6,s7,s8,s9,s10,s11]
theorem turn_I1 (a b c d e s9 s10 s11:Sl) {n:Nat}{M:List (List Int)} (R:Rds n M) (Y:SyM n M∧BdM n M) {o k:Nat}{ts:List Int} (hk:k<ts.length) (h0:∀x∈ts,0≤x∧x≤1000000000000) (hn:o+1+k<n):∃M',(Rds n M'∧SyM n M'∧BdM n M')∧bdI1 (tR a b c d e M (.val (.int (o:Int))) (.own (ts.map D.int)) (.val (.int (k:Int))) s9 s10 s11)=some (.nx (tR a b c d e M' (.val (.int (o:Int))) (.own (ts.map D.int)) (.val (.int (k:Int))) s9 s10 s11)):=by
 obtain⟨v0,v1⟩:0≤ts.getD k 0∧ts.getD k 0≤1000000000000:=h0 _ (by rw [zbo1,zbn9 hk];exact zbz4 hk)
 have R1:=zaa5 (v:=ts.getD k 0) R (i:=o) (j:=o+1+k) (by lia) hn (by lia) v0
 have R2:=zaa5 (v:=ts.getD k 0) R1 (i:=o+1+k) (j:=o) hn (by lia) (by lia) v0
 have pk:∀M',pK (tR a b c d e M' (.val (.int (o:Int))) (.own (ts.map D.int)) (.val (.int (k:Int))) s9 s10 s11)=some (.cl (.int (((o+1+k:Nat)):Int))):=fun M'=>by
  have:=zg6 (zg6 (fa:=dVar 6) (fb:=dC (.int 1)) (t:=tR a b c d e M' (.val (.int (o:Int))) (.own (ts.map D.int)) (.val (.int (k:Int))) s9 s10 s11) (a:=(o:Int)) (b:=1) rfl rfl) (rfl:dVar 8 _=some (.cl (.int (k:Int))))
  rw [show ((o+1+k:Nat):Int)=(o:Int)+1+(k:Int) by lia]
  exact this
 have tv:∀M',(d2 kIx (dVar 7) (dVar 8)) (tR a b c d e M' (.val (.int (o:Int))) (.own (ts.map D.int)) (.val (.int (k:Int))) s9 s10 s11)=some (.cl (.int (ts.getD k 0))):=fun M'=>zw3 (fa:=dVar 7) (fb:=dVar 8) (r1:=.tm (.lst (ts.map D.int))) (r2:=.cl (.int (k:Int))) ts k rfl rfl hk rfl rfl
 have E1:=zz9 (s:=5) (fi:=dVar 6) (ri:=.cl (.int (o:Int))) R.sq (tv M) rfl rfl rfl (pk M) rfl rfl (i:=o) (j:=o+1+k) (by lia) hn
 have E2:=zz9 (s:=5) (fk:=dVar 6) (rk:=.cl (.int (o:Int))) R1.sq (tv _) rfl (pk _) rfl rfl rfl rfl (i:=o+1+k) (j:=o) hn (by lia)
 exact⟨_,⟨R2,zbc4 R.sq Y.1 (by lia) hn,zay0 R1.sq (zay0 R.sq Y.2 (by lia) hn v1) hn (by lia) v1⟩,(za7 E1).trans E2⟩
theorem turn_O1 (ns:List Int) (hl:ns.length≤63) (st:Nat) (hs:st≤1000) {n:Nat} (n1:n≤1000) {q:Int} (q0:0<q) (q1:q≤1000000000001) (pl:Bool) (s9 s10 s11:Sl) {M:List (List Int)} (R:Rds n M∧SyM n M∧BdM n M) {o:Nat} (ho:o<n) (s7 s8:Sl):∃M' u7 u8,(Rds n M'∧SyM n M'∧BdM n M')∧bdO1 (tR (.val (.lst (ns.map D.int))) (.val (.int (st:Int))) (.val (.int (n:Int))) (.val (.bl pl)) (.val (.int q)) M (.val (.int (o:Int))) s7 s8 s9 s10 s11)=some (.nx (tR (.val (.lst (ns.map D.int))) (.val (.int (st:Int))) (.val (.int (n:Int))) (.val (.bl pl)) (.val (.int q)) M' (.val (.int (o:Int))) u7 u8 s9 s10 s11)):=by
 let t:Th:=tR (.val (.lst (ns.map D.int))) (.val (.int (st:Int))) (.val (.int (n:Int))) (.val (.bl pl)) (.val (.int q)) M (.val (.int (o:Int))) s7 s8 s9 s10 s11
 obtain⟨c,ec⟩:=zad2 ns hl (st+1+o) (by lia)
 obtain⟨ts,tl,t0,er⟩:=row_is c q0 (by lia) pl (n - 1 - o) (by lia)
 have em:∀s7',mR (tR (.val (.lst (ns.map D.int))) (.val (.int (st:Int))) (.val (.int (n:Int))) (.val (.bl pl)) (.val (.int q)) M (.val (.int (o:Int))) s7' s8 s9 s10 s11)=some (.cl (.int ((n - 1 - o:Nat):Int))):=fun s7'=>by
  have:=zt0 (zt0 (fa:=dVar 2) (fb:=dC (.int 1)) (t:=tR (.val (.lst (ns.map D.int))) (.val (.int (st:Int))) (.val (.int (n:Int))) (.val (.bl pl)) (.val (.int q)) M (.val (.int (o:Int))) s7' s8 s9 s10 s11) (a:=(n:Int)) (b:=1) rfl rfl) (rfl:dVar 6 _=some (.cl (.int (o:Int))))
  rw [show ((n - 1 - o:Nat):Int)=(n:Int) - 1 - (o:Int) by lia]
  exact this
 have e1:(dT1 (zb8 zc7) (za2 (dVar 0) (za2 (d2 qA (d2 qA (dVar 1) (dC (.int 1))) (dVar 6)) dNil))) t=some (.cl (.int c)):=by
  have a:=zg6 (zg6 (fa:=dVar 1) (fb:=dC (.int 1)) (t:=t) (a:=(st:Int)) (b:=1) rfl rfl) (rfl:dVar 6 t=some (.cl (.int (o:Int))))
  rw [show (st:Int)+1+(o:Int)=((st+1+o:Nat):Int) by lia]at a
  exact (zl0 (rfl:dVar 0 t=some (.cl (.lst (ns.map D.int)))) a).trans (zl6 ec rfl)
 have e2:(dT1 (zb8 zs3) (za2 (dT1 (zb8 zc7) (za2 (dVar 0) (za2 (d2 qA (d2 qA (dVar 1) (dC (.int 1))) (dVar 6)) dNil))) (za2 mR (za2 (dT1 kLst (za2 (dVar 4) dNil)) (za2 (dVar 3) dNil))))) t=some (.nw (ts.map D.int)) :=
  (t4_of e1 (em s7) (rfl:(dT1 kLst (za2 (dVar 4) dNil)) t=some (.nw [.int q])) (rfl:dVar 3 t=some (.cl (.bl pl)))).trans (calln er)
 have E1:=zn6 (i:=7) e2 (by simp [t])
 obtain⟨t',e3,M',u8,R',rfl⟩:=for_P (k:=za3 8) (b:=bdI1) (P:=fun t => ∃M' u8,(Rds n M'∧SyM n M'∧BdM n M')∧t=tR (.val (.lst (ns.map D.int))) (.val (.int (st:Int))) (.val (.int (n:Int))) (.val (.bl pl)) (.val (.int q)) M' (.val (.int (o:Int))) (.own (ts.map D.int)) u8 s9 s10 s11) ((zb9 (n - 1 - o)).map D.int) (fun d hd t ⟨M1,u8,R1,et⟩=>by
  obtain⟨x,hx,rfl⟩:=zbq8.mp hd
  have xr:=zg5 hx
  obtain⟨k,rfl⟩:∃k:Nat,x=(k:Int):=⟨x.toNat,by lia⟩
  subst et
  obtain⟨M2,R2,e⟩:=turn_I1 (.val (.lst (ns.map D.int))) (.val (.int (st:Int))) (.val (.int (n:Int))) (.val (.bl pl)) (.val (.int q)) s9 s10 s11 R1.1 R1.2 (o:=o) (k:=k) (ts:=ts) (by lia) (fun x hx=>⟨(t0 x hx).1,by have:=(t0 x hx).2;lia⟩) (by lia)
  exact⟨_,_,rfl,e,M2,_,R2,rfl⟩) (tR (.val (.lst (ns.map D.int))) (.val (.int (st:Int))) (.val (.int (n:Int))) (.val (.bl pl)) (.val (.int q)) M (.val (.int (o:Int))) (.own (ts.map D.int)) s8 s9 s10 s11) ⟨M,s8,R,rfl⟩
 refine⟨M',.own (ts.map D.int),u8,R',(za7 E1).trans ?_⟩
 exact (zm0 (n:=n - 1 - o) (em _) rfl (by lia)).trans e3
theorem turn_T1 (a b c d e s7 s8:Sl) {n:Nat}{M:List (List Int)} (R:Rds n M) {o p th:Nat} (ho:o<n) (hp:p<n) (ht:th<n) (s11:Sl):∃M' u11,(Rds n M'∧∀i j:Nat,eM M' i j=if i=o∧j=p then nxM M th o p else eM M i j)∧bdT1 (tR a b c d e M (.val (.int (o:Int))) s7 s8 (.val (.int (th:Int))) (.val (.int (p:Int))) s11)=some (.nx (tR a b c d e M' (.val (.int (o:Int))) s7 s8 (.val (.int (th:Int))) (.val (.int (p:Int))) u11)):=by
 let t:Th:=tR a b c d e M (.val (.int (o:Int))) s7 s8 (.val (.int (th:Int))) (.val (.int (p:Int))) s11
 have g1:=zr6 (fa:=dVar 5) (fb:=dVar 6) (fc:=dVar 9) (t:=t) (r1:=.tm (mD M)) (i:=(o:Int)) (j:=(th:Int)) R.sq rfl rfl rfl rfl (by lia) (by lia) (by lia) (by lia)
 have g2:=zr6 (fa:=dVar 5) (fb:=dVar 9) (fc:=dVar 10) (t:=t) (r1:=.tm (mD M)) (i:=(th:Int)) (j:=(p:Int)) R.sq rfl rfl rfl rfl (by lia) (by lia) (by lia) (by lia)
 have E1:=ze3 (i:=11) (zg6 g1 g2) (by simp [t])
 let t1:Th:=tR a b c d e M (.val (.int (o:Int))) s7 s8 (.val (.int (th:Int))) (.val (.int (p:Int))) (.val (.int (gM M (o:Int) (th:Int)+gM M (th:Int) (p:Int))))
 have g3:=zr6 (fa:=dVar 5) (fb:=dVar 6) (fc:=dVar 10) (t:=t1) (r1:=.tm (mD M)) (i:=(o:Int)) (j:=(p:Int)) R.sq rfl rfl rfl rfl (by lia) (by lia) (by lia) (by lia)
 have cc:=zaz9 (rfl:dVar 11 t1=some (.cl (.int (gM M (o:Int) (th:Int)+gM M (th:Int) (p:Int))))) g3
 have w1:0≤gM M (o:Int) (th:Int):=R.nn o th ho ht
 have w2:0≤gM M (th:Int) (p:Int):=R.nn th p ht hp
 by_cases z:gM M (o:Int) (th:Int)+gM M (th:Int) (p:Int)<gM M (o:Int) (p:Int)
 ·have ne:o≠p:=fun q=>by
   subst q
   have:gM M (o:Int) (o:Int)=0:=R.dg o ho
   lia
  have R1:=zaa5 (v:=gM M (o:Int) (th:Int)+gM M (th:Int) (p:Int)) R (i:=o) (j:=p) ho hp ne (by lia)
  have E2:=zz9 (s:=5) (t:=t1) (fi:=dVar 6) (fk:=dVar 10) (fv:=dVar 11) (v:=gM M (o:Int) (th:Int)+gM M (th:Int) (p:Int)) (ri:=.cl (.int (o:Int))) (rk:=.cl (.int (p:Int))) (rv:=.cl (.int (gM M (o:Int) (th:Int)+gM M (th:Int) (p:Int)))) R.sq rfl rfl rfl rfl rfl rfl rfl (i:=o) (j:=p) ho hp
  refine⟨_,_,⟨R1,fun i j=>?_⟩,(za7 E1).trans ((zr7 cc (decide_eq_true z)).trans E2)⟩
  have nv:nxM M th o p=gM M (o:Int) (th:Int)+gM M (th:Int) (p:Int):=if_pos z
  rw [nv]
  exact zm8 R.sq _ ho hp i j
 ·refine⟨M,_,⟨R,fun i j=>?_⟩,(za7 E1).trans (grd cc (decide_eq_false z))⟩
  have nv:nxM M th o p=eM M o p:=if_neg z
  rw [nv]
  split
  ·rename_i w;rw [w.1,w.2]
  ·rfl
theorem rng_P {n:Nat} (hn:n≤1000) {i:Nat}{b:DS}{P:Th→Prop}{f:DE} (hP:∀t,P t→f t=some (.cl (.int (n:Int)))) (hb:∀(x:Nat),x<n→∀t,P t→∃t1 t2,za3 i (.int (x:Int)) t=some t1∧b t1=some (.nx t2)∧P t2):∀t,P t→∃t',zi3 (za3 i) f b t=some (.nx t')∧P t':=fun t h=>by
 obtain⟨t',e,h'⟩:=for_P (k:=za3 i) (b:=b) (P:=P) ((zb9 n).map D.int) (fun d hd t1 h1=>by
  obtain⟨x,hx,rfl⟩:=zbq8.mp hd
  have xr:=zg5 hx
  obtain⟨k,rfl⟩:∃k:Nat,x=(k:Int):=⟨x.toNat,by lia⟩
  exact hb k (by lia) t1 h1) t h
 exact⟨t',(zm0 (n:=n) (hP t h) rfl (by lia)).trans e,h'⟩
theorem mxR_of (t:Th):mxR t=some (.nw ([4,30,1000,1000000000001].map D.int)):=by
 unfold mxR
 exact (t4_of (rfl:dC (.int 4) t=some (.cl (.int 4))) (rfl:dC (.int 30) t=some (.cl (.int 30))) (rfl:dC (.int 1000) t=some (.cl (.int 1000))) (zg6 (pow12 t) (rfl:dC (.int 1) t=some (.cl (.int 1))))).trans rfl
theorem zac7 {n:Nat}{ext:Th}{fe:DE}{d:D} (he:∀x:Int,∃r,fe (.val (.int x)::ext)=some r∧toDn r=some d):∀(l:List Int) (s:Sl),zi0 (za3 0) zc3 fe (l.map D.int) (s::ext)=some (zbn4 l.length d)
 |[],s=>rfl
 |x::l,s=>by
  obtain⟨r,e,er⟩:=he x
  have e0:za3 0 (.int x) (s::ext)=some (.val (.int x)::ext):=rfl
  have ih:=zac7 (n:=n) he l (.val (.int x))
  simp only [zbn7,zi0,e0,zbn0,zc3,if_true,e,er,ih,zbq3,zbp9,zbq9]
theorem roads_of (ns:List Int) (hl:ns.length≤63) (st:Nat) (hs:st≤1000) {n:Nat} (n0:0<n) (n1:n≤900):∃M,(Rds n M∧SyM n M∧TrM n n M∧BdM n M)∧zi7 [.lst (ns.map D.int),.int (st:Int),.int (n:Int)]=some (.dn (mD M)):=by
 let N:Sl:=.val (.lst (ns.map D.int))
 let A:Sl:=.val (.int (st:Int))
 let B:Sl:=.val (.int (n:Int))
 obtain⟨c,ec⟩:=zad2 ns hl st (by lia)
 have c1:∀r,(dT1 (zb8 zc7) (za2 (dVar 0) (za2 (dVar 1) dNil))) (N::A::r)=some (.cl (.int c)):=fun r=>(zl0 (rfl:dVar 0 (N::A::r)=some (.cl (.lst (ns.map D.int)))) (rfl:dVar 1 (N::A::r)=some (.cl (.int (st:Int))))).trans (zl6 ec rfl)
 have E1:dAsg 3 (d2 kEq (d2 qR (dT1 (zb8 zc7) (za2 (dVar 0) (za2 (dVar 1) dNil))) (dC (.int 2))) (dC (.int 1))) [N,A,B,.no,.no,.no,.no,.no,.no,.no,.no,.no]=some (.nx [N,A,B,.val (.bl (decide (c.fmod 2=1))),.no,.no,.no,.no,.no,.no,.no,.no]) :=
  ze3 (i:=3) (eqv_of (zd7 (c1 _) (fb:=dC (.int 2)) (b:=2) rfl (by decide)) (fb:=dC (.int 1)) (b:=1) rfl) (by simp)
 generalize decide (c.fmod 2=1)=pl at E1
 obtain⟨k4,hk4,ek⟩:∃k:Nat,k<4∧(c.fdiv 2).fmod 4=(k:Int):=by
  have:=fm (a:=c.fdiv 2) (b:=4) (by decide)
  exact⟨((c.fdiv 2).fmod 4).toNat,by lia,by lia⟩
 obtain⟨q,q0,q1,e2⟩:∃q:Int,0<q∧q≤1000000000001∧(d2 kIx mxR (d2 qR (d2 qV (dT1 (zb8 zc7) (za2 (dVar 0) (za2 (dVar 1) dNil))) (dC (.int 2))) (dC (.int 4)))) [N,A,B,.val (.bl pl),.no,.no,.no,.no,.no,.no,.no,.no]=some (.cl (.int q)):=by
  refine⟨[4,30,1000,1000000000001].getD k4 0,?_,?_,?_⟩
  ·rcases (by lia:k4=0∨k4=1∨k4=2∨k4=3) with rfl | rfl | rfl | rfl<;>simp
  ·rcases (by lia:k4=0∨k4=1∨k4=2∨k4=3) with rfl | rfl | rfl | rfl<;>simp
  ·refine (zh5 (mxR_of _) (zd7 (zk1 (c1 _) (fb:=dC (.int 2)) (b:=2) rfl (by decide) (sm_of (by decide) (by decide))) (fb:=dC (.int 4)) (b:=4) rfl (by decide))).trans ?_
   rw [ek]
   exact ixEv _ k4 (by simpa using hk4) rfl rfl
 have E2:=ze3 (i:=4) e2 (by simp)
 let P3:Sl:=.val (.bl pl)
 let Q4:Sl:=.val (.int q)
 have E3:dAsg 5 (zg1 1 [2] (fsR1 (dVar 2)) (za3 0) zc3 (d2 qM (dT1 kLst (za2 (dC (.int 0)) dNil)) (dVar 1))) [N,A,B,P3,Q4,.no,.no,.no,.no,.no,.no,.no]=some (.nx (tR N A B P3 Q4 (zbn4 n (zbn4 n 0)) .no .no .no .no .no .no)):=by
  have w1:=zae0 (f:=dVar 2) (t:=[N,A,B,P3,Q4,.no,.no,.no,.no,.no,.no,.no]) (n:=n) rfl (by lia)
  have w2:=zac7 (n:=n) (ext:=[.val (.int (n:Int))]) (fe:=(d2 qM (dT1 kLst (za2 (dC (.int 0)) dNil)) (dVar 1))) (d:=rwD (zbn4 n 0)) (fun x=>⟨_,zap8 (x:=0) (m:=n) rfl rfl n1,by simp only [toDn,ze9,if_true];rfl⟩) (zb9 n) .no
  rw [ze2]at w2
  unfold dAsg zg1
  rw [w1]
  show zcf7 (if ((zb9 n).map D.int).length≤50000 then (zi0 (za3 0) zc3 _ ((zb9 n).map D.int) [Sl.no,.val (.int (n:Int))]).map (fun xs=>Ev.dn (.lst xs)) else none) _=_
  rw [if_pos (by rw [zbo0,ze2];lia),w2]
  show some (Out.nx [N,A,B,P3,Q4,.dp (.lst (zbn4 n (rwD (zbn4 n 0)))),.no,.no,.no,.no,.no,.no])=_
  have:zbn4 n (rwD (zbn4 n 0))=(zbn4 n (zbn4 n (0:Int))).map rwD:=by rw [zcc7]
  rw [this]
  rfl
 obtain⟨t4,E4,M4,u6,u7,u8,R4,rfl⟩:=rng_P (n:=n) (by lia) (i:=6) (b:=bdO1) (f:=dVar 2) (P:=fun t => ∃M u6 u7 u8,(Rds n M∧SyM n M∧BdM n M)∧t=tR N A B P3 Q4 M u6 u7 u8 .no .no .no) (fun t ⟨M,u6,u7,u8,_,e⟩=>by subst e;rfl) (fun x hx t ⟨M,u6,u7,u8,R,e⟩=>by
  subst e
  obtain⟨M',v7,v8,R',e⟩:=turn_O1 ns hl st hs (by lia) q0 q1 pl .no .no .no R hx u7 u8
  exact⟨_,_,rfl,e,M',_,v7,v8,R',rfl⟩) (tR N A B P3 Q4 (zbn4 n (zbn4 n 0)) .no .no .no .no .no .no) ⟨_,.no,.no,.no,⟨zav0 n,zbc3 n,zbl8 n⟩,rfl⟩
 obtain⟨t5,E5,M5,v6,v9,v10,v11,R5,rfl⟩:=rng_K (n:=n) (by lia) (i:=9) (b:=(zi3 (za3 6) (dVar 2) (zi3 (za3 10) (dVar 2) bdT1))) (f:=dVar 2) (P:=fun th t => ∃M v6 v9 v10 v11,(Rds n M∧SyM n M∧TrM n th M∧BdM n M)∧t=tR N A B P3 Q4 M v6 u7 u8 v9 v10 v11) (fun th hth t ⟨M,v6,v9,v10,v11,R0,e⟩=>by
  subst e
  obtain⟨t',e',M',w6,w10,w11,R',rfl⟩:=rng_K (n:=n) (by lia) (i:=6) (b:=(zi3 (za3 10) (dVar 2) bdT1)) (f:=dVar 2) (P:=fun o t => ∃M1 w6 w10 w11,(Rds n M1∧∀i j:Nat,i<n→j<n→eM M1 i j=if i<o then nxM M th i j else eM M i j)∧t=tR N A B P3 Q4 M1 w6 u7 u8 (.val (.int (th:Int))) w10 w11) (fun o ho t ⟨M1,w6,w10,w11,R1,e⟩=>by
   subst e
   obtain⟨t',e',M',x10,x11,R',rfl⟩:=rng_K (n:=n) (by lia) (i:=10) (b:=bdT1) (f:=dVar 2) (P:=fun p t => ∃M2 x10 x11,(Rds n M2∧∀i j:Nat,i<n→j<n→eM M2 i j=if i<o∨(i=o∧j<p) then nxM M th i j else eM M i j)∧t=tR N A B P3 Q4 M2 (.val (.int (o:Int))) u7 u8 (.val (.int (th:Int))) x10 x11) (fun p hp t ⟨M2,x10,x11,R2,e⟩=>by
    subst e
    obtain⟨M',y11,R',e⟩:=turn_T1 N A B P3 Q4 u7 u8 R2.1 ho hp hth x11
    refine⟨_,_,rfl,e,M',_,y11,⟨R'.1,fun i j hi hj=>?_⟩,rfl⟩
    rw [R'.2 i j]
    by_cases z:i=o∧j=p
    ·obtain⟨rfl,rfl⟩:=z
     rw [if_pos ⟨rfl,rfl⟩,if_pos (Or.inr ⟨rfl,zbs1 _⟩)]
     have k1:eM M2 i th=eM M i th:=by
      rw [R2.2 i th hi hth]
      split
      ·exact nx_row R0.1 hth hi
      ·rfl
     have k2:eM M2 th j=eM M th j:=by
      rw [R2.2 th j hth hj]
      split
      ·exact nx_col R0.1 hth hj
      ·rfl
     have k3:eM M2 i j=eM M i j:=by
      rw [R2.2 i j hi hj,if_neg (by lia)]
     unfold nxM
     rw [k1,k2,k3]
    ·rw [if_neg z,R2.2 i j hi hj]
     by_cases y:i<o∨(i=o∧j<p)
     ·rw [if_pos y,if_pos (by lia)]
     ·rw [if_neg y,if_neg (by lia)]) (tR N A B P3 Q4 M1 (.val (.int (o:Int))) u7 u8 (.val (.int (th:Int))) w10 w11) rfl ⟨M1,w10,w11,⟨R1.1,fun i j hi hj=>by
      rw [R1.2 i j hi hj]
      by_cases y:i<o
      ·rw [if_pos y,if_pos (Or.inl y)]
      ·rw [if_neg y,if_neg (by lia)]⟩,rfl⟩
   refine⟨_,_,rfl,e',M',_,x10,x11,⟨R'.1,fun i j hi hj=>?_⟩,rfl⟩
   rw [R'.2 i j hi hj]
   by_cases y:i<o∨(i=o∧j<n)
   ·rw [if_pos y,if_pos (by lia)]
   ·rw [if_neg y,if_neg (by lia)]) (tR N A B P3 Q4 M v6 u7 u8 (.val (.int (th:Int))) v10 v11) rfl ⟨M,v6,v10,v11,⟨R0.1,fun i j _ _=>by rw [if_neg (by lia)]⟩,rfl⟩
  have ful:∀i j:Nat,i<n→j<n→eM M' i j=nxM M th i j:=fun i j hi hj=>by rw [R'.2 i j hi hj,if_pos hi]
  exact⟨_,_,rfl,e',M',w6,_,w10,w11,⟨R'.1,nx_sym R0.2.1 hth ful,nx_tri R0.1 R0.2.2.1 hth ful,fun i j hi hj=>by rw [ful i j hi hj];exact zbw7 (nx_le (M:=M) th i j).1 (R0.2.2.2 i j hi hj)⟩,rfl⟩) (tR N A B P3 Q4 M4 u6 u7 u8 .no .no .no) rfl ⟨M4,u6,.no,.no,.no,⟨R4.1,R4.2.1,fun t i j ht=>absurd ht (Nat.not_lt_zero t),R4.2.2⟩,rfl⟩
 refine⟨M5,R5,?_⟩
 show (zu3 [N,A,B,.no,.no,.no,.no,.no,.no,.no,.no,.no]).bind zm2=_
 show (dSeq _ (dSeq (dAsg 4 (d2 kIx mxR _)) (dSeq _ (dSeq (zi3 (za3 6) (dVar 2) bdO1) (dSeq (zi3 (za3 9) (dVar 2) (zi3 (za3 6) (dVar 2) (zi3 (za3 10) (dVar 2) bdT1))) _)))) _).bind zm2=_
 refine bnd ?_
 refine (za7 E1).trans ?_
 refine (za7 E2).trans ?_
 refine (za7 E3).trans ?_
 refine (za7 E4).trans ?_
 refine (za7 E5).trans ?_
 rfl
end KX
set_option maxHeartbeats 1000000
namespace KX
open PySem.Spec L2 DL
theorem zac1:∀bs:List Bool,flats (bs.map D.bl)=true
 |[]=>rfl
 |b::bs=>by simp [flats,flat,zac1 bs]
theorem zai1:∀bs:List Bool,blsD (bs.map D.bl)=some bs
 |[]=>rfl
 |b::bs=>by simp [blsD,zai1 bs]
theorem all_of {f:DE}{t:Th}{r:Ev}{bs:List Bool} (h:f t=some r) (hr:r.d=.lst (bs.map D.bl)):(dT1 qU (za2 f dNil)) t=some (.cl (.bl (bs.all id))):=by
 rw [zl9 h]
 (try unfold qU);(try unfold qY);unfold kBls
 simp only [hr,zai1,zbq3]
theorem zbm3 {α:Type} (f:α→Bool):∀l:List α,(l.map f).all id=l.all f
 |[]=>rfl
 |x::l=>by simp only [zbn7,zbq5,zbm3 f l,id]
theorem zat5 {f g:DE}{t:Th}{a b:Bool} (h1:f t=some (.cl (.bl a))) (h2:a=true→g t=some (.cl (.bl b))):zas5 f g t=some (.cl (.bl (a&&b))):=by
 unfold zas5
 rw [h1]
 cases a with
 |true=>exact h2 rfl
 |false=>rfl
theorem any_of {f:DE}{t:Th}{r:Ev}{bs:List Bool} (h:f t=some r) (hr:r.d=.lst (bs.map D.bl)):(dT1 qY (za2 f dNil)) t=some (.cl (.bl (bs.any id))):=by
 rw [zl9 h]
 (try unfold qU);(try unfold qY);unfold kBls
 simp only [hr,zai1,zbq3]
theorem zbj6 {fe:DE}{f:Int→Bool}{ext:Th}:∀(xs:List Int) (s:Sl),(∀x∈xs,fe (.val (.int x)::ext)=some (.cl (.bl (f x))))→ze4 (za3 0) zc3 fe (xs.map D.int) (s::ext)=some ((xs.map f).map D.bl)
 |[],s,_=>rfl
 |x::xs,s,he=>by
  have e0:za3 0 (.int x) (s::ext)=some (.val (.int x)::ext):=rfl
  simp only [zbn7,ze4,e0,zbn0,zc3,he x (zbn1 ..),if_true]
  rw [zbj6 xs _ fun y hy=>he y (zbm9 _ hy)]
  rfl
theorem zbm1 {α:Type} (f:α→Bool):∀l:List α,(l.map f).any id=l.any f
 |[]=>rfl
 |x::l=>by simp only [zbn7,zbx1,zbm1 f l,id]
theorem ch_of {fa fb fc:DE}{t:Th}{a b c:Int} (h1:fa t=some (.cl (.int a))) (h2:fb t=some (.cl (.int b))) (h3:fc t=some (.cl (.int c))):dCh qE qL fa fb fc t=some (decide (a≤b)&&decide (b<c)):=by
 unfold dCh
 rw [h1,h2,h3]
 show (match D.bl (decide (a≤b)) with
  |.bl true=>some (decide (b<c))
  |.bl false=>some false
  |_=>none)=_
 cases decide (a≤b)<;>rfl
theorem chv_of {fa fb fc:DE}{t:Th}{a b c:Int} (h1:fa t=some (.cl (.int a))) (h2:fb t=some (.cl (.int b))) (h3:fc t=some (.cl (.int c))):dChV qE qL fa fb fc t=some (.cl (.bl (decide (a≤b)&&decide (b<c)))):=by
 unfold dChV
 rw [ch_of h1 h2 h3]
 rfl
theorem slu_of {fa fb:DE}{t:Th}{r:Ev}{xs:List Int}{i:Int} (ha:fa t=some r) (hb:fb t=some (.cl (.int i))) (hr:r.d=.lst (xs.map D.int)):∃n,(dSlU fb fa) t=some (.nw ((xs.take n).map D.int)):=by
 refine⟨HT.sIx xs.length xs.length (some i),?_⟩
 unfold dSlU
 rw [ha,hb]
 simp only [zbn0,hr]
 show (if (r.ok||flats (xs.map D.int))=true then some (Ev.nw ((xs.map D.int).take (HT.sIx (xs.map D.int).length (xs.map D.int).length (some i)))) else none)=_
 rw [ze9,if_pos (by simp),zbo0, ← List.map_take]
theorem cati_of {fa fb:DE}{t:Th}{r1 r2:Ev}{xs ys:List Int} (h1:fa t=some r1) (h2:fb t=some r2) (e1:r1.d=.lst (xs.map D.int)) (e2:r2.d=.lst (ys.map D.int)) (hl:xs.length+ys.length≤100000):(d2 qA fa fb) t=some (.nw ((xs++ys).map D.int)):=by
 rw [zh5 h1 h2]
 have k0:kI tt2 (fun i j=>D.int (i+j)) r1 r2=none:=by (try unfold qA);(try unfold qS);(try unfold qM);(try unfold qV);(try unfold qR);(try unfold qL);(try unfold qE);(try unfold qG);(try unfold qP);unfold kI;rw [e1,e2]
 have k1:kCat r1 r2=some (.nw ((xs++ys).map D.int)):=by
  unfold kCat
  simp only [e1,e2,ze9,zbs2,zbz3,zbo0]
  rw [if_pos (decide_eq_true hl),zbs4]
 (try unfold qA);(try unfold qM);unfold kOr
 rw [k0,k1]
theorem nn_of {t:Th}{f:DE}{r:Ev}{L:List Int} (h:f t=some r) (hr:r.d=.lst (L.map D.int)):dBo (d2 kNe f (dT1 kLst dNil)) t=some (!decide (L=[])):=by
 have e:(dT1 kLst dNil) t=some (.nw []):=rfl
 unfold dBo
 rw [zh5 h e]
 unfold kNe
 rw [hr]
 cases L with
 |nil=>rfl
 |cons x L=>rfl
noncomputable def cdO:DT:=(dBo (d2 kNe (dVar 2) (dT1 kLst dNil)))
theorem turn_O (c:Int) (s1 s4:Sl) {L F:List Int} (ne:L≠[]) (hl:L.length≤100) (hf:F.length≤100):∃(c':Int) (L' F':List Int) (u4:Sl),L'.length+1=L.length∧F'.length=F.length+1∧bdO [.val (.int c),s1,.own (L.map D.int),.own (F.map D.int),s4]=some (.nx [.val (.int c'),s1,.own (L'.map D.int),.own (F'.map D.int),u4]):=by
 have l0:0<L.length:=by cases L with | nil=>exact absurd rfl ne | cons x L=>simp
 have E1:=ze3 (i:=4) (zaw2 (f:=dVar 2) (t:=[.val (.int c),s1,.own (L.map D.int),.own (F.map D.int),s4]) (r:=.tm (.lst (L.map D.int))) (xs:=L) rfl rfl) (by simp)
 let t1:Th:=[.val (.int c),s1,.own (L.map D.int),.own (F.map D.int),.val (.int (L.length:Int))]
 have m:=zd7 (fa:=dVar 0) (fb:=dVar 4) (t:=t1) (a:=c) (b:=(L.length:Int)) rfl rfl (by lia)
 have f:=fm (a:=c) (b:=(L.length:Int)) (by lia)
 obtain⟨k,hk⟩:∃k:Nat,c.fmod (L.length:Int)=(k:Int):=⟨(c.fmod (L.length:Int)).toNat,by lia⟩
 rw [hk]at m f
 have kl:k<L.length:=by lia
 have E2:zac5 3 2 (d2 qR (dVar 0) (dVar 4)) t1=some (.nx [.val (.int c),s1,.own ((L.eraseIdx k).map D.int),.own ((F++[L.getD k 0]).map D.int),.val (.int (L.length:Int))]):=by
  unfold zac5
  rw [m,zbn0]
  unfold zah2
  show (if 2=3 then none else if decide (-1000000≤(k:Int)∧(k:Int)≤1000000∧(F.map D.int).length<100000)=true then (ixN (L.map D.int).length (k:Int)).bind _ else none)=_
  rw [if_neg (by decide),if_pos (decide_eq_true (by simp;lia)),zt1 _ k (by simpa using kl),zbn0,get_map L k kl]
  simp only [zbq3,zbs4, ← map_erase_ix]
  rfl
 have E3:=ze3 (i:=0) (zk1 (fa:=dVar 0) (fb:=dVar 4) (t:=[.val (.int c),s1,.own ((L.eraseIdx k).map D.int),.own ((F++[L.getD k 0]).map D.int),.val (.int (L.length:Int))]) (a:=c) (b:=(L.length:Int)) rfl rfl (by lia) (sm_of (by lia) (by lia))) (by simp)
 exact⟨_,_,_,_,by rw [List.length_eraseIdx_of_lt kl];lia,by simp,(za7 E1).trans ((za7 E2).trans E3)⟩
theorem zbb0 (s1:Sl):∀(n f:Nat) (c:Int) (L F:List Int) (s4:Sl),L.length=n→n<f→L.length≤100→F.length+n≤100→∃(c':Int) (F':List Int) (u4:Sl),F'.length=F.length+n∧whD cdO bdO f [.val (.int c),s1,.own (L.map D.int),.own (F.map D.int),s4]=some (.nx [.val (.int c'),s1,.own [],.own (F'.map D.int),u4])
 |0,f+1,c,L,F,s4,hn,hf,_,_=>by
  cases zbr9.mp hn
  refine⟨c,F,s4,by lia,?_⟩
  have cd:cdO [.val (.int c),s1,.own (([]:List Int).map D.int),.own (F.map D.int),s4]=some false:=nn_of (f:=dVar 2) (r:=.tm (.lst (([]:List Int).map D.int))) (L:=[]) rfl rfl
  unfold whD
  rw [cd]
  rfl
 |n+1,f+1,c,L,F,s4,hn,hf,h1,h2=>by
  have ne:L≠[]:=fun z=>by rw [z]at hn;simp at hn
  have cd:cdO [.val (.int c),s1,.own (L.map D.int),.own (F.map D.int),s4]=some true:=by
   have:=nn_of (f:=dVar 2) (t:=[.val (.int c),s1,.own (L.map D.int),.own (F.map D.int),s4]) (r:=.tm (.lst (L.map D.int))) (L:=L) rfl rfl
   rw [decide_eq_false ne]at this
   exact this
  obtain⟨c1,L1,F1,u4,l1,l2,e1⟩:=turn_O c s1 s4 ne h1 (by lia:F.length≤100)
  obtain⟨c',F',v4,l3,ih⟩:=zbb0 s1 n f c1 L1 F1 u4 (by lia) (by lia) (by lia) (by lia)
  refine⟨c',F',v4,by lia,?_⟩
  unfold whD
  rw [cd]
  simp only [zbn0,if_true,e1]
  exact ih
theorem order_is (c:Int) {m:Nat} (hm:m≤50):∃xs:List Int,xs.length=m∧zj5 [.int c,.int (m:Int)]=some (.nw (xs.map D.int)):=by
 let M:Sl:=.val (.int (m:Int))
 have E1:=zn6 (i:=2) (lr_of (f:=dVar 1) (t:=[.val (.int c),M,.no,.no,.no]) (n:=m) rfl (by lia)) (by simp)
 have E2:dAsg 3 (dT1 kLst dNil) [.val (.int c),M,.own ((zb9 m).map D.int),.no,.no]=some (.nx [.val (.int c),M,.own ((zb9 m).map D.int),.own (([]:List Int).map D.int),.no]):=rfl
 obtain⟨c',F',u4,l,E3⟩:=zbb0 M m 60 c (zb9 m) [] .no (ze2 m) (by lia) (by rw [ze2];lia) (by simp;lia)
 refine⟨F',by simpa using l,?_⟩
 show (zu5 [.val (.int c),M,.no,.no,.no]).bind zm2=_
 exact bnd ((za7 E1).trans ((za7 E2).trans ((za7 (show zs0 (fun _=>60) cdO bdO _=_ from E3)).trans rfl)))
theorem far_is (r:Int) {m:Nat} (m0:0<m) (hm:m≤1000):∃v:Int,zm5 [.int r,.int (m:Int)]=some (.cl (.int v)):=by
 let t:Th:=[.val (.int r),.val (.int (m:Int))]
 have a6:=zd7 (zk1 (fa:=dVar 0) (fb:=dC (.int 6)) (t:=t) (a:=r) (b:=6) rfl rfl (by decide) (sm_of (by decide) (by decide))) (fb:=dVar 1) (b:=(m:Int)) rfl (by lia)
 let L:List Int:=[-1,(m:Int), -2,0 - (m:Int),1000000000000,(r.fdiv 6).fmod (m:Int)]
 have ls:(dT1 kLst (za2 (d1 kNeg (dC (.int 1))) (za2 (dVar 1) (za2 (d1 kNeg (dC (.int 2))) (za2 (d2 qS (dC (.int 0)) (dVar 1)) (za2 (d2 qP (dC (.int 10)) (dC (.int 12))) (za2 (d2 qR (d2 qV (dVar 0) (dC (.int 6))) (dVar 1)) dNil))))))) t=some (.nw (L.map D.int)):=by
  refine (tk1 (cns (r:=.cl (.int (-1))) rfl (cns (r:=.cl (.int (m:Int))) rfl (cns (r:=.cl (.int (-2))) rfl (cns (r:=.cl (.int (0 - (m:Int)))) rfl (cns (pow12 t) (cns a6 (rfl:dNil t=some [])))))))).trans ?_
  rfl
 have f:=fm (a:=r) (b:=6) (by decide)
 obtain⟨k,hk⟩:∃k:Nat,r.fmod 6=(k:Int):=⟨(r.fmod 6).toNat,by lia⟩
 have mk:=zd7 (fa:=dVar 0) (fb:=dC (.int 6)) (t:=t) (a:=r) (b:=6) rfl rfl (by decide)
 rw [hk]at mk f
 refine⟨L.getD k 0,?_⟩
 show (zac0 t).bind zm2=_
 exact bnd (zaa4 ((zh5 ls mk).trans (ixEv L k (by simp [L];lia) rfl rfl)))
noncomputable def Lx (s:Sl) (C:List Int):Prop:=s=.dp (.lst (C.map D.int))∨s=.own (C.map D.int)
theorem Lx.var {s:Sl}{C:List Int} (h:Lx s C) {t:Th}{i:Nat} (e:t[i]?=some s):dVar i t=some (.tm (.lst (C.map D.int))):=by
 unfold dVar
 rw [e]
 rcases h with rfl | rfl<;>rfl
theorem reps_of {fa fb:DE}{t:Th}{x:Int}{m:Nat} (h1:fa t=some (.cl (.int x))) (h2:fb t=some (.cl (.int (m:Int)))) (hm:m≤900):(d2 qM (dT1 kLst (za2 fa dNil)) fb) t=some (.nw ((zbn4 m x).map D.int)) :=
 zap8 ((zl9 h1).trans rfl) h2 hm
theorem wM_sy {n:Nat}{M:List (List Int)} (n0:0<n) (Y:SyM n M) (a b:Int):wM n M a b=wM n M b a:=Y _ _ (zbv6 _ n0) (zbv6 _ n0)
theorem wM_tr {n:Nat}{M:List (List Int)} (n0:0<n) (T:TrM n n M) (a b c:Int):wM n M a c≤wM n M a b+wM n M b c:=T _ _ _ (zbv6 _ n0) (zbv6 _ n0) (zbv6 _ n0)
theorem wM_zz {n:Nat}{M:List (List Int)} (n0:0<n) (R:Rds n M) (a:Int):wM n M a a=0:=R.dg _ (zbv6 _ n0)
theorem wM_nn {n:Nat}{M:List (List Int)} (n0:0<n) (R:Rds n M) (a b:Int):0≤wM n M a b:=R.nn _ _ (zbv6 _ n0) (zbv6 _ n0)
theorem ixl_of {fa fb:DE}{t:Th}{r1:Ev} (L:List Int) (ha:fa t=some r1) (h1:r1.d=.lst (L.map D.int)) (hb:fb t=some (.cl (.int (-1)))) (h:0<L.length):(d2 kIx fa fb) t=some (.cl (.int (L.getD (L.length - 1) 0))):=by
 rw [zh5 ha hb]
 unfold kIx
 rw [h1]
 show (atI (L.map D.int) (-1)).map _=_
 have:atI (L.map D.int) (-1)=some (D.int (L.getD (L.length - 1) 0)):=by
  unfold atI ixN
  rw [if_neg (by decide),if_pos (by simp;lia),zbn0,show ((-1:Int)+((L.map D.int).length:Int)).toNat=L.length - 1 by simp;lia]
  have e:L[L.length - 1]?=some (L[L.length - 1]'(by lia)):=zbn9 _
  rw [zbp7,e,zbo1,e]
  rfl
 rw [this]
 simp [flat]
theorem zbg2 {n:Nat}{M:List (List Int)} (S:Sq n M) {C:List Int} (I:CIn n C) (hl:C.length≤50000):(dT1 kSum (za2 (zf8 1 [0,1] (fsR1 (dT1 kLen (za2 (dVar 1) dNil))) (za3 0) zc3 feLg) dNil)) [.val (mD M),.val (.lst (C.map D.int))]=some (.cl (.int (cyc (wM n M) C))):=by
 have l1:=zaw2 (f:=dVar 1) (t:=[.val (mD M),.val (.lst (C.map D.int))]) (r:=.cl (.lst (C.map D.int))) (xs:=C) rfl rfl
 have c:=zbj8 (fe:=feLg) (cap:=[0,1]) (g:=fun x=>lgF (wM n M) C x.toNat) (b:=true) (c:=[mD M,.lst (C.map D.int)]) l1 hl rfl fun x hx=>by
  obtain⟨x0,x1⟩:=zg5 hx
  let t:Th:=[.val (.int x),.val (mD M),.val (.lst (C.map D.int))]
  have g:∀k:Nat,k<C.length→0≤C.getD k 0∧C.getD k 0<(n:Int):=fun k hk=>by
   rw [zbo1,zbn9 hk]
   exact I.rg _ (zbz4 hk)
  have i2:=zw3 (fa:=dVar 2) (fb:=dVar 0) (t:=t) (r1:=.cl (.lst (C.map D.int))) (r2:=.cl (.int x)) C x.toNat rfl rfl (by lia) rfl (by show D.int x=_;rw [zbq6 x0])
  have s1:=zt0 (fa:=dVar 0) (fb:=dC (.int 1)) (t:=t) (a:=x) (b:=1) rfl rfl
  have i1:(d2 kIx (dVar 2) (d2 qS (dVar 0) (dC (.int 1)))) t=some (.cl (.int (C.getD (if x.toNat=0 then C.length - 1 else x.toNat - 1) 0))):=by
   by_cases z:x=0
   ·subst z
    exact ixl_of C (fa:=dVar 2) (r1:=.cl (.lst (C.map D.int))) rfl rfl s1 I.ne
   ·rw [if_neg (by lia)]
    exact zw3 C (x.toNat - 1) (fa:=dVar 2) (r1:=.cl (.lst (C.map D.int))) rfl s1 (by lia) rfl (by show D.int (x - 1)=_;congr 1;lia)
  have q1:=g (if x.toNat=0 then C.length - 1 else x.toNat - 1) (by split<;>lia)
  have q2:=g x.toNat (by lia)
  have:=zr6 S (fa:=dVar 1) (t:=t) (r1:=.cl (mD M)) rfl rfl i1 i2 q1.1 q1.2 q2.1 q2.2
  show _=some (Ev.cl (.int (lgF (wM n M) C x.toNat)))
  unfold lgF
  rw [zai8 q1.1 q1.2 q2.1 q2.2]
  exact this
 have:=zbc6 c rfl
 rw [← lg_sum]
 rw [show ((zb9 C.length).map fun x=>lgF (wM n M) C x.toNat)=(zbp2 C.length).map (lgF (wM n M) C) by unfold zb9;rw [zbu5];rfl]at this
 exact this
theorem zbg5 {n:Nat}{M:List (List Int)} (S:Sq n M) {C:List Int} (I:CIn n C) (hl:C.length≤50000):zm3 [mD M,.lst (C.map D.int)]=some (.cl (.int (cyc (wM n M) C))):=bnd (zaa4 (zbg2 S I hl))
theorem llong_is {n:Nat}{M:List (List Int)} (S:Sq n M) {C:List Int} (I:CIn n C) (hl:C.length≤50000):zo9 [mD M,.lst (C.map D.int)]=some (.cl (.int (cyc (wM n M) C))):=bnd (zaa4 (zbg2 S I hl))
theorem in_G {n:Nat}{M:List (List Int)} (S:Sq n M) {a:Int} (X:D) (a0:0≤a) (a1:a<(n:Int)):∀(l:List Int) (s1:Sl),(∀x∈l,0≤x∧x<(n:Int))→∃s1',zs1 (za3 1) zc3 feG (l.map D.int) [.val (.int a),s1,.val X,.val (mD M)]=some ((l.map fun b=>tD (wM n M) (a,b)),[.val (.int a),s1',.val X,.val (mD M)])
 |[],s1,_=>⟨s1,rfl⟩
 |b::l,s1,h=>by
  have hb:=h b (zbn1 ..)
  obtain⟨s1',ih⟩:=in_G S X a0 a1 l (.val (.int b)) fun x hx=>h x (zbm9 _ hx)
  refine⟨s1',?_⟩
  let t:Th:=[.val (.int a),.val (.int b),.val X,.val (mD M)]
  have e0:za3 1 (.int b) [.val (.int a),s1,.val X,.val (mD M)]=some t:=rfl
  have x:=zr6 S (fa:=dVar 3) (fb:=dVar 0) (fc:=dVar 1) (t:=t) (r1:=.cl (mD M)) (i:=a) (j:=b) rfl rfl rfl rfl a0 a1 hb.1 hb.2
  have e2:feG t=some (.cl (tD (wM n M) (a,b))):=by
   unfold tD
   rw [zai8 a0 a1 hb.1 hb.2]
   exact (zad3 x (rfl:dVar 0 t=some (.cl (.int a))) (rfl:dVar 1 t=some (.cl (.int b)))).trans rfl
  simp only [zbn7,zs1,e0,zbn0,zc3,if_true,e2]
  rw [show zs1 (za3 1) zc3 feG (l.map D.int) t=_ from ih]
  rfl
theorem out_G {n:Nat}{M:List (List Int)} (S:Sq n M) {A:List Int} (hA:∀x∈A,0≤x∧x<(n:Int)):∀(l:List Int) (s0 s1:Sl),(∀x∈l,0≤x∧x<(n:Int))→zs2 (za3 0) zc3 (fsL (dVar 2)) (za3 1) zc3 feG (l.map D.int) [s0,s1,.val (.lst (A.map D.int)),.val (mD M)]=some ((l.flatMap fun a=>A.map fun b=>(a,b)).map (tD (wM n M)))
 |[],s0,s1,_=>rfl
 |a::l,s0,s1,h=>by
  have ha:=h a (zbn1 ..)
  obtain⟨s1',e2⟩:=in_G S (.lst (A.map D.int)) ha.1 ha.2 A s1 hA
  have ih:=out_G S hA l (.val (.int a)) s1' fun x hx=>h x (zbm9 _ hx)
  have e0:za3 0 (.int a) [s0,s1,.val (.lst (A.map D.int)),.val (mD M)]=some [.val (.int a),s1,.val (.lst (A.map D.int)),.val (mD M)]:=rfl
  have e1:fsL (dVar 2) [.val (.int a),s1,.val (.lst (A.map D.int)),.val (mD M)]=some (true,A.map D.int):=rfl
  simp only [zbn7,zs2,e0,zbn0,zc3,if_true,e1,e2,ih,zbq3,zcd5,zbs4,zbu5]
  rfl
theorem zac2 (A:List Int):∀l:List Int,(l.flatMap fun a=>A.map fun b=>(a,b)).length=l.length*A.length
 |[]=>by simp
 |a::l=>by
  simp only [zcd5,zbp6,zbo0,zbp9,Nat.add_mul,Nat.one_mul,zac2 A l]
  lia
theorem zaw7 (w:Int→Int→Int):∀l:List Ed,flats (l.map (tD w))=true
 |[]=>rfl
 |e::l=>by simp only [zbn7,flats,zaw7 w l];rfl
noncomputable def cdG:DT:=(dTr (dVar 2))
theorem turn_G {n:Nat}{M:List (List Int)} (S:Sq n M) {P U:List Int}{T:List Ed} (hP:∀x∈P,0≤x∧x<(n:Int)) (hU:∀x∈U,0≤x∧x<(n:Int)) (pn:P≠[]) (un:U≠[]) (lp:P.length≤100) (lu:U.length≤100) (lt:T.length≤100) (s4 s5 s6:Sl) :
  ∃(e:Ed) (u4 u5 u6:Sl),e.1∈P∧e.2∈U∧(∀a∈P,∀b∈U,wM n M e.1 e.2≤wM n M a b)∧bdG [.val (mD M),.own (P.map D.int),.own (U.map D.int),.own (T.map pD),s4,s5,s6]=some (.nx [.val (mD M),.own ((P++[e.2]).map D.int),.own ((U.erase e.2).map D.int),.own ((T++[e]).map pD),u4,u5,u6]):=by
 let t:Th:=[.val (mD M),.own (P.map D.int),.own (U.map D.int),.own (T.map pD),s4,s5,s6]
 have c2:(zaf0 2 [2,0] (fsL (dVar 1)) (za3 0) zc3 (fsL (dVar 2)) (za3 1) zc3 feG) t=some (.nw ((P.flatMap fun a=>U.map fun b=>(a,b)).map (tD (wM n M)))):=by
  have e2:=out_G S (A:=U) hU P .no .no hP
  unfold zaf0
  show (zs2 (za3 0) zc3 (fsL (dVar 2)) (za3 1) zc3 feG (P.map D.int) [.no,.no,.val (.lst (U.map D.int)),.val (mD M)]).bind _=_
  rw [e2]
  have ll:=zac2 U P
  have:P.length*U.length≤100*100:=zby5 lp lu
  simp only [zbn0,zaw7,zbv0,zbo0]
  rw [if_pos (decide_eq_true (by lia))]
 have ne:(P.flatMap fun a=>U.map fun b=>(a,b))≠[]:=fun z=>by
  have:=zac2 U P
  rw [z]at this
  have p1:0<P.length:=zcc1.mpr pn
  have p2:0<U.length:=zcc1.mpr un
  have:=Nat.mul_pos p1 p2
  simp only [zca8]at *
  lia
 obtain⟨e,m,le,e3⟩:=extT_of c2 rfl ne
 obtain⟨a,ma,mb'⟩:=zce5.mp m
 obtain⟨b,mb,z⟩:=zbq8.mp mb'
 subst z
 refine⟨(a,b),.val (tD (wM n M) (a,b)),.val (.int a),.val (.int b),ma,mb,fun x hx y hy=>le (x,y) (zce5.mpr ⟨x,hx,zbq8.mpr ⟨y,hy,rfl⟩⟩),?_⟩
 have E1:=ze3 (i:=4) e3 (by simp [t])
 have E2:(dPar 5 6 (za2 (d2 kIx (dVar 4) (dC (.int 1))) (za2 (d2 kIx (dVar 4) (dC (.int 2))) dNil))) [.val (mD M),.own (P.map D.int),.own (U.map D.int),.own (T.map pD),.val (tD (wM n M) (a,b)),s5,s6]=some (.nx [.val (mD M),.own (P.map D.int),.own (U.map D.int),.own (T.map pD),.val (tD (wM n M) (a,b)),.val (.int a),.val (.int b)]):=rfl
 let t2:Th:=[.val (mD M),.own (P.map D.int),.own (U.map D.int),.own (T.map pD),.val (tD (wM n M) (a,b)),.val (.int a),.val (.int b)]
 have E3:=zbm0 (i:=3) t2 (f:=(dT1 kTup (za2 (dVar 5) (za2 (dVar 6) dNil)))) (d:=pD (a,b)) (xs:=T.map pD) rfl rfl (by simp;lia)
 have E4:=zx7 (i:=1) (t2.set 3 (.own (T.map pD++[pD (a,b)]))) (f:=dVar 6) (xs:=P) (p:=b) rfl rfl (by lia)
 have E5:=rem_of (i:=2) (t:=[.val (mD M),.own ((P++[b]).map D.int),.own (U.map D.int),.own (T.map pD++[pD (a,b)]),.val (tD (wM n M) (a,b)),.val (.int a),.val (.int b)]) (f:=dVar 6) (r:=.cl (.int b)) (K:=U) (p:=b) rfl rfl rfl mb
 have:=(za7 E1).trans ((za7 E2).trans ((za7 E3).trans ((za7 E4).trans E5)))
 rw [show ((T++[(a,b)]).map pD)=T.map pD++[pD (a,b)] by simp]
 exact this
theorem zbb3 {n:Nat}{M:List (List Int)} (S:Sq n M):∀(m f:Nat) (P U:List Int) (T:List Ed) (s4 s5 s6:Sl),U.length=m→m<f→(∀x∈P,0≤x∧x<(n:Int))→(∀x∈U,0≤x∧x<(n:Int))→P≠[]→P.length+m≤100→T.length+m≤100 →
  ∃(P':List Int) (T':List Ed) (u4 u5 u6:Sl),Prim (wM n M) P U T'∧T'.length=m∧whD cdG bdG f [.val (mD M),.own (P.map D.int),.own (U.map D.int),.own (T.map pD),s4,s5,s6]=some (.nx [.val (mD M),.own (P'.map D.int),.own [],.own ((T++T').map pD),u4,u5,u6])
 |0,f+1,P,U,T,s4,s5,s6,hm,hf,hP,hU,pn,lp,lt=>by
  cases zbr9.mp hm
  refine⟨P,[],s4,s5,s6,.nil,rfl,?_⟩
  rw [zbr4]
  rfl
 |m+1,f+1,P,U,T,s4,s5,s6,hm,hf,hP,hU,pn,lp,lt=>by
  have un:U≠[]:=fun z=>by rw [z]at hm;simp at hm
  obtain⟨e,u4,u5,u6,m1,m2,le,eb⟩:=turn_G S (T:=T) hP hU pn un (by lia) (by lia) (by lia) s4 s5 s6
  obtain⟨P',T',v4,v5,v6,pr,lT,ih⟩:=zbb3 S m f (P++[e.2]) (U.erase e.2) (T++[e]) u4 u5 u6 (by rw [zbs3 m2];lia) (by lia)
   (fun x hx=>by rcases zbn2.mp hx with q | q;exact hP x q;rw [zbn3]at q;subst q;exact hU _ m2)
   (fun x hx=>hU x (zbq7 hx)) (by simp) (by simp;lia) (by simp;lia)
  refine⟨P',e::T',v4,v5,v6,.cons m1 m2 le pr,by simp [lT],?_⟩
  have cd:cdG [.val (mD M),.own (P.map D.int),.own (U.map D.int),.own (T.map pD),s4,s5,s6]=some true:=by
   cases U with
   |nil=>exact absurd rfl un
   |cons a U=>rfl
  unfold whD
  rw [cd]
  simp only [zbn0,if_true,eb]
  rw [ih,zbv9]
  rfl
noncomputable def zj3 (n:Nat):List Int:=(zbp2 (n - 1)).map fun k=>((k+1:Nat):Int)
theorem late_of {f:DE}{t:Th}{n:Nat} (h:f t=some (.cl (.int (n:Int)))) (n0:1≤n) (n1:n≤40):(zn5 (za2 (dC (.int 1)) (za2 f dNil))) t=some (.nw ((zj3 n).map D.int)):=by
 unfold zn5
 rw [show (za2 (dC (.int 1)) (za2 f dNil)) t=some [.cl (.int 1),.cl (.int (n:Int))] by simp [za2,dC,h,dNil]]
 rcases (by lia:n=1∨n=2∨n=3∨n=4∨n=5∨n=6∨n=7∨n=8∨n=9∨n=10∨n=11∨n=12∨n=13∨n=14∨n=15∨n=16∨n=17∨n=18∨n=19∨n=20∨n=21∨n=22∨n=23∨n=24∨n=25∨n=26∨n=27∨n=28∨n=29∨n=30∨n=31∨n=32∨n=33∨n=34∨n=35∨n=36∨n=37∨n=38∨n=39∨n=40) with z | z | z | z | z | z | z | z | z | z | z | z | z | z | z | z | z | z | z | z | z | z | z | z | z | z | z | z | z | z | z | z | z | z | z | z | z | z | z | z<;>subst z<;>rfl
theorem zn3 {n:Nat}{x:Int} (h:x∈zj3 n):1≤x∧x<(n:Int):=by
 obtain⟨k,hk,rfl⟩:=zbq8.mp h
 have:=zbw2.mp hk
 lia
theorem zaw0 {n:Nat}{x:Int} (h0:1≤x) (h1:x<(n:Int)):x∈zj3 n:=zbq8.mpr ⟨x.toNat - 1,zbw2.mpr (by lia),by lia⟩
theorem zx3 (n:Nat):(zj3 n).Nodup:=by
 unfold zj3
 refine zby9.mpr ?_
 exact (zce3 (n:=n - 1)).imp fun h e=>h (by lia)
theorem tree_is {n:Nat}{M:List (List Int)} (S:Sq n M) (n0:1≤n) (n1:n≤40):∃T:List Ed,Prim (wM n M) [0] (zj3 n) T∧T.length=n - 1∧zn7 [mD M]=some (.nw (T.map pD)):=by
 let t:Th:=[.val (mD M),.own ([0].map D.int),.no,.no,.no,.no,.no]
 have ln:=zx2 (f:=dVar 0) (t:=t) (r:=.cl (mD M)) rfl rfl
 rw [S.len]at ln
 have E1:dAsg 1 (dT1 kLst (za2 (dC (.int 0)) dNil)) [.val (mD M),.no,.no,.no,.no,.no,.no]=some (.nx t):=rfl
 have E2:=zn6 (i:=2) (late_of ln n0 n1) (by simp [t])
 have ll:(zj3 n).length=n - 1:=by simp [zj3]
 obtain⟨P',T,u4,u5,u6,pr,lT,E4⟩:=zbb3 S (n - 1) 60 [0] (zj3 n) [] .no .no .no ll (by lia) (fun x hx=>by simp at hx;lia) (fun x hx=>by have:=zn3 hx;lia) (by simp) (by simp;lia) (by simp;lia)
 refine⟨T,pr,lT,?_⟩
 show (zr9 [.val (mD M),.no,.no,.no,.no,.no,.no]).bind zm2=_
 have E3:dAsg 3 (dT1 kLst dNil) [.val (mD M),.own ([0].map D.int),.own ((zj3 n).map D.int),.no,.no,.no,.no]=some (.nx [.val (mD M),.own ([0].map D.int),.own ((zj3 n).map D.int),.own (([]:List Ed).map pD),.no,.no,.no]):=rfl
 exact bnd ((za7 E1).trans ((za7 E2).trans ((za7 E3).trans ((za7 (show zs0 (fun _=>60) cdG bdG _=_ from E4)).trans rfl))))
noncomputable def zw1 (T:List Ed) (u:Int):List Int:=(T.filter fun e=>decide (e.1=u)).map (·.2)
noncomputable def chI (T:List Ed) (u:Int):List Int:=zg7 (zw1 T u)
theorem hngI (T:List Ed):Hng T (chI T):=⟨fun u=>zf0 _⟩
theorem zag9 (T:List Ed) (u:Int):(zw1 T u).length≤T.length:=by
 unfold zw1
 rw [zbo0]
 exact List.length_filter_le ..
theorem kids_mem {T:List Ed}{u x:Int} (h:x∈zw1 T u):∃e∈T,e.2=x:=by
 obtain⟨e,he,z⟩:=zbq8.mp h
 exact⟨e,(zbw9.mp he).1,z⟩
noncomputable def hgM (n:Nat) (T:List Ed):List (List Int):=(zbp2 n).map fun (p:Nat)=>zw1 T (p:Int)
theorem zaw4 {n:Nat}{T:List Ed}{q:Nat} (h:q<n):(hgM n T)[q]?=some (zw1 T (q:Int)):=by simp [hgM,h]
theorem hg_getD {n:Nat}{T:List Ed}{q:Int} (h0:0≤q) (h1:q<(n:Int)):(hgM n T).getD q.toNat []=zw1 T q:=by
 rw [zbo1,zaw4 (by lia),zbq6 h0]
 rfl
theorem hg_snoc {n:Nat} (l:List Ed) (e:Ed) (h0:0≤e.1) (h1:e.1<(n:Int)):((hgM n l).map rwD).set e.1.toNat (.lst ((zw1 l e.1).map D.int++[.int e.2]))=(hgM n (l++[e])).map rwD:=by
 apply zcd3
 intro p
 have hl:((hgM n l).map rwD).length=n:=by simp [hgM]
 have kp:zw1 (l++[e]) (p:Int)=zw1 l (p:Int)++(if e.1=(p:Int) then [e.2] else []):=by
  unfold zw1
  rw [List.filter_append,zbs4]
  congr 1
  by_cases z:e.1=(p:Int)<;>simp [z]
 by_cases hp:p<n
 ·rw [zcd4,zbp7,zbp7,zaw4 hp,zaw4 hp,kp]
  by_cases z:e.1.toNat=p
  ·have z':e.1=(p:Int):=by lia
   rw [if_pos z,if_pos (by lia),if_pos z',z']
   simp [rwD]
  ·rw [if_neg z,if_neg (by lia),zbr4]
 ·rw [zbt7 (by rw [zbx0];lia),zbt7 (by simp [hgM];lia)]
theorem zat4 {t:Th}{i a:Nat}{rows ds:List D}{f:DE}{fa:DE}{b:Int} (hi:t[i]?=some (.dp (.lst rows))) (ha:fa t=some (.cl (.int (a:Int)))) (hf:f t=some (.cl (.int b))) (hr:rows[a]?=some (.lst ds)) (hl:ds.length<100000):zx5 i [fa] f t=some (.nx (t.set i (.dp (.lst (rows.set a (.lst (ds++[.int b]))))))):=by
 have la:a<rows.length:=(zbr5.mp hr).1
 unfold zx5
 have ep:pthD [fa] t=some [(a:Int)]:=by
  unfold pthD
  rw [ha]
  rfl
 rw [ep,hf]
 show zar9 t i [(a:Int)] (.cl (.int b))=_
 unfold zar9
 rw [hi]
 have eg:getP (.lst rows) [(a:Int)]=some (.lst ds):=by
  show (atI rows (a:Int)).bind (fun x=>getP x [])=_
  unfold atI
  rw [zt1 _ a la]
  show (rows[a]?).bind _=_
  rw [hr]
  rfl
 have eq:putP (.lst rows) [(a:Int)] (.lst (ds++[.int b]))=some (.lst (rows.set a (.lst (ds++[.int b])))):=by
  show (ixN rows.length (a:Int)).bind _=_
  rw [zt1 _ a la]
  show (rows[a]?).bind _=_
  rw [hr]
  rfl
 simp only [eg]
 show (if flat (D.int b)&&decide (ds.length<100000) then _ else none)=_
 rw [decide_eq_true hl]
 show (putP (.lst rows) [(a:Int)] (.lst (ds++[.int b]))).map _=_
 rw [eq]
 rfl
noncomputable def bdH:DS:=(zx5 2 [(dVar 3)] (dVar 4))
theorem loop_H {s0 s1 s5 s6:Sl}{n:Nat}:∀(T l:List Ed) (s3 s4:Sl),(∀e∈T,0≤e.1∧e.1<(n:Int))→l.length+T.length≤1000→∃u3 u4,forD (zh2 2 (zc0 (za3 3) (zc0 (za3 4) zh3))) bdH (T.map pD) [s0,s1,.dp (mD (hgM n l)),s3,s4,s5,s6]=some (.nx [s0,s1,.dp (mD (hgM n (l++T))),u3,u4,s5,s6])
 |[],l,s3,s4,_,_=>⟨s3,s4,by rw [zbr4];rfl⟩
 |e::T,l,s3,s4,h,hl=>by
  simp only [zbp9]at hl
  obtain⟨h0,h1⟩:=h e (zbn1 ..)
  obtain⟨u3,u4,ih⟩:=loop_H (s0:=s0) (s1:=s1) (s5:=s5) (s6:=s6) (n:=n) T (l++[e]) (.val (.int e.1)) (.val (.int e.2)) (fun v hv=>h v (zbm9 _ hv)) (by simp only [zbp6,zbr2];lia)
  refine⟨u3,u4,?_⟩
  let t:Th:=[s0,s1,.dp (mD (hgM n l)),.val (.int e.1),.val (.int e.2),s5,s6]
  have e0:(zh2 2 (zc0 (za3 3) (zc0 (za3 4) zh3))) (pD e) [s0,s1,.dp (mD (hgM n l)),s3,s4,s5,s6]=some t:=rfl
  have kl:=zag9 l e.1
  have eb:=zat4 (t:=t) (i:=2) (a:=e.1.toNat) (rows:=(hgM n l).map rwD) (ds:=(zw1 l e.1).map D.int) (fa:=dVar 3) (f:=dVar 4) (b:=e.2) rfl (by show some (Ev.cl (.int e.1))=_;rw [zbq6 h0]) rfl (by rw [zbp7,zaw4 (by lia),zbq6 h0];rfl) (by rw [zbo0];lia)
  rw [hg_snoc l e h0 h1]at eb
  simp only [zbn7,forD,e0,zbn0]
  rw [show bdH t=_ from eb]
  rw [show l++e::T=l++[e]++T by simp]
  exact ih
theorem zan8:∀(l:List Int) (s:Sl),zi0 (za3 0) zc3 (dT1 kLst dNil) (l.map D.int) [s]=some (l.map fun _=>rwD [])
 |[],s=>rfl
 |x::l,s=>by
  have ih:=zan8 l (.val (.int x))
  have e0:za3 0 (.int x) [s]=some [.val (.int x)]:=rfl
  rw [zbn7]
  unfold zi0
  rw [e0]
  show (zi0 (za3 0) zc3 (dT1 kLst dNil) (l.map D.int) [.val (.int x)]).map _=_
  rw [ih]
  rfl
theorem zan6 {t:Th}{f:DE}{n:Nat} (hn:n≤1000) (hf:f t=some (.cl (.int (n:Int)))):(zg1 1 [] (fsR1 f) (za3 0) zc3 (dT1 kLst dNil)) t=some (.dn (mD (hgM n []))):=by
 unfold zg1
 rw [zae0 hf (by lia)]
 show (if ((zb9 n).map D.int).length≤50000 then (zi0 (za3 0) zc3 (dT1 kLst dNil) ((zb9 n).map D.int) [Sl.no]).map (fun xs=>Ev.dn (.lst xs)) else none)=_
 rw [if_pos (by rw [zbo0,ze2];lia),zan8]
 have:(zb9 n).map (fun _=>rwD [])=(hgM n []).map rwD:=by
  unfold zb9 hgM
  rw [zbu5,zbu5]
  rfl
 rw [this]
 rfl
noncomputable def cdD:DT:=(dTr (dVar 6))
theorem intsD_map:∀xs:List Int,zl3 (xs.map D.int)=some xs
 |[]=>rfl
 |x::xs=>by simp [zl3,intsD_map xs]
theorem turn_D {s0 s1 s3 s4:Sl}{n:Nat}{T:List Ed}{C W:List Int}{q:Int} (q0:0≤q) (q1:q<(n:Int)) (hT:T.length≤40) (hC:C.length≤1000) (hW:W.length≤5000):∃u3,bdD [s0,s1,.dp (mD (hgM n T)),s3,s4,.own (C.map D.int),.own ((W++[q]).map D.int)]=some (.nx [s0,s1,.dp (mD (hgM n T)),u3,s4,.own ((C++[q]).map D.int),.own ((W++(chI T q).reverse).map D.int)]):=by
 refine⟨.val (.int q),?_⟩
 have E1:dPop 3 6 [s0,s1,.dp (mD (hgM n T)),s3,s4,.own (C.map D.int),.own ((W++[q]).map D.int)]=some (.nx [s0,s1,.dp (mD (hgM n T)),.val (.int q),s4,.own (C.map D.int),.own (W.map D.int)]):=by
  show kPop _ 3 6=_
  unfold kPop
  simp [zn9]
 let t:Th:=[s0,s1,.dp (mD (hgM n T)),.val (.int q),s4,.own (C.map D.int),.own (W.map D.int)]
 have E2:=zx7 (i:=5) t (f:=dVar 3) (xs:=C) (p:=q) rfl rfl (by lia)
 let t2:Th:=[s0,s1,.dp (mD (hgM n T)),.val (.int q),s4,.own ((C++[q]).map D.int),.own (W.map D.int)]
 obtain⟨r,er,rd⟩:=zbd2 (fa:=dVar 2) (fb:=dVar 3) (t:=t2) (r1:=.tm (mD (hgM n T))) (M:=hgM n T) (i:=q) rfl rfl rfl q0 (by simp [hgM];exact q1)
 rw [hg_getD q0 q1]at rd
 have kl:=zag9 T q
 have E3:dExt 6 (dT1 zae3 (za2 (d2 kIx (dVar 2) (dVar 3)) dNil)) t2=some (.nx [s0,s1,.dp (mD (hgM n T)),.val (.int q),s4,.own ((C++[q]).map D.int),.own ((W++(chI T q).reverse).map D.int)]):=by
  have es:(dT1 zae3 (za2 (d2 kIx (dVar 2) (dVar 3)) dNil)) t2=some (.nw ((chI T q).reverse.map D.int)):=by
   rw [zl9 er]
   unfold zae3
   simp only [rd,rwD,intsD_map,zbn0]
   rw [if_pos (by lia)]
   rfl
  unfold dExt
  rw [es]
  show (if decide ((W.map D.int).length+((chI T q).reverse.map D.int).length≤100000) then some (Out.nx (t2.set 6 (.own (W.map D.int++(chI T q).reverse.map D.int)))) else none)=_
  have cl:(chI T q).length=(zw1 T q).length:=(zf0 _).length_eq
  rw [if_pos (decide_eq_true (by simp only [zbo0,zbu7];lia)), ← zbs4]
  rfl
 exact (za7 E1).trans ((za7 E2).trans E3)
theorem zbb4 {s0 s1 s4:Sl}{n:Nat}{T:List Ed} (hT:T.length≤40) (hk:∀e∈T,0≤e.2∧e.2<(n:Int)):∀(f:Nat) (st C:List Int) (s3:Sl),(trav (chI T) f st).2=[]→(∀x∈st,0≤x∧x<(n:Int))→C.length+f≤900→st.length+40*f≤4000 →
  ∃u3,whD cdD bdD (f+1) [s0,s1,.dp (mD (hgM n T)),s3,s4,.own (C.map D.int),.own (st.reverse.map D.int)]=some (.nx [s0,s1,.dp (mD (hgM n T)),u3,s4,.own ((C++(trav (chI T) f st).1).map D.int),.own []])
 |f,[],C,s3,_,_,_,_=>by
  have:(trav (chI T) f []).1=[]:=by cases f<;>rfl
  rw [this,zbr4]
  exact⟨s3,rfl⟩
 |0,q::st,C,s3,h,_,_,_=>by cases h
 |f+1,q::st,C,s3,h,hst,lc,ls=>by
  simp only [zbp9]at ls
  have hq:=hst q (zbn1 ..)
  obtain⟨u3,eb⟩:=turn_D (s0:=s0) (s1:=s1) (s3:=s3) (s4:=s4) (n:=n) (T:=T) (C:=C) (W:=st.reverse) (q:=q) hq.1 hq.2 (by lia) (by lia) (by rw [zbu7];lia)
  have cl:(chI T q).length≤T.length:=by rw [show (chI T q).length=_ from (zf0 _).length_eq];exact zag9 T q
  obtain⟨v3,ih⟩:=zbb4 hT hk f (chI T q++st) (C++[q]) u3 h (fun x hx=>by
   rcases zbn2.mp hx with m | m
   ·obtain⟨e,he,z⟩:=kids_mem ((zf0 _).mem_iff.mp m)
    rw [← z];exact hk e he
   ·exact hst x (zbm9 _ m)) (by simp only [zbp6,zbr2];lia) (by simp only [zbp6];lia)
  refine⟨v3,?_⟩
  rw [zbv7]
  have cd:cdD [s0,s1,.dp (mD (hgM n T)),s3,s4,.own (C.map D.int),.own ((st.reverse++[q]).map D.int)]=some true:=by
   show truD (.lst ((st.reverse++[q]).map D.int))=some true
   cases st.reverse<;>rfl
  unfold whD
  rw [cd]
  simp only [zbn0,if_true,eb]
  rw [List.reverse_append]at ih
  rw [show C++(trav (chI T) (f+1) (q::st)).1=C++[q]++(trav (chI T) f (chI T q++st)).1 by simp [trav]]
  exact ih
theorem down_is {n:Nat}{T:List Ed} (n1:n≤40) (hT:T.length≤39) (g:Grown [0] T) (hk:∀e∈T,(0≤e.1∧e.1<(n:Int))∧0≤e.2∧e.2<(n:Int)) (n0:0<n):zj4 [.int (n:Int),.lst (T.map pD)]=some (.nw ((trav (chI T) 59 [0]).1.map D.int)):=by
 let s0:Sl:=.val (.int (n:Int))
 let s1:Sl:=.val (.lst (T.map pD))
 have E1:dAsg 2 (zg1 1 [] (fsR1 (dVar 0)) (za3 0) zc3 (dT1 kLst dNil)) [s0,s1,.no,.no,.no,.no,.no]=some (.nx [s0,s1,.dp (mD (hgM n [])),.no,.no,.no,.no]):=by
  unfold dAsg
  rw [zan6 (n:=n) (by lia) rfl]
  rfl
 obtain⟨u3,u4,E2⟩:=loop_H (s0:=s0) (s1:=s1) (s5:=.no) (s6:=.no) (n:=n) T [] .no .no (fun e he=>(hk e he).1) (by simp;lia)
 rw [zca7]at E2
 have E2':dFor (zh2 2 (zc0 (za3 3) (zc0 (za3 4) zh3))) (dVar 1) bdH [s0,s1,.dp (mD (hgM n [])),.no,.no,.no,.no]=some (.nx [s0,s1,.dp (mD (hgM n T)),u3,u4,.no,.no]):=E2
 obtain⟨tn,tp⟩:=zy6 (n:=59) g (hngI T) (by lia)
 obtain⟨v3,E5⟩:=zbb4 (s0:=s0) (s1:=s1) (s4:=u4) (n:=n) (T:=T) (by lia) (fun e he=>(hk e he).2) 59 [0] [] u3 tn (fun x hx=>by simp at hx;lia) (by simp) (by simp)
 have E3:dAsg 5 (dT1 kLst dNil) [s0,s1,.dp (mD (hgM n T)),u3,u4,.no,.no]=some (.nx [s0,s1,.dp (mD (hgM n T)),u3,u4,.own (([]:List Int).map D.int),.no]):=rfl
 have E4:dAsg 6 (dT1 kLst (za2 (dC (.int 0)) dNil)) [s0,s1,.dp (mD (hgM n T)),u3,u4,.own (([]:List Int).map D.int),.no]=some (.nx [s0,s1,.dp (mD (hgM n T)),u3,u4,.own (([]:List Int).map D.int),.own ([0].reverse.map D.int)]):=rfl
 show (zu1 [s0,s1,.no,.no,.no,.no,.no]).bind zm2=_
 exact bnd ((za7 E1).trans ((za7 E2').trans ((za7 E3).trans ((za7 E4).trans ((za7 (show zs0 (fun _=>60) cdD bdD _=_ from E5)).trans rfl)))))
theorem callT {G:List D→Option Ev}{rs:List Ev}{T:List Ed} (h:G (rs.map Ev.d)=some (.nw (T.map pD))):zb8 G rs=some (.nw (T.map pD)):=by
 unfold zb8
 rw [h]
 show some (upEv (rs.all Ev.ok) (.nw (T.map pD)))=_
 unfold upEv
 cases rs.all Ev.ok with
 |true=>rfl
 |false=>simp [zl5]
theorem zaf3 {n:Nat}{M:List (List Int)} (S:Sq n M) (n0:1≤n) (n1:n≤40):∃T:List Ed,Prim (wM n M) [0] (zj3 n) T∧T.length=n - 1∧(∀e∈T,(0≤e.1∧e.1<(n:Int))∧0≤e.2∧e.2<(n:Int))∧Grown [0] T∧(T.map (·.2)).Perm (zj3 n)∧zd0 [mD M]=some (.dn (.tup [.lst ((trav (chI T) 59 [0]).1.map D.int),.lst (T.map pD)])):=by
 obtain⟨T,pr,lT,e1⟩:=tree_is S n0 n1
 obtain⟨g,pm⟩:=zaz1 pr (zx3 n) (fun v hv h=>by have:=zn3 hv;simp at h;lia)
 have k2:∀e∈T,0≤e.2∧e.2<(n:Int):=fun e he=>by
  have:=zn3 (pm.mem_iff.mp (zbq8.mpr ⟨e,he,rfl⟩))
  lia
 have k1:∀e∈T,0≤e.1∧e.1<(n:Int):=by
  have:∀ {P U:List Int}{T:List Ed},Prim (wM n M) P U T→(∀x∈P,0≤x∧x<(n:Int))→(∀x∈U,0≤x∧x<(n:Int))→∀e∈T,0≤e.1∧e.1<(n:Int):=by
   intro P U T h
   induction h with
   |nil=>intro _ _ e he;cases he
   |cons a b c d ih =>
    intro hP hU e he
    rcases zbn5.mp he with z | z
    ·subst z;exact hP _ a
    ·exact ih (fun x hx=>by rcases zbn2.mp hx with q | q;exact hP x q;rw [zbn3]at q;subst q;exact hU _ b) (fun x hx=>hU x (zbq7 hx)) e z
  exact this pr (fun x hx=>by simp at hx;lia) (fun x hx=>by have:=zn3 hx;lia)
 refine⟨T,pr,lT,fun e he=>⟨k1 e he,k2 e he⟩,g,pm,?_⟩
 have dn:=down_is (n:=n) (T:=T) n1 (by lia) g (fun e he=>⟨k1 e he,k2 e he⟩) (by lia)
 have E1:=zn6 (i:=1) (t:=[.val (mD M),.no]) ((zl9 (rfl:dVar 0 [.val (mD M),.no]=some (.cl (mD M)))).trans (callT e1)) (by simp)
 let t:Th:=[.val (mD M),.own (T.map pD)]
 have ln:=zx2 (f:=dVar 0) (t:=t) (r:=.cl (mD M)) rfl rfl
 rw [S.len]at ln
 have e2:(dT1 (zb8 zj4) (za2 (dT1 kLen (za2 (dVar 0) dNil)) (za2 (dVar 1) dNil))) t=some (.nw ((trav (chI T) 59 [0]).1.map D.int)) :=
  (zl0 ln (rfl:dVar 1 t=some (.tm (.lst (T.map pD))))).trans (calln dn)
 have E2:zbj2 (mTup (zar3 (mOf (dT1 (zb8 zj4) (za2 (dT1 kLen (za2 (dVar 0) dNil)) (za2 (dVar 1) dNil)))) (zar3 (mOwn 1) mNil))) t=some (.rt (.dn (.tup [.lst ((trav (chI T) 59 [0]).1.map D.int),.lst (T.map pD)]))):=by
  unfold zbj2 mTup zar3 mOf
  rw [e2]
  have q1:toDn (.nw ((trav (chI T) 59 [0]).1.map D.int))=some (.lst ((trav (chI T) 59 [0]).1.map D.int)):=by simp only [toDn,ze9,if_true]
  have q2:mOwn 1 t=some (.lst (T.map pD),t.set 1 .no):=by
   show (if flats (T.map pD) then some (D.lst (T.map pD),t.set 1 .no) else none)=_
   rw [zl5];rfl
  simp only [zbn0,q1,zbq3,q2]
  rfl
 show (zo3 [.val (mD M),.no]).bind zm2=_
 exact bnd ((za7 E1).trans E2)
theorem map_erase_ix:∀(L:List Int) (k:Nat),(L.eraseIdx k).map D.int=(L.map D.int).eraseIdx k
 |[],k=>rfl
 |a::L,0=>rfl
 |a::L,k+1=>by
  show D.int a ::(L.eraseIdx k).map D.int=D.int a ::(L.map D.int).eraseIdx k
  rw [map_erase_ix L k]
theorem turn_N {s0 s1 s2:Sl}{n:Nat}{f:Int→List Int}{e:Ed} (h1:InN n e.1) (h2:InN n e.2) (l1:∀u,(f u).length≤1000):bdN [s0,s1,s2,.dp (mD (rwM n f)),.val (.int e.1),.val (.int e.2)]=some (.nx [s0,s1,s2,.dp (mD (rwM n (nbS f e))),.val (.int e.1),.val (.int e.2)]):=by
 obtain⟨a0,a1⟩:=h1
 obtain⟨b0,b1⟩:=h2
 let t:Th:=[s0,s1,s2,.dp (mD (rwM n f)),.val (.int e.1),.val (.int e.2)]
 have E1:=zat4 (t:=t) (i:=3) (a:=e.1.toNat) (rows:=(rwM n f).map rwD) (ds:=(f e.1).map D.int) (fa:=dVar 4) (f:=dVar 5) (b:=e.2) rfl (by show some (Ev.cl (.int e.1))=_;rw [zbq6 a0]) rfl (by rw [zbp7,zaa2 (by lia),zbq6 a0];rfl) (by rw [zbo0];have:=l1 e.1;lia)
 rw [rwM_up f e.1 e.2 a0 a1]at E1
 let t2:Th:=[s0,s1,s2,.dp (mD (rwM n (upR f e.1 e.2))),.val (.int e.1),.val (.int e.2)]
 have E2:=zat4 (t:=t2) (i:=3) (a:=e.2.toNat) (rows:=(rwM n (upR f e.1 e.2)).map rwD) (ds:=(upR f e.1 e.2 e.2).map D.int) (fa:=dVar 5) (f:=dVar 4) (b:=e.1) rfl (by show some (Ev.cl (.int e.2))=_;rw [zbq6 b0]) rfl (by rw [zbp7,zaa2 (by lia),zbq6 b0];rfl) (by rw [zbo0];have:=zbb7 f e.1 e.2 e.2;have:=l1 e.2;lia)
 rw [rwM_up (upR f e.1 e.2) e.2 e.1 b0 b1]at E2
 exact (za7 (t':=t2) E1).trans E2
theorem loop_N {s0 s1 s2:Sl}{n:Nat}:∀(T:List Ed) (f:Int→List Int) (s4 s5:Sl),(∀e∈T,InN n e.1∧InN n e.2)→(∀u,(f u).length+2*T.length≤1000)→∃u4 u5,forD (zh2 2 (zc0 (za3 4) (zc0 (za3 5) zh3))) bdN (T.map pD) [s0,s1,s2,.dp (mD (rwM n f)),s4,s5]=some (.nx [s0,s1,s2,.dp (mD (rwM n (T.foldl nbS f))),u4,u5])
 |[],f,s4,s5,_,_=>⟨s4,s5,rfl⟩
 |e::T,f,s4,s5,h,hl=>by
  simp only [zbp9]at hl
  obtain⟨h1,h2⟩:=h e (zbn1 ..)
  obtain⟨u4,u5,ih⟩:=loop_N (s0:=s0) (s1:=s1) (s2:=s2) (n:=n) T (nbS f e) (.val (.int e.1)) (.val (.int e.2)) (fun v hv=>h v (zbm9 _ hv)) (fun u=>by
   have q1:=zbb7 (upR f e.1 e.2) e.2 e.1 u
   have q2:=zbb7 f e.1 e.2 u
   have:=hl u
   unfold nbS
   lia)
  refine⟨u4,u5,?_⟩
  have e0:(zh2 2 (zc0 (za3 4) (zc0 (za3 5) zh3))) (pD e) [s0,s1,s2,.dp (mD (rwM n f)),s4,s5]=some [s0,s1,s2,.dp (mD (rwM n f)),.val (.int e.1),.val (.int e.2)]:=rfl
  simp only [zbn7,forD,e0,zbn0]
  rw [turn_N h1 h2 fun u=>by have:=hl u;lia]
  exact ih
theorem hg_nil (n:Nat):hgM n []=rwM n fun _=>[]:=by simp [hgM,rwM,zw1]
theorem nb_is {n:Nat}{T:List Ed} (n1:n≤40) (hl:T.length≤200) (h:∀e∈T,InN n e.1∧InN n e.2):zk3 [.tup [.int (n:Int),.lst (T.map pD)]]=some (.dn (mD (rwM n (nbF T)))):=by
 let W:Sl:=.val (.tup [.int (n:Int),.lst (T.map pD)])
 let t1:Th:=[W,.val (.int (n:Int)),.val (.lst (T.map pD)),.no,.no,.no]
 have E1:zad6 (zh2 2 (zc0 (za3 1) (zc0 (za3 2) zh3))) (dVar 0) [W,.no,.no,.no,.no,.no]=some (.nx t1):=rfl
 have E2:dAsg 3 (zg1 1 [] (fsR1 (dVar 1)) (za3 0) zc3 (dT1 kLst dNil)) t1=some (.nx [W,.val (.int (n:Int)),.val (.lst (T.map pD)),.dp (mD (rwM n fun _=>[])),.no,.no]):=by
  unfold dAsg
  rw [zan6 (n:=n) (by lia) rfl,hg_nil]
  rfl
 obtain⟨u4,u5,E3⟩:=loop_N (s0:=W) (s1:=.val (.int (n:Int))) (s2:=.val (.lst (T.map pD))) (n:=n) T (fun _=>[]) .no .no h (fun u=>by simp;lia)
 have E3':dFor (zh2 2 (zc0 (za3 4) (zc0 (za3 5) zh3))) (dVar 2) bdN [W,.val (.int (n:Int)),.val (.lst (T.map pD)),.dp (mD (rwM n fun _=>[])),.no,.no]=some (.nx [W,.val (.int (n:Int)),.val (.lst (T.map pD)),.dp (mD (rwM n (nbF T))),u4,u5]):=E3
 show (zr8 [W,.no,.no,.no,.no,.no]).bind zm2=_
 exact bnd ((za7 E1).trans ((za7 E2).trans ((za7 E3').trans rfl)))
theorem zbf6 {fa fb:DE}{t:Th}{a b:Int} (h1:fa t=some (.cl (.int a))) (h2:fb t=some (.cl (.int b))):(dT1 qX (za2 fa (za2 fb dNil))) t=some (.cl (.int (mx a b))):=by
 rw [zl0 h1 h2]
 rfl
theorem zbg0 {n:Nat}{M:List (List Int)} (S:Sq n M) (n1:n≤40) {T:List Ed}{s1 s2:Sl}{s q:Int}:∀(l:List Int) (P W:List Int) (V:Int→Int) (s6:Sl),Dfs n T (wM n M) s P V W [q]→q∈P→W.length≤P.length→(∀x∈l,InN n x∧∃e∈T,Bt e q x) →
  ∃(P' W':List Int) (V':Int→Int) (u6:Sl),Dfs n T (wM n M) s P' V' W' [q]∧(∀x∈P,x∈P')∧(∀x∈l,x∈P')∧P'.length+W.length=P.length+W'.length ∧
   forD (za3 6) bdL (l.map D.int) [.val (mD M),s1,s2,.dp (dV P V),.own (W.map D.int),.val (.int q),s6]=some (.nx [.val (mD M),s1,s2,.dp (dV P' V'),.own (W'.map D.int),.val (.int q),u6])
 |[],P,W,V,s6,h,hq,hw,hl=>⟨P,W,V,s6,h,fun _ hx=>hx,(fun _ hx=>nomatch hx),rfl,rfl⟩
 |x::l,P,W,V,s6,h,hq,hw,hl=>by
  obtain⟨rx,e,he,hb⟩:=hl x (zbn1 ..)
  let t:Th:=[.val (mD M),s1,s2,.dp (dV P V),.own (W.map D.int),.val (.int q),.val (.int x)]
  have e0:za3 6 (.int x) [.val (mD M),s1,s2,.dp (dV P V),.own (W.map D.int),.val (.int q),s6]=some t:=rfl
  have pl:=h.len
  have c0:=zar0 (t:=t) (f1:=dVar 6) (f2:=dVar 3) (P:=P) (V:=V) (p:=x) (r2:=.tm (dV P V)) rfl rfl rfl
  by_cases c:x∈P
  ·have eb:bdL t=some (.nx t):=grd c0 (by simp [c])
   obtain⟨P',W',V',u6,a1,a2,a3,a4,a5⟩:=zbg0 S n1 (T:=T) (s1:=s1) (s2:=s2) l P W V (.val (.int x)) h hq hw (fun y hy=>hl y (zbm9 _ hy))
   refine⟨P',W',V',u6,a1,a2,fun y hy=>?_,a4,?_⟩
   ·rcases zbn5.mp hy with rfl | hy
    ·exact a2 _ c
    ·exact a3 y hy
   ·simp only [zbn7,forD,e0,zbn0]
    rw [eb]
    exact a5
  ·have hn:=h.add hq c rx he hb
   have rq:=h.rg q hq
   have g1:=zz5 (t:=t) (fa:=dVar 3) (fb:=dVar 5) (P:=P) (V:=V) (p:=q) (ra:=.tm (dV P V)) (rb:=.cl (.int q)) rfl rfl rfl rfl hq
   have g2:=zr6 (t:=t) (fa:=dVar 0) (fb:=dVar 5) (fc:=dVar 6) (r1:=.cl (mD M)) S (i:=q) (j:=x) rfl rfl rfl rfl rq.1 rq.2 rx.1 rx.2
   rw [← zai8 rq.1 rq.2 rx.1 rx.2]at g2
   have E1:=zax0 (t:=t) (i:=3) (fk:=dVar 6) (P:=P) (V:=V) (p:=x) (rk:=.cl (.int x)) (zbf6 g1 g2) rfl rfl rfl rfl (by lia)
   have ad:adP P x=P++[x]:=by simp [adP,c]
   rw [ad]at E1
   let t2:Th:=[.val (mD M),s1,s2,.dp (dV (P++[x]) (upV V x (mx (V q) (wM n M q x)))),.own (W.map D.int),.val (.int q),.val (.int x)]
   have E2:=zx7 t2 (f:=dVar 6) (i:=4) (xs:=W) (p:=x) rfl rfl (by lia)
   have eb:bdL t=some (.nx [.val (mD M),s1,s2,.dp (dV (P++[x]) (upV V x (mx (V q) (wM n M q x)))),.own ((W++[x]).map D.int),.val (.int q),.val (.int x)]):=(zr7 c0 (by simp [c])).trans ((za7 (t':=t2) E1).trans E2)
   obtain⟨P',W',V',u6,a1,a2,a3,a4,a5⟩:=zbg0 S n1 (T:=T) (s1:=s1) (s2:=s2) l (P++[x]) (W++[x]) _ (.val (.int x)) hn (zbm8 _ hq) (by simp;lia) (fun y hy=>hl y (zbm9 _ hy))
   simp only [zbp6,zbr2]at a4
   refine⟨P',W',V',u6,a1,fun y hy=>a2 y (zbm8 _ hy),fun y hy=>?_,by lia,?_⟩
   ·rcases zbn5.mp hy with rfl | hy
    ·exact a2 _ (zbm6 _ (zbn3.mpr rfl))
    ·exact a3 y hy
   ·simp only [zbn7,forD,e0,zbn0]
    rw [eb]
    exact a5
noncomputable def cdL:DT:=(dTr (dVar 4))
theorem zbb2 {n:Nat}{M:List (List Int)} (S:Sq n M) (n1:n≤40) {T:List Ed} (hT:∀e∈T,InN n e.1∧InN n e.2) {s2:Sl}{s:Int}:∀(m f:Nat) (P W:List Int) (V:Int→Int) (s5 s6:Sl),Dfs n T (wM n M) s P V W []→W.length≤P.length→n+W.length≤P.length+m→m<f →
  ∃(P':List Int) (V':Int→Int) (u5 u6:Sl),Dfs n T (wM n M) s P' V' [] [] ∧
   whD cdL bdLw f [.val (mD M),.val (mD (rwM n (nbF T))),s2,.dp (dV P V),.own (W.map D.int),s5,s6]=some (.nx [.val (mD M),.val (mD (rwM n (nbF T))),s2,.dp (dV P' V'),.own [],u5,u6])
 |m,0,_,_,_,_,_,_,_,_,hf=>by lia
 |m,f+1,P,W,V,s5,s6,h,hw,hm,hf=>by
  rcases zca2 W with rfl | ⟨W0,q,rfl⟩
  ·exact⟨P,V,s5,s6,h,rfl⟩
  ·rw [zca3]at h hw hm ⊢
   have pl:=h.len
   simp only [zbp6,zbr2]at hw hm
   have hq:q∈P:=h.wp q (zbm6 _ (zbn3.mpr rfl))
   have rq:=h.rg q hq
   let t:Th:=[.val (mD M),.val (mD (rwM n (nbF T))),s2,.dp (dV P V),.own (W0.map D.int),.val (.int q),s6]
   have E1:dPop 5 4 [.val (mD M),.val (mD (rwM n (nbF T))),s2,.dp (dV P V),.own ((W0++[q]).map D.int),s5,s6]=some (.nx t):=by
    show kPop _ 5 4=_
    unfold kPop
    simp [zn9,t]
   obtain⟨r,er,rd⟩:=zbd2 (fa:=dVar 1) (fb:=dVar 5) (t:=t) (r1:=.cl (mD (rwM n (nbF T)))) (M:=rwM n (nbF T)) (i:=q) rfl rfl rfl rq.1 (by rw [zaf9];exact rq.2)
   rw [rwM_getD rq.1 rq.2]at rd
   have ro:r.ok=true:=by
    have:(d2 kIx (dVar 1) (dVar 5)) t=kIx (.cl (mD (rwM n (nbF T)))) (.cl (.int q)):=rfl
    rw [this]at er
    have z:kIx (.cl (mD (rwM n (nbF T)))) (.cl (.int q))=(atI ((rwM n (nbF T)).map rwD) q).map Ev.cl:=by
     show ((atI ((rwM n (nbF T)).map rwD) q).map fun d=>if true||flat d then Ev.cl d else Ev.tm d)=_
     simp
    rw [z]at er
    cases z2:atI ((rwM n (nbF T)).map rwD) q with
    |none=>rw [z2]at er;cases er
    |some d=>rw [z2]at er;cases er;rfl
   obtain⟨P',W',V',u6,a1,a2,a3,a4,a5⟩:=zbg0 S n1 (T:=T) (s1:=.val (mD (rwM n (nbF T)))) (s2:=s2) (nbF T q) P W0 V s6 h.pop hq (by lia) (fun x hx=>by
    obtain⟨e,he,hb⟩:=mem_nb.mp hx
    refine⟨?_,e,he,hb⟩
    have:=hT e he
    rcases hb with rfl | rfl
    ·exact this.2
    ·exact this.1)
   have hd:=a1.done fun x hx=>a3 x (mem_nb.mpr hx)
   have pl':=a1.len
   have wl:W'.length≤P'.length:=by lia
   obtain⟨P2,V2,v5,v6,b1,b2⟩:=zbb2 S n1 hT (s2:=s2) (m - 1) f P' W' V' (.val (.int q)) u6 hd wl (by lia) (by lia)
   refine⟨P2,V2,v5,v6,b1,?_⟩
   have cd:cdL [.val (mD M),.val (mD (rwM n (nbF T))),s2,.dp (dV P V),.own ((W0++[q]).map D.int),s5,s6]=some true:=by
    show truD (.lst ((W0++[q]).map D.int))=some true
    cases W0<;>rfl
   have eb:bdLw [.val (mD M),.val (mD (rwM n (nbF T))),s2,.dp (dV P V),.own ((W0++[q]).map D.int),s5,s6]=_:=(za7 E1).trans ((zan0 er rd ro).trans a5)
   unfold whD
   rw [cd]
   simp only [zbn0,if_true,eb]
   exact b2
theorem zbb6 {n:Nat}{M:List (List Int)} (S:Sq n M) (n1:n≤40) {T:List Ed} (hT:∀e∈T,InN n e.1∧InN n e.2) {s:Int} (hs:InN n s):∃(P:List Int) (V:Int→Int),Dfs n T (wM n M) s P V [] []∧zd3 [mD M,mD (rwM n (nbF T)),.int s]=some (.dn (dV P V)):=by
 let B:Sl:=.val (mD (rwM n (nbF T)))
 have E1:dAsg 3 (zae9 (dVar 2) (dC (.int 0))) [.val (mD M),B,.val (.int s),.no,.no,.no,.no]=some (.nx [.val (mD M),B,.val (.int s),.dp (dV [s] fun _=>0),.no,.no,.no]):=rfl
 have E2:dAsg 4 (dT1 kLst (za2 (dVar 2) dNil)) [.val (mD M),B,.val (.int s),.dp (dV [s] fun _=>0),.no,.no,.no]=some (.nx [.val (mD M),B,.val (.int s),.dp (dV [s] fun _=>0),.own ([s].map D.int),.no,.no]):=rfl
 obtain⟨P,V,u5,u6,hd,E3⟩:=zbb2 S n1 hT (s2:=.val (.int s)) (s:=s) n 60 [s] [s] (fun _=>0) .no .no (Dfs.one hs) (zbp4 _) (by simp;lia) (by lia)
 refine⟨P,V,hd,?_⟩
 show (zk5 [.val (mD M),B,.val (.int s),.no,.no,.no,.no]).bind zm2=_
 exact bnd ((za7 E1).trans ((za7 E2).trans ((za7 (show zs0 (fun _=>60) cdL bdLw _=_ from E3)).trans rfl)))
noncomputable def inB (n:Nat) (x:Int):Bool:=decide (0≤x)&&decide (x<(n:Int))
theorem inB_iff {n:Nat}{x:Int}:inB n x=true↔InN n x:=by simp [inB,InN]
noncomputable def jnB (n:Nat) (e:Ed):Bool:=!decide (e.1=e.2)&&(inB n e.1&&inB n e.2)
theorem jnB_iff {n:Nat}{e:Ed}:jnB n e=true↔e.1≠e.2∧InN n e.1∧InN n e.2:=by simp [jnB,inB_iff]
theorem joins_is (n:Nat) (e:Ed):zg0 [pD e,.int (n:Int)]=some (.cl (.bl (jnB n e))):=by
 let t:Th:=[.val (pD e),.val (.int (n:Int))]
 have h1:(d2 kEq (dT1 kLen (za2 (dVar 0) dNil)) (dC (.int 2))) t=some (.cl (.bl true)):=rfl
 have h2:=nev_of (t:=t) (fa:=(d2 kIx (dVar 0) (dC (.int 0)))) (fb:=(d2 kIx (dVar 0) (dC (.int 1)))) (a:=e.1) (b:=e.2) rfl rfl
 have h3:(zf8 1 [1] (fsT (dVar 0)) (za3 0) zc3 (dChV qE qL (dC (.int 0)) (dVar 0) (dVar 1))) t=some (.nw ([inB n e.1,inB n e.2].map D.bl)):=by
  have c1:=chv_of (fa:=dC (.int 0)) (fb:=dVar 0) (fc:=dVar 1) (t:=[.val (.int e.1),.val (.int (n:Int))]) (a:=0) (b:=e.1) (c:=(n:Int)) rfl rfl rfl
  have c2:=chv_of (fa:=dC (.int 0)) (fb:=dVar 0) (fc:=dVar 1) (t:=[.val (.int e.2),.val (.int (n:Int))]) (a:=0) (b:=e.2) (c:=(n:Int)) rfl rfl rfl
  show (if 2≤50000 then (ze4 (za3 0) zc3 _ [.int e.1,.int e.2] [.no,.val (.int (n:Int))]).bind _ else none)=_
  rw [if_pos (by decide)]
  have g1:∀(s:Sl) (x:Int),za3 0 (.int x) [s,.val (.int (n:Int))]=some [.val (.int x),.val (.int (n:Int))]:=fun _ _=>rfl
  simp only [ze4,g1,zbn0,zc3,if_true,c1,c2]
  rfl
 have h4:=all_of h3 rfl
 have h5:=zat5 h2 (fun _=>h4)
 show (zu7 t).bind zm2=_
 have h6:=zat5 h1 (fun _=>h5)
 have e1:(true&&(!decide (e.1=e.2)&&[inB n e.1,inB n e.2].all id))=jnB n e:=by simp [jnB]
 rw [e1]at h6
 exact bnd (zaa4 h6)
theorem zbj4 {fe:DE}{f:Ed→Bool}{ext:Th}:∀(T:List Ed) (s:Sl),(∀e∈T,fe (.val (pD e)::ext)=some (.cl (.bl (f e))))→ze4 (za3 0) zc3 fe (T.map pD) (s::ext)=some ((T.map f).map D.bl)
 |[],s,_=>rfl
 |x::xs,s,h=>by
  have g1:za3 0 (pD x) (s::ext)=some (.val (pD x)::ext):=rfl
  simp only [zbn7,ze4,g1,zbn0,zc3,h x (zbn1 ..),if_true]
  rw [zbj4 xs _ fun e he=>h e (zbm9 _ he)]
  rfl
theorem allj_of {n:Nat}{T:List Ed} (hl:T.length≤200) {t:Th}{r:Ev} (h1:t[1]?=some (.val (.lst (T.map pD)))) (h2:t[2]?=some (.val (.int (n:Int)))):(dT1 qU (za2 (zf8 1 [2] (fsL (dVar 1)) (za3 0) zc3 (dT1 (zb8 zg0) (za2 (dVar 0) (za2 (dVar 1) dNil)))) dNil)) t=some (.cl (.bl (T.all (jnB n)))):=by
 have v1:dVar 1 t=some (.cl (.lst (T.map pD))):=by unfold dVar;rw [h1]
 have hc:capD t [2]=some (true,[.int (n:Int)]):=by
  simp [capD,h2]
 have c:(zf8 1 [2] (fsL (dVar 1)) (za3 0) zc3 (dT1 (zb8 zg0) (za2 (dVar 0) (za2 (dVar 1) dNil)))) t=some (.nw ((T.map (jnB n)).map D.bl)):=by
  unfold zf8
  have e1:fsL (dVar 1) t=some (true,T.map pD):=by
   unfold fsL
   rw [v1]
   rfl
  rw [e1,hc]
  simp only [zbn0]
  rw [if_pos (by simp;lia)]
  have e2:ze4 (za3 0) zc3 (dT1 (zb8 zg0) (za2 (dVar 0) (za2 (dVar 1) dNil))) (T.map pD) [.no,.val (.int (n:Int))]=some ((T.map (jnB n)).map D.bl):=zbj4 T _ fun e he=>by
   rw [zl0 (ra:=.cl (pD e)) (rb:=.cl (.int (n:Int))) rfl rfl]
   exact zl6 (joins_is n e) rfl
  show (ze4 (za3 0) zc3 (dT1 (zb8 zg0) (za2 (dVar 0) (za2 (dVar 1) dNil))) (T.map pD) [.no,.val (.int (n:Int))]).bind _=_
  rw [e2]
  simp only [zbn0,zac1,zbs2,if_true]
 have:=all_of c rfl
 rw [zbm3]at this
 exact this
theorem ltv_of {fa fb:DE}{t:Th}{a b:Int} (h1:fa t=some (.cl (.int a))) (h2:fb t=some (.cl (.int b))):(d2 qL fa fb) t=some (.cl (.bl (decide (a<b)))):=by
 rw [zh5 h1 h2]
 rfl
theorem anyw_of {n:Nat}{M:List (List Int)} (S:Sq n M) (n1:n≤40) {P:List Int}{V:Int→Int}{s:Int} (hs:InN n s) (hp:∀v,InN n v→v∈P) {t:Th} (h0:t[0]?=some (.val (mD M))) (h2:t[2]?=some (.val (.int (n:Int)))) (h4:t[4]?=some (.val (.int s))) (h5:t[5]?=some (.dp (dV P V))) :
  (dT1 qY (za2 (zf8 1 [5,0,4] (fsR1 (dVar 2)) (za3 0) zc3 feW) dNil)) t=some (.cl (.bl ((zb9 n).any fun v=>decide (wM n M s v<V v)))):=by
 have v0:dVar 0 t=some (.cl (mD M)):=by unfold dVar;rw [h0]
 have v2:dVar 2 t=some (.cl (.int (n:Int))):=by unfold dVar;rw [h2]
 have v4:dVar 4 t=some (.cl (.int s)):=by unfold dVar;rw [h4]
 have v5:dVar 5 t=some (.tm (dV P V)):=by unfold dVar;rw [h5]
 have hc:capD t [5,0,4]=some (false,[dV P V,mD M,.int s]):=by
  simp [capD,h0,h4,h5]
 have c:(zf8 1 [5,0,4] (fsR1 (dVar 2)) (za3 0) zc3 feW) t=some (.nw (((zb9 n).map fun v=>decide (wM n M s v<V v)).map D.bl)):=by
  unfold zf8
  rw [zae0 v2 (by lia),hc]
  simp only [zbn0]
  rw [if_pos (by simp [zb9];lia)]
  have e2:ze4 (za3 0) zc3 feW ((zb9 n).map D.int) [.no,.val (dV P V),.val (mD M),.val (.int s)]=some (((zb9 n).map fun v=>decide (wM n M s v<V v)).map D.bl):=zbj6 (zb9 n) _ fun v hv=>by
   have rv:=zg5 hv
   let u:Th:=[.val (.int v),.val (dV P V),.val (mD M),.val (.int s)]
   have g1:=zr6 (t:=u) (fa:=dVar 2) (fb:=dVar 3) (fc:=dVar 0) (r1:=.cl (mD M)) S (i:=s) (j:=v) rfl rfl rfl rfl hs.1 hs.2 rv.1 rv.2
   rw [← zai8 hs.1 hs.2 rv.1 rv.2]at g1
   have g2:=zz5 (t:=u) (fa:=dVar 1) (fb:=dVar 0) (P:=P) (V:=V) (p:=v) (ra:=.cl (dV P V)) (rb:=.cl (.int v)) rfl rfl rfl rfl (hp v rv)
   exact ltv_of g1 g2
  show (ze4 (za3 0) zc3 feW ((zb9 n).map D.int) [.no,.val (dV P V),.val (mD M),.val (.int s)]).bind _=_
  rw [e2]
  simp only [zbn0,zac1,zbs2,if_true]
 have:=any_of c rfl
 rw [zbm1]at this
 exact this
theorem zat1 {G:List D→Option Ev}{rs:List Ev}{d:D} (h:G (rs.map Ev.d)=some (.dn d)) (hr:∀r∈rs,r.ok=true):zb8 G rs=some (.dn d):=by
 unfold zb8
 rw [h]
 have:rs.all Ev.ok=true:=zbt9.mpr hr
 simp [this,upEv]
noncomputable def tSh (n:Nat) (M:List (List Int)) (T:List Ed) (s4 s5:Sl):Th:=[.val (mD M),.val (.lst (T.map pD)),.val (.int (n:Int)),.val (mD (rwM n (nbF T))),s4,s5]
noncomputable def WyS (n:Nat) (w:Int→Int→Int) (T:List Ed) (s:Int):Prop := ∀v,InN n v→∀r es m,Wy T w s v r es m→m≤w s v
theorem turn_R {n:Nat}{M:List (List Int)} (S:Sq n M) (sy:SyM n M) (n0:0<n) (n1:n≤40) {T:List Ed} (hl:T.length+1=n) (hT:∀e∈T,e.1≠e.2∧InN n e.1∧InN n e.2) (cn:∀v,InN n v→Cn [0] T v) {s:Int} (hs:InN n s) (s5:Sl) :
  (WyS n (wM n M) T s∧∃u5,bdR (tSh n M T (.val (.int s)) s5)=some (.nx (tSh n M T (.val (.int s)) u5)))∨(¬ WyS n (wM n M) T s∧bdR (tSh n M T (.val (.int s)) s5)=some (.rt (.cl (.bl false)))):=by
 obtain⟨P,V,hd,eg⟩:=zbb6 S n1 (T:=T) (fun e he=>(hT e he).2) hs
 have E1:dAsg 5 (dT1 (zb8 zd3) (za2 (dVar 0) (za2 (dVar 3) (za2 (dVar 4) dNil)))) (tSh n M T (.val (.int s)) s5)=some (.nx (tSh n M T (.val (.int s)) (.dp (dV P V)))):=by
  unfold dAsg
  rw [zad3 (ra:=.cl (mD M)) (rb:=.cl (mD (rwM n (nbF T)))) (rc:=.cl (.int s)) rfl rfl rfl,zat1 eg (by simp [Ev.ok])]
  rfl
 have al:∀v,InN n v→v∈P:=fun v hv=>hd.all ((cn v hv).via fun z hz=>by rw [zbn3.mp hz];exact (cn s hs).sym)
 have c:=anyw_of S n1 (P:=P) (V:=V) hs al (t:=tSh n M T (.val (.int s)) (.dp (dV P V))) rfl rfl rfl rfl
 have key:((zb9 n).any fun v=>decide (wM n M s v<V v))=false↔WyS n (wM n M) T s:=by
  rw [zcc8]
  constructor
  ·intro h v hv r es m wy
   have h1:=h v (zn2 hv.1 hv.2)
   simp only [decide_eq_true_eq,Int.not_lt]at h1
   obtain⟨r',es',wy',_⟩:=hd.wy v (al v hv)
   refine zbw7 ?_ h1
   refine zbb5 (S:=[0]) (U:=zj3 n) (wM_sy n0 sy) (zx3 n) (fun v hv z=>?_) (by simp) ?_ (fun e he=>?_) (fun v hv=>cn v ?_) wy wy'
   ·have:=zn3 hv;simp at z;lia
   ·simp [zj3];lia
   ·have q:∀x,InN n x→x∈[0]∨x∈zj3 n:=fun x hx=>by
     by_cases z:x=0
     ·exact .inl (by simp [z])
     ·have:=hx.1;exact .inr (zaw0 (by lia) hx.2)
    exact⟨q _ (hT e he).2.1,q _ (hT e he).2.2⟩
   ·have:=zn3 hv;exact⟨by lia,this.2⟩
  ·intro h v hv
   simp only [decide_eq_true_eq,Int.not_lt]
   obtain⟨r',es',wy',_⟩:=hd.wy v (al v (zg5 hv))
   exact h v (zg5 hv) _ _ _ wy'
 by_cases z:((zb9 n).any fun v=>decide (wM n M s v<V v))=false
 ·rw [z]at c
  exact .inl ⟨key.mp z,_,(za7 E1).trans (grd (zay6 c) rfl)⟩
 ·have z':((zb9 n).any fun v=>decide (wM n M s v<V v))=true:=by simpa using z
  rw [z']at c
  exact .inr ⟨fun h=>z (key.mpr h),(za7 E1).trans (zah3 (zay6 c) rfl)⟩
theorem loop_R {n:Nat}{M:List (List Int)} (S:Sq n M) (sy:SyM n M) (n0:0<n) (n1:n≤40) {T:List Ed} (hl:T.length+1=n) (hT:∀e∈T,e.1≠e.2∧InN n e.1∧InN n e.2) (cn:∀v,InN n v→Cn [0] T v):∀(l:List Int) (s4 s5:Sl),(∀x∈l,InN n x) →
  ((∀s∈l,WyS n (wM n M) T s)∧∃u4 u5,forD (za3 4) bdR (l.map D.int) (tSh n M T s4 s5)=some (.nx (tSh n M T u4 u5)))∨((¬ ∀s∈l,WyS n (wM n M) T s)∧forD (za3 4) bdR (l.map D.int) (tSh n M T s4 s5)=some (.rt (.cl (.bl false))))
 |[],s4,s5,_=>.inl ⟨(fun _ h=>nomatch h),s4,s5,rfl⟩
 |s::l,s4,s5,h=>by
  have e0:za3 4 (.int s) (tSh n M T s4 s5)=some (tSh n M T (.val (.int s)) s5):=rfl
  rcases turn_R S sy n0 n1 hl hT cn (h s (zbn1 ..)) s5 with ⟨a,u5,eb⟩ | ⟨a,eb⟩
  ·rcases loop_R S sy n0 n1 hl hT cn l (.val (.int s)) u5 (fun x hx=>h x (zbm9 _ hx)) with ⟨b,v4,v5,ih⟩ | ⟨b,ih⟩
   ·refine .inl ⟨fun x hx=>?_,v4,v5,?_⟩
    ·rcases zbn5.mp hx with rfl | hx
     ·exact a
     ·exact b x hx
    ·simp only [zbn7,forD,e0,zbn0]
     rw [eb]
     exact ih
   ·refine .inr ⟨fun z=>b fun x hx=>z x (zbm9 _ hx),?_⟩
    simp only [zbn7,forD,e0,zbn0]
    rw [eb]
    exact ih
  ·refine .inr ⟨fun z=>a (z s (zbn1 ..)),?_⟩
   simp only [zbn7,forD,e0,zbn0]
   rw [eb]
   rfl
theorem zap4 {n:Nat}{M:List (List Int)} (S:Sq n M) (sy:SyM n M) (n0:0<n) (n1:n≤40) {T:List Ed} (tl:T.length≤200):∃b:Bool,zf4 [mD M,.lst (T.map pD)]=some (.cl (.bl b))∧(b=true↔TreeOk n (wM n M) T):=by
 let s1:Sl:=.val (.lst (T.map pD))
 let t1:Th:=[.val (mD M),s1,.val (.int (n:Int)),.no,.no,.no]
 have ln:=zx2 (f:=dVar 0) (t:=[.val (mD M),s1,.no,.no,.no,.no]) (r:=.cl (mD M)) rfl rfl
 rw [S.len]at ln
 have E1:=ze3 (i:=2) ln (by simp)
 have lt:(dT1 kLen (za2 (dVar 1) dNil)) t1=some (.cl (.int (T.length:Int))):=by
  rw [zl9 (ra:=.cl (.lst (T.map pD))) rfl]
  show some (Ev.cl (.int ((T.map pD).length:Int)))=_
  rw [zbo0]
 have c1:=zbf1 lt (zt0 (fa:=dVar 2) (fb:=dC (.int 1)) (t:=t1) (a:=(n:Int)) (b:=1) rfl rfl)
 have c2:=zav7 (zay6 (allj_of (n:=n) (T:=T) tl (t:=t1) (r:=.cl .non) rfl rfl))
 have c3:=zy0 c1 c2
 show ∃b,(zj2 [.val (mD M),s1,.no,.no,.no,.no]).bind zm2=_∧_
 by_cases ok:(T.length:Int)=(n:Int) - 1∧T.all (jnB n)=true
 ·have hl:T.length+1=n:=by have:=ok.1;lia
  have hT:∀e∈T,e.1≠e.2∧InN n e.1∧InN n e.2:=fun e he=>jnB_iff.mp (zbt9.mp ok.2 e he)
  have E2:=grd (g:=dRet (dC (.bl false))) c3 (by simp [ok.1,ok.2])
  have nb:=nb_is (n:=n) (T:=T) n1 tl (fun e he=>(hT e he).2)
  have E3:dAsg 3 (dT1 (zb8 zk3) (za2 (dT1 kTup (za2 (dVar 2) (za2 (dVar 1) dNil))) dNil)) t1=some (.nx [.val (mD M),s1,.val (.int (n:Int)),.dp (mD (rwM n (nbF T))),.no,.no]):=by
   unfold dAsg
   rw [zl9 (ra:=.cl (.tup [.int (n:Int),.lst (T.map pD)])) rfl,zat1 nb (by simp [Ev.ok])]
   rfl
  obtain⟨P,V,hd,eg⟩:=zbb6 S n1 (T:=T) (fun e he=>(hT e he).2) (s:=0) ⟨zbw8 0,by lia⟩
  have lw:(dT1 zam7 (za2 (dT1 (zb8 zd3) (za2 (dVar 0) (za2 (dVar 3) (za2 (dC (.int 0)) dNil)))) dNil)) (tSh n M T .no .no)=some (.cl (.int (P.length:Int))):=by
   refine lenV_of (P:=P) (V:=V) (r:=.dn (dV P V)) ?_ rfl
   rw [zad3 (ra:=.cl (mD M)) (rb:=.cl (mD (rwM n (nbF T)))) (rc:=.cl (.int 0)) rfl rfl rfl]
   exact zat1 eg (by simp [Ev.ok])
  have c4:=zbf1 lw (rfl:dVar 2 (tSh n M T .no .no)=some (.cl (.int (n:Int))))
  by_cases cn:P.length=n
  ·have cn':=hd.full.mp cn
   have E4:dFrz 3 (dIfS (dBo (d2 kNe (dT1 zam7 (za2 (dT1 (zb8 zd3) (za2 (dVar 0) (za2 (dVar 3) (za2 (dC (.int 0)) dNil)))) dNil)) (dVar 2))) (dRet (dC (.bl false))) zh4) [.val (mD M),s1,.val (.int (n:Int)),.dp (mD (rwM n (nbF T))),.no,.no]=some (.nx (tSh n M T .no .no)):=grd c4 (by simp [cn])
   have fr:zi3 (za3 4) (dVar 2) bdR (tSh n M T .no .no)=forD (za3 4) bdR ((zb9 n).map D.int) (tSh n M T .no .no):=zm0 (r:=.cl (.int (n:Int))) rfl rfl (by lia)
   rcases loop_R S sy n0 n1 hl hT cn' (zb9 n) .no .no (fun x hx=>zg5 hx) with ⟨a,u4,u5,E5⟩ | ⟨a,E5⟩
   ·refine⟨true,bnd ((za7 E1).trans ((za7 E2).trans ((za7 E3).trans ((za7 E4).trans ((za7 (fr.trans E5)).trans rfl))))),fun _=>⟨hl,hT,cn',fun s v hs hv=>a s (zn2 hs.1 hs.2) v hv⟩,fun _=>rfl⟩
   ·refine⟨false,bnd ((za7 E1).trans ((za7 E2).trans ((za7 E3).trans ((za7 E4).trans (seq_rt (fr.trans E5)))))),(fun z=>nomatch z),fun z=>absurd (fun s hs v hv=>z.wy s v (zg5 hs) hv) a⟩
  ·have nm:(!decide ((P.length:Int)=(n:Int)))=true:=by
    have : ¬ (P.length:Int)=(n:Int):=by lia
    simp [this]
   have E4:dFrz 3 (dIfS (dBo (d2 kNe (dT1 zam7 (za2 (dT1 (zb8 zd3) (za2 (dVar 0) (za2 (dVar 3) (za2 (dC (.int 0)) dNil)))) dNil)) (dVar 2))) (dRet (dC (.bl false))) zh4) [.val (mD M),s1,.val (.int (n:Int)),.dp (mD (rwM n (nbF T))),.no,.no]=some (.rt (.cl (.bl false))):=zah3 c4 nm
   refine⟨false,bnd ((za7 E1).trans ((za7 E2).trans ((za7 E3).trans (seq_rt E4)))),(fun z=>nomatch z),fun z=>absurd (hd.full.mpr z.cn) cn⟩
 ·have E2:dIfS (dOr (dBo (d2 kNe (dT1 kLen (za2 (dVar 1) dNil)) (d2 qS (dVar 2) (dC (.int 1))))) (dNot (dTr (dT1 qU (za2 (zf8 1 [2] (fsL (dVar 1)) (za3 0) zc3 (dT1 (zb8 zg0) (za2 (dVar 0) (za2 (dVar 1) dNil)))) dNil))))) (dRet (dC (.bl false))) zh4 t1=some (.rt (.cl (.bl false))):=zah3 c3 (by
   by_cases z:(T.length:Int)=(n:Int) - 1
   ·have:T.all (jnB n)=false:=by
     cases q:T.all (jnB n) with
     |false=>rfl
     |true=>exact absurd ⟨z,q⟩ ok
    simp [this]
   ·simp [z])
  refine⟨false,bnd ((za7 E1).trans (seq_rt E2)),(fun z=>nomatch z),fun z=>absurd ⟨by have:=z.len;lia,zbt9.mpr fun e he=>jnB_iff.mpr (z.ends e he)⟩ ok⟩
theorem wM_bd {n:Nat}{M:List (List Int)} (n0:0<n) (B:BdM n M) (a b:Int):wM n M a b≤1000000000000:=B _ _ (zbv6 _ n0) (zbv6 _ n0)
theorem zaf1:∀(M:List (List Int)) (s:Sl),zi0 (za3 0) zc3 (dT1 zm7 (za2 (dVar 0) dNil)) (M.map rwD) [s]=some (M.map rwD)
 |[],s=>rfl
 |r::M,s=>by
  have e0:za3 0 (rwD r) [s]=some [.val (rwD r)]:=rfl
  have e1:=zar5 (f:=dVar 0) (t:=[.val (rwD r)]) (r:=.cl (rwD r)) (xs:=r) rfl rfl
  have e2:toDn (.nw (r.map D.int))=some (rwD r):=by simp only [toDn,ze9,if_true];rfl
  have ih:=zaf1 M (.val (rwD r))
  simp only [zbn7,zi0,e0,zbn0,zc3,if_true,e1,e2,ih,zbq3]
theorem comp_T {n:Nat}{M:List (List Int)} (S:Sq n M):∀(T:List Ed) (s0 s1:Sl),(∀e∈T,(0≤e.1∧e.1<(n:Int))∧0≤e.2∧e.2<(n:Int))→ze4 (zh2 2 (zc0 (za3 0) (zc0 (za3 1) zh3))) zc3 feT (T.map pD) [s0,s1,.val (mD M)]=some ((T.map fun e=>wM n M e.1 e.2).map D.int)
 |[],s0,s1,_=>rfl
 |e::T,s0,s1,h=>by
  obtain⟨h1,h2⟩:=h e (zbn1 ..)
  let t:Th:=[.val (.int e.1),.val (.int e.2),.val (mD M)]
  have e0:(zh2 2 (zc0 (za3 0) (zc0 (za3 1) zh3))) (pD e) [s0,s1,.val (mD M)]=some t:=rfl
  have e1:=zr6 S (fa:=dVar 2) (fb:=dVar 0) (fc:=dVar 1) (t:=t) (r1:=.cl (mD M)) (i:=e.1) (j:=e.2) rfl rfl rfl rfl h1.1 h1.2 h2.1 h2.2
  have ih:=comp_T S T (.val (.int e.1)) (.val (.int e.2)) fun q hq=>h q (zbm9 _ hq)
  rw [← zai8 h1.1 h1.2 h2.1 h2.2]at e1
  simp only [zbn7,ze4,e0,zbn0,zc3,if_true,show feT t=_ from e1]
  rw [show ze4 (zh2 2 (zc0 (za3 0) (zc0 (za3 1) zh3))) zc3 feT (T.map pD) t=_ from ih]
  rfl
theorem zau7 {k0:D→Th→Option Th}{b:DS}{t:Th}{f f':DE}{lo n:Int}{k:Nat} (h1:f t=some (.cl (.int lo))) (h2:f' t=some (.cl (.int n))) (hk:(n - lo).toNat=k) (hb:(bigI n&&bigI lo)=true):zba5 k0 f f' b t=forD k0 b (rngD lo k) t:=by
 unfold zba5
 rw [h1,h2]
 show (if bigI n&&bigI lo then forD k0 b (rngD lo (n - lo).toNat) t else none)=_
 rw [if_pos hb,hk]
theorem sumT_of {t:Th}{i j:Nat}{n:Nat}{M:List (List Int)} (S:Sq n M) {T:List Ed} (lT:T.length≤200) (h:∀e∈T,InN n e.1∧InN n e.2) (h1:t[i]?=some (.val (mD M))) {r:Ev} (h4:dVar j t=some r) (hr:r.d=.lst (T.map pD)):(dT1 kSum (za2 (zf8 2 [i] (fsL (dVar j)) (zh2 2 (zc0 (za3 0) (zc0 (za3 1) zh3))) zc3 feT) dNil)) t=some (.cl (.int (wtE (wM n M) T))):=by
 have c:(zf8 2 [i] (fsL (dVar j)) (zh2 2 (zc0 (za3 0) (zc0 (za3 1) zh3))) zc3 feT) t=some (.nw ((T.map fun e=>wM n M e.1 e.2).map D.int)):=by
  have hc:capD t [i]=some (true,[mD M]):=by simp [capD,h1]
  unfold zf8 fsL
  rw [h4,hc]
  simp only [zbn0,hr]
  show (if (T.map pD).length≤50000 then (ze4 (zh2 2 (zc0 (za3 0) (zc0 (za3 1) zh3))) zc3 feT (T.map pD) [Sl.no,Sl.no,.val (mD M)]).bind _ else none)=_
  rw [if_pos (by rw [zbo0];lia),comp_T S T .no .no h]
  simp only [zbn0,ze9,zbs2,if_true]
 exact zbc6 c rfl
theorem zao9 {w:Int→Int→Int}{B:Int} (h:∀a b,w a b≤B):∀T:List Ed,wtE w T≤(T.length:Int)*B
 |[]=>by simp [wtE]
 |e::T=>by
  have:=zao9 h T
  have:=h e.1 e.2
  rw [zv0,zbp9,Int.natCast_add,Int.add_mul]
  lia
theorem zbk0 {n:Nat}{C:List Int} (n0:0<n) (pc:C.Perm (zb9 n)):CIn n C∧C.length=n:=by
 have l:C.length=n:=by rw [pc.length_eq,ze2]
 exact⟨⟨by lia,fun x hx=>zg5 (pc.mem_iff.mp hx)⟩,l⟩
theorem lev_of {fa fb:DE}{t:Th}{a b:Int} (h1:fa t=some (.cl (.int a))) (h2:fb t=some (.cl (.int b))):(d2 qE fa fb) t=some (.cl (.bl (decide (a≤b)))):=by
 rw [zh5 h1 h2]
 rfl
structure LetT (n:Nat) (w:Int→Int→Int) (C:List Int) (T:List Ed):Prop where
 pc:C.Perm (zb9 n)
 tr:TreeOk n w T
 le:cyc w C≤2*wtE w T
theorem zar6 {n:Nat}{M:List (List Int)} (R:Rds n M) (sy:SyM n M) (B:BdM n M) (n0:0<n) (n1:n≤40) {C:List Int}{T:List Ed} (cl:C.length<64) (tl:T.length≤200):∃b:Bool,ze0 [mD M,.lst (C.map D.int),.lst (T.map pD)]=some (.cl (.bl b))∧(b=true↔LetT n (wM n M) C T):=by
 have S:=R.sq
 let t:Th:=[.val (mD M),.val (.lst (C.map D.int)),.val (.lst (T.map pD))]
 have ln:=zx2 (f:=dVar 0) (t:=t) (r:=.cl (mD M)) rfl rfl
 rw [S.len]at ln
 have c1:=nel_of (zg7 C) (zb9 n) (zau3 (f:=dVar 1) (t:=t) (r:=.cl (.lst (C.map D.int))) rfl rfl cl) (lr_of ln (by lia)) rfl rfl
 obtain⟨b,eb,hb⟩:=zap4 S sy n0 n1 (T:=T) tl
 have c2:(dNot (dTr (dT1 (zb8 zf4) (za2 (dVar 0) (za2 (dVar 2) dNil))))) t=some (!b):=zav7 (zay6 ((zl0 (ra:=.cl (mD M)) (rb:=.cl (.lst (T.map pD))) rfl rfl).trans (zl6 eb rfl)))
 have c3:=zy0 c1 c2
 show ∃b,(zu2 t).bind zm2=_∧_
 by_cases pc:C.Perm (zb9 n)
 ·have e1:(!decide (zg7 C=zb9 n))=false:=by simp [sort_iff.mpr pc]
  rw [e1]at c3
  cases b with
  |false =>
   refine⟨false,bnd (seq_rt (zah3 c3 rfl)),(fun z=>nomatch z),fun z=>?_⟩
   have:=hb.mpr z.tr
   cases this
  |true =>
   have tr:=hb.mp rfl
   obtain⟨I,lc⟩:=zbk0 n0 pc
   have g1:(dT1 (zb8 zm3) (za2 (dVar 0) (za2 (dVar 1) dNil))) t=some (.cl (.int (cyc (wM n M) C))):=(zl0 (ra:=.cl (mD M)) (rb:=.cl (.lst (C.map D.int))) rfl rfl).trans (zl6 (zbg5 S I (by lia)) rfl)
   have g2:=sumT_of (t:=t) (i:=0) (j:=2) S tl (fun e he=>(tr.ends e he).2) rfl (r:=.cl (.lst (T.map pD))) rfl rfl
   have b0:0≤wtE (wM n M) T:=zba9 fun e _=>wM_nn n0 R _ _
   have b1:=zao9 (wM_bd n0 B) T
   have g3:=zq8 (fa:=dC (.int 2)) (a:=2) (t:=t) rfl g2 (sm_of (by decide) (by decide)) (sm_of (by lia) (by lia))
   have g4:=lev_of g1 g3
   refine⟨decide (cyc (wM n M) C≤2*wtE (wM n M) T),bnd ((za7 (grd c3 rfl)).trans (zaa4 g4)),fun z=>⟨pc,tr,of_decide_eq_true z⟩,fun z=>decide_eq_true z.le⟩
 ·have e1:(!decide (zg7 C=zb9 n))=true:=by
   have : ¬ zg7 C=zb9 n:=fun z=>pc (sort_iff.mp z)
   simp [this]
  rw [e1,zcb3]at c3
  exact⟨false,bnd (seq_rt (zah3 c3 rfl)),(fun z=>nomatch z),fun z=>absurd z.pc pc⟩
theorem zq4 {n:Nat}{x:Int} (h:InN n x):x∈[0]∨x∈zj3 n:=by
 by_cases z:x=0
 ·exact .inl (by simp [z])
 ·have:=h.1;exact .inr (zaw0 (by lia) h.2)
theorem zar7 {n:Nat}{x:Int} (n0:0<n) (h:x∈[0]∨x∈zj3 n):InN n x:=by
 rcases h with z | z
 ·rw [zbn3.mp z];exact⟨zbw8 0,by lia⟩
 ·have:=zn3 z;exact⟨by lia,this.2⟩
theorem zag8 {n:Nat}:∀v∈zj3 n,v∉[0]:=fun v hv h=>by have:=zn3 hv;simp at h;lia
theorem zaw3 (n:Nat):(zj3 n).length=n - 1:=by simp [zj3]
theorem prim_ne {w:Int→Int→Int}{S U:List Int}{T:List Ed} (h:Prim w S U T):U.Nodup→(∀v∈U,v∉S)→∀e∈T,e.1≠e.2:=by
 induction h with
 |nil=>exact fun _ _ e he=>nomatch he
 |@cons S U p x T hp hx _ _ ih =>
  intro nd hd e he
  rcases zbn5.mp he with rfl | he
  ·exact fun (z:p=x)=>hd x hx (z ▸ hp)
  ·exact ih (nd.erase x) (fun v hv z=>by
    have hv':=(List.Nodup.mem_erase_iff nd).mp hv
    rcases zbn2.mp z with q | q
    ·exact hd v hv'.2 q
    ·exact hv'.1 (zbn3.mp q)) e he
theorem own_let {n:Nat}{w:Int→Int→Int} (n0:0<n) (n1:n≤40) (nn:∀a b,0≤w a b) (sy:∀a b,w a b=w b a) (tri:∀a b c,w a c≤w a b+w b c) (zz:∀a,w a a=0) {T:List Ed} (pr:Prim w [0] (zj3 n) T) (lT:T.length=n - 1) (en:∀e∈T,(0≤e.1∧e.1<(n:Int))∧0≤e.2∧e.2<(n:Int)) (g:Grown [0] T) (pm:(T.map (·.2)).Perm (zj3 n)):LetT n w (trav (chI T) 59 [0]).1 T:=by
 have cn:∀v,InN n v→Cn [0] T v:=fun v hv=>by
  rcases zq4 hv with z | z
  ·exact .base z
  ·obtain⟨e,he,q⟩:=zbq8.mp (pm.mem_iff.mpr z)
   have:=zw5 (P:=Cn [0] T) g (fun v hv=>.base hv) (fun e he c=>.fw (u:=e.1) (v:=e.2) he c) e he
   rw [q]at this
   exact this
 have en':∀e∈T,InN n e.1∧InN n e.2:=fun e he=>en e he
 obtain⟨tn,tp⟩:=zy6 (n:=59) g (hngI T) (by lia)
 refine⟨?_,⟨by lia,fun e he=>⟨prim_ne pr (zx3 n) zag8 e he,en' e he⟩,cn,fun s v hs hv r es m k=>prim_way sy nn pr (zx3 n) zag8 (fun e he=>⟨zq4 (en' e he).1,zq4 (en' e he).2⟩) (fun v hv=>cn v (zar7 n0 (.inr hv))) (zq4 hs) (zq4 hv) k⟩,tour_le tri sy zz g (hngI T) (by lia)⟩
 refine tp.trans ((List.Perm.cons 0 pm).trans ?_)
 have:zb9 n=0::zj3 n:=by
  obtain⟨k,rfl⟩:∃k,n=k+1:=⟨n - 1,by lia⟩
  unfold zb9 zj3
  rw [zbv1]
  simp [Function.comp_def]
 rw [this]
noncomputable def Px (s:Sl) (T:List Ed):Prop:=s=.dp (.lst (T.map pD))∨s=.own (T.map pD)
theorem Px.var {s:Sl}{T:List Ed} (h:Px s T) {t:Th}{i:Nat} (e:t[i]?=some s):dVar i t=some (.tm (.lst (T.map pD))):=by
 unfold dVar
 rw [e]
 rcases h with rfl | rfl<;>rfl
theorem zbj5 {f:Ed→Ed}{fe:DE} (hf:∀e:Ed,fe [.val (.int e.1),.val (.int e.2)]=some (.cl (pD (f e)))):∀(T:List Ed) (s0 s1:Sl),ze4 (zh2 2 (zc0 (za3 0) (zc0 (za3 1) zh3))) zc3 fe (T.map pD) [s0,s1]=some ((T.map f).map pD)
 |[],s0,s1=>rfl
 |e::T,s0,s1=>by
  have e0:(zh2 2 (zc0 (za3 0) (zc0 (za3 1) zh3))) (pD e) [s0,s1]=some [.val (.int e.1),.val (.int e.2)]:=rfl
  simp only [zbn7,ze4,e0,zbn0,zc3,if_true,hf e]
  rw [zbj5 hf T]
  rfl
theorem swap_of {t:Th}{f:DE}{r:Ev}{T:List Ed} (h:f t=some r) (hr:r.d=.lst (T.map pD)) (hl:T.length≤1000):(zf8 2 [] (fsL f) (zh2 2 (zc0 (za3 0) (zc0 (za3 1) zh3))) zc3 (dT1 kTup (za2 (dVar 1) (za2 (dVar 0) dNil)))) t=some (.nw ((T.map fun e=>(e.2,e.1)).map pD)):=by
 unfold zf8 fsL
 rw [h]
 simp only [zbn0,hr]
 have hc:capD t []=some (true,[]):=rfl
 rw [hc]
 simp only [zbn0]
 rw [if_pos (by rw [zbo0];lia)]
 have:=zbj5 (f:=fun e=>(e.2,e.1)) (fe:=dT1 kTup (za2 (dVar 1) (za2 (dVar 0) dNil))) (fun e=>rfl) T .no .no
 show (ze4 (zh2 2 (zc0 (za3 0) (zc0 (za3 1) zh3))) zc3 (dT1 kTup (za2 (dVar 1) (za2 (dVar 0) dNil))) (T.map pD) [Sl.no,Sl.no]).bind _=_
 rw [this]
 simp only [zbn0,zl5,zbs2,if_true]
theorem lrevp_of {f:DE}{t:Th}{r:Ev}{T:List Ed} (h:f t=some r) (hr:r.d=.lst (T.map pD)) (hl:T.length≤50000):(dT1 zw2 (za2 f dNil)) t=some (.nw (T.reverse.map pD)):=by
 rw [zl9 h]
 unfold zw2
 simp only [hr,zl5,zbs2,zbz3,zbo0]
 rw [if_pos (decide_eq_true hl),List.map_reverse]
theorem zax4 {fs:DL.DI}{fe:DE}{t:Th}{xs:List Int}{f:Int→Ed}{b:Bool} (hs:fs t=some (b,xs.map D.int)) (hl:xs.length≤50000) (he:∀x:Int,fe [.val (.int x)]=some (.cl (pD (f x)))):(zf8 1 [] fs (za3 0) zc3 fe) t=some (.nw ((xs.map f).map pD)):=by
 unfold zf8
 have hc:capD t []=some (true,[]):=rfl
 rw [hs,hc]
 simp only [zbn0]
 rw [if_pos (by rw [zbo0];exact hl)]
 have:=zan7 (k:=za3 0) (fe:=fe) (f:=fun x=>pD (f x)) (ext:=[]) (fun _ _=>rfl) (fun _=>rfl) xs .no (fun x _=>⟨_,he x,rfl⟩)
 show (ze4 (za3 0) zc3 fe (xs.map D.int) [Sl.no]).bind _=_
 rw [this]
 have e:xs.map (fun x=>pD (f x))=(xs.map f).map pD:=by rw [zbu5];rfl
 rw [e]
 simp only [zbn0,zl5,zbs2,if_true]
theorem rng2_is {f f':DE}{t:Th}{lo n:Nat} (h1:f t=some (.cl (.int (lo:Int)))) (h2:f' t=some (.cl (.int (n:Int)))) (hn:n≤10000) (hl:lo≤10000):fsR2 f f' t=some (true,((zbp2 (n - lo)).map fun (i:Nat)=>(lo:Int)+(i:Int)).map D.int):=by
 unfold fsR2
 rw [h1,h2]
 simp only [zbn0,Ev.d]
 rw [if_pos (by unfold bigI;simp;lia)]
 congr 2
 unfold rngD
 rw [zbu5,show ((n:Int) - (lo:Int)).toNat=n - lo by lia]
 rfl
theorem rep_pD (e:Ed):∀m:Nat,(zbn4 m [pD e]).flatten=(zbn4 m e).map pD
 |0=>rfl
 |m+1=>by simp [zbq9,rep_pD e m]
theorem repp_of {fa fb:DE}{t:Th}{e:Ed}{m:Nat} (h1:fa t=some (.cl (pD e))) (h2:fb t=some (.cl (.int (m:Int)))) (hm:m≤900):(d2 qM (dT1 kLst (za2 fa dNil)) fb) t=some (.nw ((zbn4 m e).map pD)):=by
 rw [zh5 ((zl9 h1).trans (rfl:kLst [.cl (pD e)]=some (.nw [pD e]))) h2]
 show (if ([pD e].length≤100&&decide (-1000000≤(m:Int)∧(m:Int)≤1000))=true then some (Ev.nw (zbn4 (m:Int).toNat [pD e]).flatten) else none)=_
 rw [if_pos (by simp;lia),zbs8,rep_pD]
theorem zw8 {fa fb:DE}{t:Th}{a b:Int} (h1:fa t=some (.cl (.int a))) (h2:fb t=some (.cl (.int b))):(dT1 kTup (za2 fa (za2 fb dNil))) t=some (.cl (pD (a,b))):=by
 rw [zl0 h1 h2]
 rfl
theorem app_pD {t:Th}{f:DE}{i:Nat}{T:List Ed}{e:Ed} (hf:f t=some (.cl (pD e))) (hi:t[i]?=some (.own (T.map pD))) (hl:T.length<10000):dApp i f t=some (.nx (t.set i (.own ((T++[e]).map pD)))):=by
 have:=zbm0 t hf hi (by rw [zbo0];lia)
 rw [this,zbs4]
 rfl
section
variable {n:Nat}{M:List (List Int)}{v nu w r:Int}
noncomputable def tP (n:Nat) (M:List (List Int)) (v nu w r:Int) (s3 s4 s8 s9 s10:Sl):Th:=[.val (mD M),.val (.int v),.val (.int (n:Int)),s3,s4,.val (.int nu),.val (.int w),.val (.int r),s8,s9,s10]
noncomputable def OkP (n:Nat) (M:List (List Int)) (v nu w r:Int) (c d:Nat) (t:Th):Prop := ∃s3 s4 s8 s9 s10 C T,t=tP n M v nu w r s3 s4 s8 s9 s10∧Lx s3 C∧Px s4 T∧C.length≤c∧T.length≤d∧(w=2→n=T.length+1)
theorem mm (x:Int) (q:Nat) (hq:0<q):∃k:Nat,k<q∧x.fmod (q:Int)=(k:Int):=by
 have f:=fm (a:=x) (b:=(q:Int)) (by lia)
 exact⟨(x.fmod (q:Int)).toNat,by lia,by lia⟩
theorem ord_of {t:Th}{f g:DE}{x:Int} (hf:f t=some (.cl (.int x))) (hg:g t=some (.cl (.int (n:Int)))) (n1:n≤40):∃xs:List Int,xs.length=n∧(dT1 (zb8 zj5) (za2 f (za2 g dNil))) t=some (.nw (xs.map D.int)):=by
 obtain⟨xs,xl,e⟩:=order_is x (m:=n) (by lia)
 exact⟨xs,xl,(zl0 hf hg).trans (calln e)⟩
theorem far_of {t:Th}{f g:DE}{x:Int} (hf:f t=some (.cl (.int x))) (hg:g t=some (.cl (.int (n:Int)))) (n0:0<n) (n1:n≤40):∃y:Int,(dT1 (zb8 zm5) (za2 f (za2 g dNil))) t=some (.cl (.int y)):=by
 obtain⟨y,e⟩:=far_is x (m:=n) n0 (by lia)
 exact⟨y,(zl0 hf hg).trans (zl6 e rfl)⟩
theorem bk_A {c d:Nat}{t:Th} (hd:d≤1000) (h:OkP n M v nu w r c d t):∃t',bkA t=some (.nx t')∧OkP n M v nu w r c d t':=by
 obtain⟨s3,s4,s8,s9,s10,C,T,rfl,hC,hT,lc,lt,l2⟩:=h
 have cd:=zo8 (fa:=dVar 6) (fb:=dC (.int 0)) (t:=tP n M v nu w r s3 s4 s8 s9 s10) (a:=w) (b:=0) rfl rfl
 by_cases z:w=0
 ·have e1:=lrevp_of (swap_of (hT.var (t:=tP n M v nu w r s3 s4 s8 s9 s10) (i:=4) rfl) rfl (by lia)) rfl (by rw [zbo0];lia)
  exact⟨_,(zr7 cd (by simp [z])).trans (zn6 (i:=4) e1 (by simp [tP])),s3,_,s8,s9,s10,C,_,rfl,hC,.inr rfl,lc,by simp;exact lt,fun q=>by lia⟩
 ·exact⟨_,grd cd (by simp [z]),s3,s4,s8,s9,s10,C,T,rfl,hC,hT,lc,lt,l2⟩
theorem bk_B {c d:Nat}{t:Th} (n1:n≤40) (hc:n≤c) (h:OkP n M v nu w r c d t):∃t',bkB t=some (.nx t')∧OkP n M v nu w r c d t':=by
 obtain⟨s3,s4,s8,s9,s10,C,T,rfl,hC,hT,lc,lt,l2⟩:=h
 have cd:=zy0 (zo8 (fa:=dVar 6) (fb:=dC (.int 1)) (t:=tP n M v nu w r s3 s4 s8 s9 s10) (a:=w) (b:=1) rfl rfl) (zo8 (fa:=dVar 6) (fb:=dC (.int 2)) (t:=tP n M v nu w r s3 s4 s8 s9 s10) (a:=w) (b:=2) rfl rfl)
 cases z:(decide (w=1)||decide (w=2)) with
 |true =>
  obtain⟨xs,xl,e⟩:=ord_of (n:=n) (t:=tP n M v nu w r s3 s4 s8 s9 s10) (f:=dVar 7) (g:=dVar 2) (x:=r) rfl rfl n1
  exact⟨_,(zr7 cd z).trans (zn6 (i:=3) e (by simp [tP])),_,s4,s8,s9,s10,xs,T,rfl,.inr rfl,hT,by lia,lt,l2⟩
 |false=>exact⟨_,grd cd z,s3,s4,s8,s9,s10,C,T,rfl,hC,hT,lc,lt,l2⟩
theorem Px.thaw {s:Sl}{T:List Ed} (h:Px s T):thwD s=.own (T.map pD):=by
 rcases h with rfl | rfl
 ·show (if flats (T.map pD) then Sl.own (T.map pD) else _)=_
  rw [zl5];rfl
 ·rfl
theorem bk_C {c d:Nat}{t:Th} (n0:0<n) (n1:n≤40) (h:OkP n M v nu w r c d t):∃t',bkC t=some (.nx t')∧OkP n M v nu w r c d t':=by
 obtain⟨s3,s4,s8,s9,s10,C,T,rfl,hC,hT,lc,lt,l2⟩:=h
 have cd:=zai4 (zo8 (fa:=dVar 6) (fb:=dC (.int 2)) (t:=tP n M v nu w r s3 s4 s8 s9 s10) (a:=w) (b:=2) rfl rfl) (gt_of (fa:=dVar 2) (fb:=dC (.int 1)) (t:=tP n M v nu w r s3 s4 s8 s9 s10) (a:=(n:Int)) (b:=1) rfl rfl)
 cases z:(decide (w=2)&&decide ((1:Int)<(n:Int))) with
 |true =>
  have z':w=2∧(1:Int)<(n:Int):=by simpa using z
  have ln:=l2 z'.1
  let u:Th:=tP n M v nu w r s3 (.own (T.map pD)) s8 s9 s10
  have ek:=zd7 (fa:=dVar 5) (t:=u) (a:=nu) rfl (zt0 (fa:=dVar 2) (fb:=dC (.int 1)) (t:=u) (a:=(n:Int)) (b:=1) rfl rfl) (by lia)
  obtain⟨k,k1,ke⟩:=mm nu (n - 1) (by lia)
  rw [show (n:Int) - 1=((n - 1:Nat):Int) by lia,ke]at ek
  have ev:=zw8 (zd7 (fa:=dVar 7) (fb:=dVar 2) (t:=u) (a:=r) (b:=(n:Int)) rfl rfl (by lia)) (zd7 (zk1 (fa:=dVar 7) (fb:=dVar 2) (t:=u) (a:=r) (b:=(n:Int)) rfl rfl (by lia) (sm_of (by lia) (by lia))) (fb:=dVar 2) (b:=(n:Int)) rfl (by lia))
  have eb:zbj0 4 (d2 qR (dVar 5) (d2 qS (dVar 2) (dC (.int 1)))) (dT1 kTup (za2 (d2 qR (dVar 7) (dVar 2)) (za2 (d2 qR (d2 qV (dVar 7) (dVar 2)) (dVar 2)) dNil))) u=some (.nx (u.set 4 (.own ((T.set k (r.fmod (n:Int),(r.fdiv (n:Int)).fmod (n:Int))).map pD)))):=by
   unfold zbj0
   rw [ev,ek]
   simp only [zbn0]
   show ((ixN (T.map pD).length (k:Int)).map fun j=>Out.nx (u.set 4 (.own ((T.map pD).set j _))))=_
   rw [zt1 _ k (by rw [zbo0];lia),zcb5]
   rfl
  refine⟨_,(zr7 cd z).trans ?_,s3,.own ((T.set k (r.fmod (n:Int),(r.fdiv (n:Int)).fmod (n:Int))).map pD),s8,s9,s10,C,_,rfl,hC,.inr rfl,lc,by simpa using lt,fun q=>by simpa using l2 q⟩
  have et:thwT (tP n M v nu w r s3 s4 s8 s9 s10) 4=u:=by
   show (tP n M v nu w r s3 s4 s8 s9 s10).set 4 (thwD s4)=u
   rw [hT.thaw]
   rfl
  unfold dThw
  rw [et,eb]
  rfl
 |false=>exact⟨_,grd cd z,s3,s4,s8,s9,s10,C,T,rfl,hC,hT,lc,lt,l2⟩
theorem bk_D {c d:Nat}{t:Th} (n1:n≤40) (hc:n≤c) (hd:n≤d) (h:OkP n M v nu w r c d t):∃t',bkD t=some (.nx t')∧OkP n M v nu w r c d t':=by
 obtain⟨s3,s4,s8,s9,s10,C,T,rfl,hC,hT,lc,lt,l2⟩:=h
 have cd:=zai4 (zo8 (fa:=dVar 6) (fb:=dC (.int 3)) (t:=tP n M v nu w r s3 s4 s8 s9 s10) (a:=w) (b:=3) rfl rfl) (gt_of (fa:=dVar 2) (fb:=dC (.int 1)) (t:=tP n M v nu w r s3 s4 s8 s9 s10) (a:=(n:Int)) (b:=1) rfl rfl)
 cases z:(decide (w=3)&&decide ((1:Int)<(n:Int))) with
 |true =>
  have e1:=zax4 (fe:=(dT1 kTup (za2 (dC (.int 0)) (za2 (dVar 0) dNil)))) (f:=fun x=>(0,x)) (rng2_is (f:=dC (.int 1)) (f':=dVar 2) (t:=tP n M v nu w r s3 s4 s8 s9 s10) (lo:=1) (n:=n) rfl rfl (by lia) (by lia)) (by simp;lia) (fun x=>rfl)
  have E1:=zn6 (i:=4) e1 (by simp [tP])
  have e2:=lr_of (f:=dVar 2) (t:=(tP n M v nu w r s3 s4 s8 s9 s10).set 4 (.own ((((zbp2 (n - 1)).map fun (i:Nat)=>((1:Nat):Int)+(i:Int)).map fun x=>((0:Int),x)).map pD))) (n:=n) rfl (by lia)
  have E2:=zn6 (i:=3) e2 (by simp [tP])
  exact⟨_,(zr7 cd z).trans ((za7 E1).trans E2),_,_,s8,s9,s10,zb9 n,_,rfl,.inr rfl,.inr rfl,by rw [ze2];exact hc,by simp;lia,fun q=>by simp only [zbo2,decide_eq_true_eq]at z;lia⟩
 |false=>exact⟨_,grd cd z,s3,s4,s8,s9,s10,C,T,rfl,hC,hT,lc,lt,l2⟩
theorem turn_E (n0:0<n) (n1:n≤40) {s3 s9 s10:Sl}{T:List Ed}{k:Nat} (hk:k<1000) (tl:T.length<1000):∃(e:Ed) (u9:Sl),bdE (tP n M v nu w r s3 (.own (T.map pD)) (.val (.int (k:Int))) s9 s10)=some (.nx (tP n M v nu w r s3 (.own ((T++[e]).map pD)) (.val (.int (k:Int))) u9 s10)):=by
 let t1:Th:=tP n M v nu w r s3 (.own (T.map pD)) (.val (.int (k:Int))) s9 s10
 have E1:=ze3 (i:=9) (zd7 (zk1 (fa:=dVar 7) (t:=t1) (a:=r) rfl (zg6 (fa:=dVar 8) (fb:=dC (.int 1)) (t:=t1) (a:=(k:Int)) (b:=1) rfl rfl) (by lia) (sm_of (by lia) (by lia))) (fb:=dVar 2) (b:=(n:Int)) rfl (by lia)) (by simp [t1,tP])
 let x:Int:=(r.fdiv ((k:Int)+1)).fmod (n:Int)
 let t2:Th:=tP n M v nu w r s3 (.own (T.map pD)) (.val (.int (k:Int))) (.val (.int x)) s10
 obtain⟨y,E2⟩:∃y:Int,dIfS (dBo (d2 kEq (dVar 8) (d2 qR (dVar 7) (dC (.int 7))))) (dAsg 9 (dT1 (zb8 zm5) (za2 (dVar 5) (za2 (dVar 2) dNil)))) zh4 t2=some (.nx (tP n M v nu w r s3 (.own (T.map pD)) (.val (.int (k:Int))) (.val (.int y)) s10)):=by
  have cd:=zo8 (fa:=dVar 8) (t:=t2) (a:=(k:Int)) rfl (zd7 (fa:=dVar 7) (fb:=dC (.int 7)) (t:=t2) (a:=r) (b:=7) rfl rfl (by decide))
  cases z:decide ((k:Int)=r.fmod 7) with
  |true =>
   obtain⟨y,e⟩:=far_of (n:=n) (t:=t2) (f:=dVar 5) (g:=dVar 2) (x:=nu) rfl rfl n0 n1
   exact⟨y,(zr7 cd z).trans (ze3 (i:=9) e (by simp [t2,tP]))⟩
  |false=>exact⟨x,grd cd z⟩
 let t3:Th:=tP n M v nu w r s3 (.own (T.map pD)) (.val (.int (k:Int))) (.val (.int y)) s10
 have e3:=zw8 (fa:=dVar 9) (t:=t3) (a:=y) rfl (zd7 (zk1 (fa:=dVar 5) (t:=t3) (a:=nu) rfl (zg6 (fa:=dVar 8) (fb:=dC (.int 2)) (t:=t3) (a:=(k:Int)) (b:=2) rfl rfl) (by lia) (sm_of (by lia) (by lia))) (fb:=dVar 2) (b:=(n:Int)) rfl (by lia))
 have E3:=app_pD (i:=4) (T:=T) e3 rfl (by lia)
 exact⟨_,_,(za7 E1).trans ((za7 E2).trans E3)⟩
theorem bk_E {c d:Nat}{t:Th} (n0:0<n) (n1:n≤40) (hd:n≤d) (h:OkP n M v nu w r c d t):∃t',bkE t=some (.nx t')∧OkP n M v nu w r c d t':=by
 obtain⟨s3,s4,s8,s9,s10,C,T,rfl,hC,hT,lc,lt,l2⟩:=h
 have cd:=zo8 (fa:=dVar 6) (fb:=dC (.int 4)) (t:=tP n M v nu w r s3 s4 s8 s9 s10) (a:=w) (b:=4) rfl rfl
 by_cases z:w=4
 ·have E1:dAsg 4 (dT1 kLst dNil) (tP n M v nu w r s3 s4 s8 s9 s10)=some (.nx (tP n M v nu w r s3 (.own (([]:List Ed).map pD)) s8 s9 s10)):=rfl
  have es:=zt0 (fa:=dVar 2) (fb:=dC (.int 1)) (t:=tP n M v nu w r s3 (.own (([]:List Ed).map pD)) s8 s9 s10) (a:=(n:Int)) (b:=1) rfl rfl
  rw [show (n:Int) - 1=((n - 1:Nat):Int) by lia]at es
  have fr:=zm0 (k0:=za3 8) (b:=bdE) es rfl (by lia)
  obtain⟨t',E2,s8',s9',T',et,lt'⟩:=zae8 (k:=za3 8) (b:=bdE) (f:=fun (i:Nat)=>D.int (i:Int)) (n:=n - 1) (P:=fun i t => ∃s8 s9 T,t=tP n M v nu w r s3 (.own (T.map pD)) s8 s9 s10∧T.length=i) (fun i hi t ht=>by
   obtain⟨s8,s9,T,rfl,tl⟩:=ht
   obtain⟨e,u9,eb⟩:=turn_E (M:=M) (v:=v) (nu:=nu) (w:=w) (r:=r) n0 n1 (s3:=s3) (s9:=s9) (s10:=s10) (T:=T) (k:=i) (by lia) (by lia)
   exact⟨_,_,rfl,eb,_,_,T++[e],rfl,by simp [tl]⟩) (tP n M v nu w r s3 (.own (([]:List Ed).map pD)) s8 s9 s10) ⟨s8,s9,[],rfl,rfl⟩
  subst et
  have e3:(zb9 (n - 1)).map D.int=(zbp2 (n - 1)).map fun (i:Nat)=>D.int (i:Int):=by simp [zb9]
  rw [e3]at fr
  exact⟨_,(zr7 cd (by simp [z])).trans ((za7 E1).trans (fr.trans E2)),s3,_,s8',s9',s10,C,T',rfl,hC,.inr rfl,lc,by lia,fun q=>by lia⟩
 ·exact⟨_,grd cd (by simp [z]),s3,s4,s8,s9,s10,C,T,rfl,hC,hT,lc,lt,l2⟩
theorem bk_F {c d:Nat}{t:Th} (n0:0<n) (n1:n≤40) (hc:c≤1000) (h:OkP n M v nu w r c d t):∃t',bkF t=some (.nx t')∧OkP n M v nu w r (c+1) d t':=by
 obtain⟨s3,s4,s8,s9,s10,C,T,rfl,hC,hT,lc,lt,l2⟩:=h
 let t1:Th:=tP n M v nu w r s3 s4 s8 s9 s10
 have cd:=zo8 (fa:=dVar 6) (fb:=dC (.int 5)) (t:=t1) (a:=w) (b:=5) rfl rfl
 by_cases z:w=5
 ·obtain⟨y,e1⟩:=far_of (n:=n) (t:=t1) (g:=dVar 2) (zk1 (fa:=dVar 5) (fb:=dC (.int 64)) (t:=t1) (a:=nu) (b:=64) rfl rfl (by decide) (sm_of (by decide) (by decide))) rfl n0 n1
  have e2:=zd7 (zk1 (fa:=dVar 5) (fb:=dC (.int 8)) (t:=t1) (a:=nu) (b:=8) rfl rfl (by decide) (sm_of (by decide) (by decide))) (fb:=dC (.int 2)) (b:=2) rfl (by decide)
  obtain⟨k,k1,ke⟩:=mm (nu.fdiv 8) 2 (by decide)
  rw [show (nu.fdiv 8).fmod 2=(k:Int) from ke]at e2
  have E1:=zn6 (i:=10) (reps_of e1 e2 (by lia)) (by simp [t1,tP])
  let t2:Th:=tP n M v nu w r s3 s4 s8 s9 (.own ((zbn4 k y).map D.int))
  have e3:=zd7 (fa:=dVar 5) (t:=t2) (a:=nu) rfl (zg6 (fa:=dVar 2) (fb:=dC (.int 1)) (t:=t2) (a:=(n:Int)) (b:=1) rfl rfl) (by lia)
  obtain⟨q,e4⟩:=slu_of (hC.var (t:=t2) (i:=3) rfl) e3 rfl
  have e5:=cati_of e4 (rfl:dVar 10 t2=some (.tm (.lst ((zbn4 k y).map D.int)))) rfl rfl (by simp only [zbu9,zbr1];lia)
  have E2:=zn6 (i:=3) e5 (by simp [t2,tP])
  exact⟨_,(zr7 cd (by simp [z])).trans ((za7 (t':=t2) E1).trans E2),_,s4,s8,s9,_,_,T,rfl,.inr rfl,hT,by simp only [zbp6,zbu9,zbr1];lia,lt,l2⟩
 ·exact⟨_,grd cd (by simp [z]),s3,s4,s8,s9,s10,C,T,rfl,hC,hT,by lia,lt,l2⟩
theorem bk_G {c d:Nat}{t:Th} (n0:0<n) (n1:n≤40) (hd:d≤1000) (h:OkP n M v nu w r c d t):∃t',bkG t=some (.nx t')∧OkP n M v nu w r c (d+3) t':=by
 obtain⟨s3,s4,s8,s9,s10,C,T,rfl,hC,hT,lc,lt,l2⟩:=h
 let t1:Th:=tP n M v nu w r s3 s4 s8 s9 s10
 have cd:=zo8 (fa:=dVar 6) (fb:=dC (.int 6)) (t:=t1) (a:=w) (b:=6) rfl rfl
 by_cases z:w=6
 ·have e1:=zd7 (fa:=dVar 5) (fb:=dVar 2) (t:=t1) (a:=nu) (b:=(n:Int)) rfl rfl (by lia)
  obtain⟨k,k1,ke⟩:=mm nu n n0
  rw [ke]at e1
  have e2:=slu_pD (hT.var (t:=t1) (i:=4) rfl) e1 rfl
  have e3:=zd7 (zk1 (fa:=dVar 5) (fb:=dC (.int 64)) (t:=t1) (a:=nu) (b:=64) rfl rfl (by decide) (sm_of (by decide) (by decide))) (fb:=dC (.int 3)) (b:=3) rfl (by decide)
  obtain⟨q,q1,qe⟩:=mm (nu.fdiv 64) 3 (by decide)
  rw [show (nu.fdiv 64).fmod 3=(q:Int) from qe]at e3
  have e4:=repp_of (zw8 (fa:=dC (.int 0)) (t:=t1) (a:=0) rfl (zt0 (fa:=dVar 2) (fb:=dC (.int 1)) (t:=t1) (a:=(n:Int)) (b:=1) rfl rfl)) e3 (by lia)
  have e5:=cat_pD e2 e4 (by simp only [zbu9,zbr1];lia)
  exact⟨_,(zr7 cd (by simp [z])).trans (zn6 (i:=4) e5 (by simp [t1,tP])),s3,_,s8,s9,s10,C,_,rfl,hC,.inr rfl,lc,by simp only [zbp6,zbu9,zbr1];lia,fun q=>by lia⟩
 ·exact⟨_,grd cd (by simp [z]),s3,s4,s8,s9,s10,C,T,rfl,hC,hT,lc,by lia,l2⟩
theorem bk_H {c d:Nat}{t:Th} (n0:0<n) (n1:n≤40) (hc:n≤c) (hd:n≤d) (h:OkP n M v nu w r c d t):∃t',bkH t=some (.nx t')∧OkP n M v nu w r c d t':=by
 obtain⟨s3,s4,s8,s9,s10,C,T,rfl,hC,hT,lc,lt,l2⟩:=h
 let t1:Th:=tP n M v nu w r s3 s4 s8 s9 s10
 have cd:=zo8 (fa:=dVar 6) (fb:=dC (.int 7)) (t:=t1) (a:=w) (b:=7) rfl rfl
 by_cases z:w=7
 ·have es:=zt0 (fa:=dVar 2) (fb:=dC (.int 1)) (t:=t1) (a:=(n:Int)) (b:=1) rfl rfl
  rw [show (n:Int) - 1=((n - 1:Nat):Int) by lia]at es
  have e1:=zax4 (fe:=(dT1 kTup (za2 (dVar 0) (za2 (d2 qA (dVar 0) (dC (.int 1))) dNil)))) (f:=fun x=>(x,x+1)) (zae0 es (by lia)) (by rw [ze2];lia) (fun x=>rfl)
  have E1:=zn6 (i:=4) e1 (by simp [t1,tP])
  obtain⟨xs,xl,e2⟩:=ord_of (n:=n) (t:=t1.set 4 (.own (((zb9 (n - 1)).map fun x=>(x,x+1)).map pD))) (f:=dVar 7) (g:=dVar 2) (x:=r) rfl rfl n1
  have E2:=zn6 (i:=3) e2 (by simp [t1,tP])
  exact⟨_,(zr7 cd (by simp [z])).trans ((za7 E1).trans E2),_,_,s8,s9,s10,xs,_,rfl,.inr rfl,.inr rfl,by lia,by rw [zbo0,ze2];lia,fun q=>by lia⟩
 ·exact⟨_,grd cd (by simp [z]),s3,s4,s8,s9,s10,C,T,rfl,hC,hT,lc,lt,l2⟩
theorem paper_is {n:Nat}{M:List (List Int)} (R:Rds n M) (n0:0<n) (n1:n≤40) (v:Int):∃(C:List Int) (T:List Ed),C.length≤41∧T.length≤43∧zi8 [mD M,.int v]=some (.nw [rwD C,.lst (T.map pD)]):=by
 let a:Sl:=.val (mD M)
 let d:Sl:=.val (.int v)
 let N:Sl:=.val (.int (n:Int))
 have ln:=zx2 (f:=dVar 0) (t:=[a,d,.no,.no,.no,.no,.no,.no,.no,.no,.no]) (r:=.cl (mD M)) rfl rfl
 rw [R.sq.len]at ln
 have E1:=ze3 (i:=2) ln (by simp)
 obtain⟨T0,pr,lT,en,gr,pm,et⟩:=zaf3 R.sq n0 n1
 obtain⟨tn,tp⟩:=zy6 (n:=59) gr (hngI T0) (by lia)
 have lc:(trav (chI T0) 59 [0]).1.length≤40:=by rw [tp.length_eq];simp;lia
 generalize (trav (chI T0) 59 [0]).1=C0 at et lc
 have E2:zbj3 (zh2 2 (zc0 (zae6 3) (zc0 (zae6 4) zh3))) (dT1 (zb8 zd0) (za2 (dVar 0) dNil)) [a,d,N,.no,.no,.no,.no,.no,.no,.no,.no]=some (.nx [a,d,N,.dp (.lst (C0.map D.int)),.dp (.lst (T0.map pD)),.no,.no,.no,.no,.no,.no]):=by
  unfold zbj3
  rw [(zl9 (ra:=.cl (mD M)) rfl:(dT1 (zb8 zd0) (za2 (dVar 0) dNil)) [a,d,N,.no,.no,.no,.no,.no,.no,.no,.no]=_),zat1 (G:=zd0) (rs:=[.cl (mD M)]) et (by simp [Ev.ok])]
  rfl
 let t2:Th:=[a,d,N,.dp (.lst (C0.map D.int)),.dp (.lst (T0.map pD)),.no,.no,.no,.no,.no,.no]
 obtain⟨nu,em,_⟩:=zq3 v 1 (by decide)
 have E3:=ze3 (i:=5) (t:=t2) ((zl0 (ra:=.cl (.int v)) (rb:=.cl (.int 1)) rfl rfl).trans (zl6 em rfl):(dT1 (zb8 zc5) (za2 (dVar 1) (za2 (dC (.int 1)) dNil))) t2=some (.cl (.int nu))) (by simp [t2])
 let t3:Th:=[a,d,N,.dp (.lst (C0.map D.int)),.dp (.lst (T0.map pD)),.val (.int nu),.no,.no,.no,.no,.no]
 have E4:=ze3 (i:=6) (zd7 (fa:=dVar 1) (fb:=dC (.int 8)) (t:=t3) (a:=v) (b:=8) rfl rfl (by decide)) (by simp [t3])
 let t4:Th:=[a,d,N,.dp (.lst (C0.map D.int)),.dp (.lst (T0.map pD)),.val (.int nu),.val (.int (v.fmod 8)),.no,.no,.no,.no]
 have E5:=ze3 (i:=7) (zk1 (fa:=dVar 1) (fb:=dC (.int 8)) (t:=t4) (a:=v) (b:=8) rfl rfl (by decide) (sm_of (by decide) (by decide))) (by simp [t4])
 have o0:OkP n M v nu (v.fmod 8) (v.fdiv 8) 40 40 (tP n M v nu (v.fmod 8) (v.fdiv 8) (.dp (.lst (C0.map D.int))) (.dp (.lst (T0.map pD))) .no .no .no):=⟨_,_,_,_,_,C0,T0,rfl,.inl rfl,.inl rfl,lc,by lia,fun _=>by lia⟩
 obtain⟨u1,F1,o1⟩:=bk_A (by lia) o0
 obtain⟨u2,F2,o2⟩:=bk_B n1 n1 o1
 obtain⟨u3,F3,o3⟩:=bk_C n0 n1 o2
 obtain⟨u4,F4,o4⟩:=bk_D n1 n1 n1 o3
 obtain⟨u5,F5,o5⟩:=bk_E n0 n1 n1 o4
 obtain⟨u6,F6,o6⟩:=bk_F n0 n1 (by lia) o5
 obtain⟨u7,F7,o7⟩:=bk_G n0 n1 (by lia) o6
 obtain⟨u8,F8,o8⟩:=bk_H n0 n1 (by lia) (by lia) o7
 obtain⟨s3,s4,s8,s9,s10,C,T,rfl,hC,hT,l1,l3,_⟩:=o8
 refine⟨C,T,l1,l3,?_⟩
 have fz:dFrz 4 (dFrz 3 (dRet (dT1 kLst (za2 (dVar 3) (za2 (dVar 4) dNil))))) (tP n M v nu (v.fmod 8) (v.fdiv 8) s3 s4 s8 s9 s10)=some (.rt (.nw [rwD C,.lst (T.map pD)])):=by
  rcases hC with rfl | rfl<;>rcases hT with rfl | rfl<;>rfl
 show (zu4 [a,d,.no,.no,.no,.no,.no,.no,.no,.no,.no]).bind zm2=_
 exact bnd ((za7 E1).trans ((za7 E2).trans ((za7 E3).trans ((za7 E4).trans ((za7 E5).trans ((za7 F1).trans ((za7 F2).trans ((za7 F3).trans ((za7 F4).trans ((za7 F5).trans ((za7 F6).trans ((za7 F7).trans ((za7 F8).trans fz)))))))))))))
end
end KX
namespace KX
open PySem.Spec L2 DL
theorem zk6 {k:D→Th→Option Th}{b:DS}{d:D}{ds:List D}{t t1 t2:Th} (h1:k d t=some t1) (h2:b t1=some (.nx t2)):forD k b (d::ds) t=forD k b ds t2:=by simp [forD,h1,h2]
theorem zas2 {k:D→Th→Option Th}{b:DS}{d:D}{ds:List D}{t t1:Th}{r:Ev} (h1:k d t=some t1) (h2:b t1=some (.rt r)):forD k b (d::ds) t=some (.rt r):=by simp [forD,h1,h2]
noncomputable def tM (M:List (List Int)) (s1 s2:Sl) (P:List Int) (V:Int→Int) (W:List Int) (q:Int) (s6 s7 s8:Sl):Th:=[.val (mD M),s1,s2,.dp (dV P V),.own (W.map D.int),.val (.int q),s6,s7,s8]
theorem turn_M {n:Nat}{M:List (List Int)} (S:Sq n M) (n1:n≤40) {T:List Ed}{s1 s2 s6:Sl}{s q x y:Int}{P W:List Int}{V:Int→Int} (h:Dfs n T (wM n M) s P V W [q]) (hq:q∈P) (hw:W.length≤P.length) (ry:InN n y) {e:Ed} (he:e∈T) (hb:Bt e x y) :
  ∃(P' W':List Int) (V':Int→Int),Dfs n T (wM n M) s P' V' W' [q]∧(∀z∈P,z∈P')∧(x=q→y∈P')∧P'.length+W.length=P.length+W'.length ∧
   bdM (tM M s1 s2 P V W q s6 (.val (.int x)) (.val (.int y)))=some (.nx (tM M s1 s2 P' V' W' q s6 (.val (.int x)) (.val (.int y)))):=by
 let t:Th:=tM M s1 s2 P V W q s6 (.val (.int x)) (.val (.int y))
 have c0:=zai4 (zo8 (fa:=dVar 7) (fb:=dVar 5) (t:=t) (a:=x) (b:=q) rfl rfl) (zar0 (t:=t) (f1:=dVar 8) (f2:=dVar 3) (P:=P) (V:=V) (p:=y) (r2:=.tm (dV P V)) rfl rfl rfl)
 have pl:=h.len
 by_cases c:x=q∧y∉P
 ·obtain⟨cx,cy⟩:=c
  subst cx
  have hn:=h.add hq cy ry he hb
  have rq:=h.rg x hq
  have g1:=zz5 (t:=t) (fa:=dVar 3) (fb:=dVar 5) (P:=P) (V:=V) (p:=x) (ra:=.tm (dV P V)) (rb:=.cl (.int x)) rfl rfl rfl rfl hq
  have g2:=zr6 (t:=t) (fa:=dVar 0) (fb:=dVar 5) (fc:=dVar 8) (r1:=.cl (mD M)) S (i:=x) (j:=y) rfl rfl rfl rfl rq.1 rq.2 ry.1 ry.2
  rw [← zai8 rq.1 rq.2 ry.1 ry.2]at g2
  have E1:=zax0 (t:=t) (i:=3) (fk:=dVar 8) (P:=P) (V:=V) (p:=y) (rk:=.cl (.int y)) (zbf6 g1 g2) rfl rfl rfl rfl (by lia)
  have ad:adP P y=P++[y]:=by simp [adP,cy]
  rw [ad]at E1
  let t2:Th:=tM M s1 s2 (P++[y]) (upV V y (mx (V x) (wM n M x y))) W x s6 (.val (.int x)) (.val (.int y))
  have E2:=zx7 t2 (f:=dVar 8) (i:=4) (xs:=W) (p:=y) rfl rfl (by lia)
  refine⟨P++[y],W++[y],_,hn,fun z hz=>zbm8 _ hz,fun _=>zbm6 _ (zbn3.mpr rfl),by simp;lia,?_⟩
  exact (zr7 c0 (by simp [cy])).trans ((za7 (t':=t2) E1).trans E2)
 ·refine⟨P,W,V,h,fun z hz=>hz,fun z=>?_,rfl,grd c0 ?_⟩
  ·by_cases cy:y∈P
   ·exact cy
   ·exact absurd ⟨z,cy⟩ c
  ·by_cases cx:x=q
   ·have cy:y∈P:=by
     by_cases cy:y∈P
     ·exact cy
     ·exact absurd ⟨cx,cy⟩ c
    simp [cy]
   ·simp [cx]
theorem loop_M {n:Nat}{M:List (List Int)} (S:Sq n M) (n1:n≤40) {T:List Ed} (hT:∀e∈T,InN n e.1∧InN n e.2) {s1 s2:Sl}{s q:Int}:∀(l:List Ed) (P W:List Int) (V:Int→Int) (s6 s7 s8:Sl),Dfs n T (wM n M) s P V W [q]→q∈P→W.length≤P.length→(∀e∈l,e∈T) →
  ∃(P' W':List Int) (V':Int→Int) (u6 u7 u8:Sl),Dfs n T (wM n M) s P' V' W' [q]∧(∀x∈P,x∈P')∧(∀e∈l,∀x,Bt e q x→x∈P')∧P'.length+W.length=P.length+W'.length ∧
   forD (za3 6) bdM2 (l.map pD) (tM M s1 s2 P V W q s6 s7 s8)=some (.nx (tM M s1 s2 P' V' W' q u6 u7 u8))
 |[],P,W,V,s6,s7,s8,h,hq,hw,hl=>⟨P,W,V,s6,s7,s8,h,fun _ hx=>hx,(fun _ hx=>nomatch hx),rfl,rfl⟩
 |e::l,P,W,V,s6,s7,s8,h,hq,hw,hl=>by
  have he:=hl e (zbn1 ..)
  obtain⟨r1,r2⟩:=hT e he
  have pl:=h.len
  obtain⟨P1,W1,V1,a1,a2,a3,a4,a5⟩:=turn_M S n1 (T:=T) (s1:=s1) (s2:=s2) (s6:=.val (pD e)) (x:=e.1) (y:=e.2) h hq hw r2 he (.inl rfl)
  have pl1:=a1.len
  obtain⟨P2,W2,V2,b1,b2,b3,b4,b5⟩:=turn_M S n1 (T:=T) (s1:=s1) (s2:=s2) (s6:=.val (pD e)) (x:=e.2) (y:=e.1) a1 (a2 q hq) (by lia) r1 he (.inr rfl)
  have pl2:=b1.len
  obtain⟨P',W',V',u6,u7,u8,c1,c2,c3,c4,c5⟩:=loop_M S n1 hT (s1:=s1) (s2:=s2) l P2 W2 V2 (.val (pD e)) (.val (.int e.2)) (.val (.int e.1)) b1 (b2 q (a2 q hq)) (by lia) (fun x hx=>hl x (zbm9 _ hx))
  refine⟨P',W',V',u6,u7,u8,c1,fun x hx=>c2 x (b2 x (a2 x hx)),fun x hx y hb=>?_,by lia,?_⟩
  ·rcases zbn5.mp hx with rfl | hx
   ·rcases hb with z | z
    ·have z1:x.1=q:=by rw [z]
     have z2:x.2=y:=by rw [z]
     exact c2 y (b2 y (z2 ▸ a3 z1))
    ·have z1:x.2=q:=by rw [z]
     have z2:x.1=y:=by rw [z]
     exact c2 y (z2 ▸ b3 z1)
   ·exact c3 x hx y hb
  ·let t:Th:=tM M s1 s2 P V W q (.val (pD e)) s7 s8
   have e0:za3 6 (pD e) (tM M s1 s2 P V W q s6 s7 s8)=some t:=rfl
   have k1:(zh2 2 (zc0 (za3 7) (zc0 (za3 8) zh3))) (pD (e.1,e.2)) t=some (tM M s1 s2 P V W q (.val (pD e)) (.val (.int e.1)) (.val (.int e.2))):=rfl
   have k2:(zh2 2 (zc0 (za3 7) (zc0 (za3 8) zh3))) (pD (e.2,e.1)) (tM M s1 s2 P1 V1 W1 q (.val (pD e)) (.val (.int e.1)) (.val (.int e.2)))=some (tM M s1 s2 P1 V1 W1 q (.val (pD e)) (.val (.int e.2)) (.val (.int e.1))):=rfl
   have fr:bdM2 t=forD (zh2 2 (zc0 (za3 7) (zc0 (za3 8) zh3))) bdM [pD (e.1,e.2),pD (e.2,e.1)] t:=zan0 (r:=.nw [pD (e.1,e.2),pD (e.2,e.1)]) rfl rfl rfl
   have eb:bdM2 t=some (.nx (tM M s1 s2 P2 V2 W2 q (.val (pD e)) (.val (.int e.2)) (.val (.int e.1)))):=fr.trans ((zk6 k1 a5).trans ((zk6 k2 b5).trans rfl))
   exact (zk6 e0 eb).trans c5
noncomputable def cdM:DT:=(dBo (d2 kNe (dVar 4) (dT1 kLst dNil)))
theorem zbb1 {n:Nat}{M:List (List Int)} (S:Sq n M) (n1:n≤40) {T:List Ed} (hT:∀e∈T,InN n e.1∧InN n e.2) {s2:Sl}{s:Int}:∀(m f:Nat) (P W:List Int) (V:Int→Int) (s5 s6 s7 s8:Sl),Dfs n T (wM n M) s P V W []→W.length≤P.length→n+W.length≤P.length+m→m<f →
  ∃(P':List Int) (V':Int→Int) (u5 u6 u7 u8:Sl),Dfs n T (wM n M) s P' V' [] [] ∧
   whD cdM bdMw f [.val (mD M),.val (.lst (T.map pD)),s2,.dp (dV P V),.own (W.map D.int),s5,s6,s7,s8]=some (.nx [.val (mD M),.val (.lst (T.map pD)),s2,.dp (dV P' V'),.own [],u5,u6,u7,u8])
 |m,0,_,_,_,_,_,_,_,_,_,_,hf=>by lia
 |m,f+1,P,W,V,s5,s6,s7,s8,h,hw,hm,hf=>by
  rcases zca2 W with rfl | ⟨W0,q,rfl⟩
  ·exact⟨P,V,s5,s6,s7,s8,h,rfl⟩
  ·rw [zca3]at h hw hm ⊢
   have pl:=h.len
   simp only [zbp6,zbr2]at hw hm
   have hq:q∈P:=h.wp q (zbm6 _ (zbn3.mpr rfl))
   let t:Th:=tM M (.val (.lst (T.map pD))) s2 P V W0 q s6 s7 s8
   let t0:Th:=[.val (mD M),.val (.lst (T.map pD)),s2,.dp (dV P V),.own ((W0++[q]).map D.int),s5,s6,s7,s8]
   have E1:dPop 5 4 t0=some (.nx t):=by
    show kPop _ 5 4=_
    unfold kPop
    simp [zn9,t,t0,tM]
   obtain⟨P',W',V',u6,u7,u8,a1,a2,a3,a4,a5⟩:=loop_M S n1 hT (s1:=.val (.lst (T.map pD))) (s2:=s2) T P W0 V s6 s7 s8 h.pop hq (by lia) (fun e he=>he)
   have hd:=a1.done fun x hx=>by
    obtain⟨e,he,hb⟩:=hx
    exact a3 e he x hb
   have pl':=a1.len
   obtain⟨P2,V2,v5,v6,v7,v8,b1,b2⟩:=zbb1 S n1 hT (s2:=s2) (m - 1) f P' W' V' (.val (.int q)) u6 u7 u8 hd (by lia) (by lia) (by lia)
   refine⟨P2,V2,v5,v6,v7,v8,b1,?_⟩
   have cd:cdM t0=some true:=by
    have:=nn_of (f:=dVar 4) (t:=t0) (r:=.tm (.lst ((W0++[q]).map D.int))) (L:=W0++[q]) rfl rfl
    rw [show cdM t0=_ from this]
    simp
   have eb:bdMw t0=some (.nx (tM M (.val (.lst (T.map pD))) s2 P' V' W' q u6 u7 u8)):=(za7 E1).trans ((zan0 (r:=.cl (.lst (T.map pD))) (ds:=T.map pD) rfl rfl rfl).trans a5)
   have wc:whD cdM bdMw (f+1) t0=whD cdM bdMw f (tM M (.val (.lst (T.map pD))) s2 P' V' W' q u6 u7 u8):=by
    rw [whD]
    simp only [cd,eb,zbn0,if_true]
   exact wc.trans b2
theorem most_is {n:Nat}{M:List (List Int)} (S:Sq n M) (n1:n≤40) {T:List Ed} (hT:∀e∈T,InN n e.1∧InN n e.2) {s:Int} (hs:InN n s):∃(P:List Int) (V:Int→Int),Dfs n T (wM n M) s P V [] []∧ze6 [mD M,.lst (T.map pD),.int s]=some (.dn (dV P V)):=by
 let B:Sl:=.val (.lst (T.map pD))
 have E1:dAsg 3 (zae9 (dVar 2) (dC (.int 0))) [.val (mD M),B,.val (.int s),.no,.no,.no,.no,.no,.no]=some (.nx [.val (mD M),B,.val (.int s),.dp (dV [s] fun _=>0),.no,.no,.no,.no,.no]):=rfl
 have E2:dAsg 4 (dT1 kLst (za2 (dVar 2) dNil)) [.val (mD M),B,.val (.int s),.dp (dV [s] fun _=>0),.no,.no,.no,.no,.no]=some (.nx [.val (mD M),B,.val (.int s),.dp (dV [s] fun _=>0),.own ([s].map D.int),.no,.no,.no,.no]):=rfl
 obtain⟨P,V,u5,u6,u7,u8,hd,E3⟩:=zbb1 S n1 hT (s2:=.val (.int s)) (s:=s) n 60 [s] [s] (fun _=>0) .no .no .no .no (Dfs.one hs) (zbp4 _) (by simp;lia) (by lia)
 refine⟨P,V,hd,?_⟩
 show (zj1 [.val (mD M),B,.val (.int s),.no,.no,.no,.no,.no,.no]).bind zm2=_
 exact bnd ((za7 E1).trans ((za7 E2).trans ((za7 (show zs0 (fun _=>60) cdM bdMw _=_ from E3)).trans rfl)))
noncomputable def PS' (n:Nat) (w:Int→Int→Int) (T:List Ed) (s:Int):Prop := ∀v,InN n v→∃r es m,Wy T w s v r es m∧m≤w s v
theorem in_cn {n:Nat}{w:Int→Int→Int}{T:List Ed}{s:Int} (n0:0<n) (h:PS' n w T s):∀v,InN n v→Cn [0] T v:=fun v hv=>by
 have c:∀v,InN n v→Cn [s] T v:=fun v hv=>by
  obtain⟨r,es,m,wy,_⟩:=h v hv
  exact wy.cn fun e he=>(wy.ends e he).1
 exact (c v hv).via fun z hz=>by rw [zbn3.mp hz];exact (c 0 ⟨zbw8 0,by lia⟩).sym
theorem zbe7 {n:Nat}{w:Int→Int→Int} (sy:∀a b,w a b=w b a) {T:List Ed} (n0:0<n) (hl:T.length+1=n) (hT:∀e∈T,InN n e.1∧InN n e.2) (cn:∀v,InN n v→Cn [0] T v) {s v:Int}{r r':List Int}{es es':List Ed}{m m':Int} (h:Wy T w s v r es m) (k:Wy T w s v r' es' m'):m≤m' :=
 zbb5 (S:=[0]) (U:=zj3 n) sy (zx3 n) zag8 (by simp) (by rw [zaw3];lia) (fun e he=>⟨zq4 (hT e he).1,zq4 (hT e he).2⟩) (fun v hv=>cn v (zar7 n0 (.inr hv))) h k
theorem zat8 {n:Nat}{M:List (List Int)} (R:Rds n M) (Y:SyM n M) (n0:0<n) (n1:n≤40) {T:List Ed} (hl:T.length+1=n) (hT:∀e∈T,InN n e.1∧InN n e.2):(∀s,InN n s→PS' n (wM n M) T s)↔TreeOk n (wM n M) T:=by
 constructor
 ·intro h
  have cn:=in_cn n0 (h 0 ⟨zbw8 0,by lia⟩)
  refine⟨hl,fun e he=>⟨fun z=>?_,hT e he⟩,cn,fun s v hs hv r es m wy=>?_⟩
  ·have:=zbh4 (S:=[0]) (U:=zj3 n) (F:=T.erase e) (zx3 n) zag8 (by simp) (fun x hx=>⟨zq4 (hT x (zbq7 hx)).1,zq4 (hT x (zbq7 hx)).2⟩) (fun v hv=>(cn v (zar7 n0 (.inr hv))).less (e:=e) (a:=e.1) (b:=e.2) (.inl rfl) (fun y hy ny=>(zbq4 ny).mpr hy) (by rw [← z];exact .base (zbn3.mpr rfl)))
   have:=zbs3 he
   have:=zbt3 he
   rw [zaw3]at *
   lia
  ·obtain⟨r',es',m',wy',le⟩:=h s hs v hv
   exact zbw7 (zbe7 (wM_sy n0 Y) n0 hl hT cn wy wy') le
 ·intro h s hs v hv
  obtain⟨P,V,hd,_⟩:=zbb6 R.sq n1 (T:=T) hT hs
  obtain⟨r,es,wy,_⟩:=hd.wy v (hd.all ((h.cn v hv).via fun z hz=>by rw [zbn3.mp hz];exact (h.cn s hs).sym))
  exact⟨r,es,_,wy,h.wy s v hs hv r es _ wy⟩
noncomputable def tY (M:List (List Int)) (C:List Int) (T:List Ed) (n:Nat) (s4 s5 s6 s7:Sl):Th:=[.val (mD M),.val (.lst (C.map D.int)),.val (.lst (T.map pD)),.val (.int (n:Int)),s4,s5,s6,s7]
theorem ge_of {fa fb:DE}{t:Th}{a b:Int} (h1:fa t=some (.cl (.int a))) (h2:fb t=some (.cl (.int b))):dBo (d2 (kI tt2 fun i j=>.bl (decide (j≤i))) fa fb) t=some (decide (b≤a)):=by
 unfold dBo
 rw [zh5 h1 h2]
 rfl
theorem turn_Y1 {M:List (List Int)}{C:List Int}{T:List Ed}{n:Nat}{s5 s6 s7:Sl} (e:Ed):((InN n e.1∧InN n e.2)∧bdY1 (tY M C T n (.val (pD e)) s5 s6 s7)=some (.nx (tY M C T n (.val (pD e)) s5 s6 s7)))∨(¬ (InN n e.1∧InN n e.2)∧bdY1 (tY M C T n (.val (pD e)) s5 s6 s7)=some (.rt (.cl (.bl false)))):=by
 let t:Th:=tY M C T n (.val (pD e)) s5 s6 s7
 have m1:(dT1 (zy1 zq9) (za2 (dVar 4) dNil)) t=some (.cl (.int (if e.2<e.1 then e.2 else e.1))):=rfl
 have m2:(dT1 (zy1 zab3) (za2 (dVar 4) dNil)) t=some (.cl (.int (if e.1<e.2 then e.2 else e.1))):=rfl
 have c:=zy0 (zaz9 m1 (rfl:dC (.int 0) t=some (.cl (.int 0)))) (ge_of m2 (rfl:dVar 3 t=some (.cl (.int (n:Int)))))
 have key:(decide ((if e.2<e.1 then e.2 else e.1)<0)||decide ((n:Int)≤(if e.1<e.2 then e.2 else e.1)))=false↔InN n e.1∧InN n e.2:=by
  simp only [Bool.or_eq_false_iff,decide_eq_false_iff_not,InN]
  by_cases q:e.1<e.2
  ·rw [if_pos q,if_neg (by lia)];lia
  ·rw [if_neg q]
   by_cases q2:e.2<e.1
   ·rw [if_pos q2];lia
   ·rw [if_neg q2];lia
 cases z:(decide ((if e.2<e.1 then e.2 else e.1)<0)||decide ((n:Int)≤(if e.1<e.2 then e.2 else e.1))) with
 |false=>exact .inl ⟨key.mp z,grd c z⟩
 |true=>exact .inr ⟨(fun q=>by rw [key.mpr q]at z;cases z),zah3 c z⟩
theorem turn_Y3 {n:Nat}{M:List (List Int)} (S:Sq n M) {C:List Int}{T:List Ed}{s4:Sl}{s v:Int} (hs:InN n s) (hv:InN n v) (P:List Int) (V:Int→Int):((v∈P∧V v≤wM n M s v)∧bdY3 (tY M C T n s4 (.val (.int s)) (.dp (dV P V)) (.val (.int v)))=some (.nx (tY M C T n s4 (.val (.int s)) (.dp (dV P V)) (.val (.int v)))))∨(¬ (v∈P∧V v≤wM n M s v)∧bdY3 (tY M C T n s4 (.val (.int s)) (.dp (dV P V)) (.val (.int v)))=some (.rt (.cl (.bl false)))):=by
 let t:Th:=tY M C T n s4 (.val (.int s)) (.dp (dV P V)) (.val (.int v))
 have c1:=zar0 (t:=t) (f1:=dVar 7) (f2:=dVar 6) (P:=P) (V:=V) (p:=v) (r2:=.tm (dV P V)) rfl rfl rfl
 by_cases hp:v∈P
 ·have g1:=zr6 (t:=t) (fa:=dVar 0) (fb:=dVar 5) (fc:=dVar 7) (r1:=.cl (mD M)) S (i:=s) (j:=v) rfl rfl rfl rfl hs.1 hs.2 hv.1 hv.2
  rw [← zai8 hs.1 hs.2 hv.1 hv.2]at g1
  have g2:=zz5 (t:=t) (fa:=dVar 6) (fb:=dVar 7) (P:=P) (V:=V) (p:=v) (ra:=.tm (dV P V)) (rb:=.cl (.int v)) rfl rfl rfl rfl hp
  have c:=zy0 c1 (zaz9 g1 g2)
  by_cases z:wM n M s v<V v
  ·exact .inr ⟨fun q=>by have:=q.2;lia,zah3 c (by simp [z])⟩
  ·exact .inl ⟨⟨hp,by lia⟩,grd c (by simp [z,hp])⟩
 ·have c:(dOr (dBo (d2 (kInD true) (dVar 7) (dVar 6))) (dBo (d2 qL (d2 kIx (d2 kIx (dVar 0) (dVar 5)) (dVar 7)) (d2 zah1 (dVar 6) (dVar 7))))) t=some (true||false):=or_of (by rw [c1];simp [hp]) (fun z=>by cases z)
  exact .inr ⟨fun q=>hp q.1,zah3 c rfl⟩
theorem turn_Y2 {n:Nat}{M:List (List Int)} (R:Rds n M) (Y:SyM n M) (n0:0<n) (n1:n≤40) {C:List Int}{T:List Ed} (hl:T.length+1=n) (hT:∀e∈T,InN n e.1∧InN n e.2) {s4 s6 s7:Sl}{s:Int} (hs:InN n s):(PS' n (wM n M) T s∧∃u6 u7,bdY2 (tY M C T n s4 (.val (.int s)) s6 s7)=some (.nx (tY M C T n s4 (.val (.int s)) u6 u7)))∨(¬ PS' n (wM n M) T s∧bdY2 (tY M C T n s4 (.val (.int s)) s6 s7)=some (.rt (.cl (.bl false)))):=by
 have S:=R.sq
 obtain⟨P,V,hd,eg⟩:=most_is S n1 (T:=T) hT hs
 have E1:dAsg 6 (dT1 (zb8 ze6) (za2 (dVar 0) (za2 (dVar 2) (za2 (dVar 5) dNil)))) (tY M C T n s4 (.val (.int s)) s6 s7)=some (.nx (tY M C T n s4 (.val (.int s)) (.dp (dV P V)) s7)):=by
  unfold dAsg
  rw [zad3 (ra:=.cl (mD M)) (rb:=.cl (.lst (T.map pD))) (rc:=.cl (.int s)) rfl rfl rfl,zat1 (G:=ze6) (rs:=[.cl (mD M),.cl (.lst (T.map pD)),.cl (.int s)]) eg (by simp [Ev.ok])]
  rfl
 have fr:zi3 (za3 7) (dVar 3) bdY3 (tY M C T n s4 (.val (.int s)) (.dp (dV P V)) s7)=forD (za3 7) bdY3 ((zb9 n).map D.int) (tY M C T n s4 (.val (.int s)) (.dp (dV P V)) s7):=zm0 (r:=.cl (.int (n:Int))) rfl rfl (by lia)
 have key:(∀v∈zb9 n,v∈P∧V v≤wM n M s v)↔PS' n (wM n M) T s:=by
  constructor
  ·intro h v hv
   obtain⟨r,es,wy,_⟩:=hd.wy v (h v (zn2 hv.1 hv.2)).1
   exact⟨r,es,_,wy,(h v (zn2 hv.1 hv.2)).2⟩
  ·intro h v hv
   have hv:=zg5 hv
   obtain⟨r,es,m,wy,le⟩:=h v hv
   have vp:=hd.all (wy.cn fun e he=>(wy.ends e he).1)
   obtain⟨r',es',wy',_⟩:=hd.wy v vp
   exact⟨vp,zbw7 (zbe7 (wM_sy n0 Y) n0 hl hT (in_cn n0 h) wy' wy) le⟩
 have lp:∀(l:List Int) (u7:Sl),(∀x∈l,InN n x)→((∀v∈l,v∈P∧V v≤wM n M s v)∧∃v7,forD (za3 7) bdY3 (l.map D.int) (tY M C T n s4 (.val (.int s)) (.dp (dV P V)) u7)=some (.nx (tY M C T n s4 (.val (.int s)) (.dp (dV P V)) v7)))∨((¬ ∀v∈l,v∈P∧V v≤wM n M s v)∧forD (za3 7) bdY3 (l.map D.int) (tY M C T n s4 (.val (.int s)) (.dp (dV P V)) u7)=some (.rt (.cl (.bl false)))):=by
  intro l
  induction l with
  |nil=>exact fun u7 _=>.inl ⟨(fun _ h=>nomatch h),u7,rfl⟩
  |cons v l ih =>
   intro u7 h
   have e0:za3 7 (.int v) (tY M C T n s4 (.val (.int s)) (.dp (dV P V)) u7)=some (tY M C T n s4 (.val (.int s)) (.dp (dV P V)) (.val (.int v))):=rfl
   rcases turn_Y3 S (C:=C) (T:=T) (s4:=s4) hs (h v (zbn1 ..)) P V with ⟨a,eb⟩ | ⟨a,eb⟩
   ·rcases ih (.val (.int v)) (fun x hx=>h x (zbm9 _ hx)) with ⟨b,v7,e⟩ | ⟨b,e⟩
    ·refine .inl ⟨fun y hy=>?_,v7,(zk6 e0 eb).trans e⟩
     rcases zbn5.mp hy with rfl | hy
     ·exact a
     ·exact b y hy
    ·exact .inr ⟨fun z=>b fun y hy=>z y (zbm9 _ hy),(zk6 e0 eb).trans e⟩
   ·exact .inr ⟨fun z=>a (z v (zbn1 ..)),zas2 e0 eb⟩
 rcases lp (zb9 n) s7 (fun x hx=>zg5 hx) with ⟨a,v7,e⟩ | ⟨a,e⟩
 ·exact .inl ⟨key.mp a,_,v7,(za7 E1).trans (fr.trans e)⟩
 ·exact .inr ⟨fun z=>a (key.mpr z),(za7 E1).trans (fr.trans e)⟩
theorem zbf8 {n:Nat}{M:List (List Int)} (R:Rds n M) (Y:SyM n M) (n0:0<n) (n1:n≤40) {C:List Int}{T:List Ed} (hl:T.length+1=n) (hT:∀e∈T,InN n e.1∧InN n e.2) {s4:Sl}:∀(l:List Int) (s5 s6 s7:Sl),(∀x∈l,InN n x)→((∀s∈l,PS' n (wM n M) T s)∧∃u5 u6 u7,forD (za3 5) bdY2 (l.map D.int) (tY M C T n s4 s5 s6 s7)=some (.nx (tY M C T n s4 u5 u6 u7)))∨((¬ ∀s∈l,PS' n (wM n M) T s)∧forD (za3 5) bdY2 (l.map D.int) (tY M C T n s4 s5 s6 s7)=some (.rt (.cl (.bl false))))
 |[],s5,s6,s7,_=>.inl ⟨(fun _ h=>nomatch h),s5,s6,s7,rfl⟩
 |s::l,s5,s6,s7,h=>by
  have e0:za3 5 (.int s) (tY M C T n s4 s5 s6 s7)=some (tY M C T n s4 (.val (.int s)) s6 s7):=rfl
  rcases turn_Y2 R Y n0 n1 (C:=C) hl hT (s4:=s4) (s6:=s6) (s7:=s7) (h s (zbn1 ..)) with ⟨a,u6,u7,eb⟩ | ⟨a,eb⟩
  ·rcases zbf8 R Y n0 n1 (C:=C) hl hT (s4:=s4) l (.val (.int s)) u6 u7 (fun x hx=>h x (zbm9 _ hx)) with ⟨b,v5,v6,v7,e⟩ | ⟨b,e⟩
   ·refine .inl ⟨fun y hy=>?_,v5,v6,v7,(zk6 e0 eb).trans e⟩
    rcases zbn5.mp hy with rfl | hy
    ·exact a
    ·exact b y hy
   ·exact .inr ⟨fun z=>b fun y hy=>z y (zbm9 _ hy),(zk6 e0 eb).trans e⟩
  ·exact .inr ⟨fun z=>a (z s (zbn1 ..)),zas2 e0 eb⟩
theorem zbf9 {M:List (List Int)}{C:List Int}{T:List Ed}{n:Nat}{s5 s6 s7:Sl}:∀(l:List Ed) (s4:Sl),((∀e∈l,InN n e.1∧InN n e.2)∧∃u4,forD (za3 4) bdY1 (l.map pD) (tY M C T n s4 s5 s6 s7)=some (.nx (tY M C T n u4 s5 s6 s7)))∨((¬ ∀e∈l,InN n e.1∧InN n e.2)∧forD (za3 4) bdY1 (l.map pD) (tY M C T n s4 s5 s6 s7)=some (.rt (.cl (.bl false))))
 |[],s4=>.inl ⟨(fun _ h=>nomatch h),s4,rfl⟩
 |e::l,s4=>by
  have e0:za3 4 (pD e) (tY M C T n s4 s5 s6 s7)=some (tY M C T n (.val (pD e)) s5 s6 s7):=rfl
  rcases turn_Y1 (M:=M) (C:=C) (T:=T) (n:=n) (s5:=s5) (s6:=s6) (s7:=s7) e with ⟨a,eb⟩ | ⟨a,eb⟩
  ·rcases zbf9 (M:=M) (C:=C) (T:=T) (n:=n) (s5:=s5) (s6:=s6) (s7:=s7) l (.val (pD e)) with ⟨b,v4,e'⟩ | ⟨b,e'⟩
   ·refine .inl ⟨fun y hy=>?_,v4,(zk6 e0 eb).trans e'⟩
    rcases zbn5.mp hy with rfl | hy
    ·exact a
    ·exact b y hy
   ·exact .inr ⟨fun z=>b fun y hy=>z y (zbm9 _ hy),(zk6 e0 eb).trans e'⟩
  ·exact .inr ⟨fun z=>a (z e (zbn1 ..)),zas2 e0 eb⟩
theorem zbj7 {n:Nat}{M:List (List Int)} (S:Sq n M):∀(T:List Ed) (s0:Sl),(∀e∈T,InN n e.1∧InN n e.2)→ze4 (za3 0) zc3 feT2 (T.map pD) [s0,.val (mD M)]=some ((T.map fun e=>wM n M e.1 e.2).map D.int)
 |[],s0,_=>rfl
 |e::T,s0,h=>by
  obtain⟨h1,h2⟩:=h e (zbn1 ..)
  let t:Th:=[.val (pD e),.val (mD M)]
  have e0:za3 0 (pD e) [s0,.val (mD M)]=some t:=rfl
  have e1:=zr6 S (fa:=dVar 1) (fb:=d2 kIx (dVar 0) (dC (.int 0))) (fc:=d2 kIx (dVar 0) (dC (.int 1))) (t:=t) (r1:=.cl (mD M)) (i:=e.1) (j:=e.2) rfl rfl rfl rfl h1.1 h1.2 h2.1 h2.2
  have ih:=zbj7 S T (.val (pD e)) fun q hq=>h q (zbm9 _ hq)
  rw [← zai8 h1.1 h1.2 h2.1 h2.2]at e1
  simp only [zbn7,ze4,e0,zbn0,zc3,if_true,show feT2 t=_ from e1]
  rw [show ze4 (za3 0) zc3 feT2 (T.map pD) t=_ from ih]
  rfl
theorem sumT2_of {n:Nat}{M:List (List Int)} (S:Sq n M) {C:List Int}{T:List Ed} (lT:T.length≤200) (h:∀e∈T,InN n e.1∧InN n e.2) {s4 s5 s6 s7:Sl}:(dT1 kSum (za2 (zf8 1 [0] (fsL (dVar 2)) (za3 0) zc3 feT2) dNil)) (tY M C T n s4 s5 s6 s7)=some (.cl (.int (wtE (wM n M) T))):=by
 have c:(zf8 1 [0] (fsL (dVar 2)) (za3 0) zc3 feT2) (tY M C T n s4 s5 s6 s7)=some (.nw ((T.map fun e=>wM n M e.1 e.2).map D.int)):=by
  show (if (T.map pD).length≤50000 then (ze4 (za3 0) zc3 feT2 (T.map pD) [Sl.no,.val (mD M)]).bind _ else none)=_
  rw [if_pos (by rw [zbo0];lia),zbj7 S T .no h]
  simp only [zbn0,ze9,zbs2,if_true]
 exact zbc6 c rfl
theorem zaw1 {n:Nat}{M:List (List Int)} (R:Rds n M) (Y:SyM n M) (B:BdM n M) (n0:0<n) (n1:n≤40) {C:List Int}{T:List Ed} (cl:C.length<64) (tl:T.length≤200):∃b:Bool,zg2 [mD M,.lst (C.map D.int),.lst (T.map pD)]=some (.cl (.bl b))∧(b=true↔LetT n (wM n M) C T):=by
 have S:=R.sq
 let t0:Th:=[.val (mD M),.val (.lst (C.map D.int)),.val (.lst (T.map pD)),.no,.no,.no,.no,.no]
 let t:Th:=tY M C T n .no .no .no .no
 have ln:=zx2 (f:=dVar 0) (t:=t0) (r:=.cl (mD M)) rfl rfl
 rw [S.len]at ln
 have E1:=ze3 (i:=3) ln (by simp [t0])
 have c1:=nel_of (zg7 C) (zb9 n) (zau3 (f:=dVar 1) (t:=t) (r:=.cl (.lst (C.map D.int))) rfl rfl cl) (lr_of (f:=dVar 3) (t:=t) (n:=n) rfl (by lia)) rfl rfl
 have lt:(dT1 kLen (za2 (dVar 2) dNil)) t=some (.cl (.int (T.length:Int))):=by
  rw [zl9 (ra:=.cl (.lst (T.map pD))) rfl]
  show some (Ev.cl (.int ((T.map pD).length:Int)))=_
  rw [zbo0]
 have c2:=zbf1 lt (zt0 (fa:=dVar 3) (fb:=dC (.int 1)) (t:=t) (a:=(n:Int)) (b:=1) rfl rfl)
 have c3:=zy0 c1 c2
 show ∃b,(zx4 t0).bind zm2=_∧_
 by_cases ok:C.Perm (zb9 n)∧(T.length:Int)=(n:Int) - 1
 ·obtain⟨pc,tn⟩:=ok
  have hl:T.length+1=n:=by lia
  have E2:=grd (g:=dRet (dC (.bl false))) c3 (by simp [sort_iff.mpr pc,tn])
  rcases zbf9 (M:=M) (C:=C) (T:=T) (n:=n) (s5:=.no) (s6:=.no) (s7:=.no) T .no with ⟨hT,u4,E3⟩ | ⟨hT,E3⟩
  ·have E3':dFor (za3 4) (dVar 2) bdY1 t=some (.nx (tY M C T n u4 .no .no .no)):=(zan0 (r:=.cl (.lst (T.map pD))) (ds:=T.map pD) rfl rfl rfl).trans E3
   have fr:zi3 (za3 5) (dVar 3) bdY2 (tY M C T n u4 .no .no .no)=forD (za3 5) bdY2 ((zb9 n).map D.int) (tY M C T n u4 .no .no .no):=zm0 (r:=.cl (.int (n:Int))) rfl rfl (by lia)
   rcases zbf8 R Y n0 n1 (C:=C) hl hT (s4:=u4) (zb9 n) .no .no .no (fun x hx=>zg5 hx) with ⟨a,u5,u6,u7,E4⟩ | ⟨a,E4⟩
   ·have tr:=(zat8 R Y n0 n1 hl hT).mp fun s hs=>a s (zn2 hs.1 hs.2)
    obtain⟨I,lc⟩:=zbk0 n0 pc
    let t5:Th:=tY M C T n u4 u5 u6 u7
    have g1:(dT1 (zb8 zo9) (za2 (dVar 0) (za2 (dVar 1) dNil))) t5=some (.cl (.int (cyc (wM n M) C))):=(zl0 (ra:=.cl (mD M)) (rb:=.cl (.lst (C.map D.int))) rfl rfl).trans (zl6 (llong_is S I (by lia)) rfl)
    have g2:=sumT2_of S (C:=C) tl hT (s4:=u4) (s5:=u5) (s6:=u6) (s7:=u7)
    have b0:0≤wtE (wM n M) T:=zba9 fun e _=>wM_nn n0 R _ _
    have b1:=zao9 (wM_bd n0 B) T
    have g3:=zq8 (fa:=dC (.int 2)) (a:=2) (t:=t5) rfl g2 (sm_of (by decide) (by decide)) (sm_of (by lia) (by lia))
    have g4:=lev_of g1 g3
    refine⟨decide (cyc (wM n M) C≤2*wtE (wM n M) T),bnd ((za7 E1).trans ((za7 E2).trans ((za7 E3').trans ((za7 (fr.trans E4)).trans (zaa4 g4))))),fun z=>⟨pc,tr,of_decide_eq_true z⟩,fun z=>decide_eq_true z.le⟩
   ·exact⟨false,bnd ((za7 E1).trans ((za7 E2).trans ((za7 E3').trans (seq_rt (fr.trans E4))))),(fun z=>nomatch z),fun z=>absurd (fun s hs=>(zat8 R Y n0 n1 hl hT).mpr z.tr s (zg5 hs)) a⟩
  ·have E3':dFor (za3 4) (dVar 2) bdY1 t=some (.rt (.cl (.bl false))):=(zan0 (r:=.cl (.lst (T.map pD))) (ds:=T.map pD) rfl rfl rfl).trans E3
   exact⟨false,bnd ((za7 E1).trans ((za7 E2).trans (seq_rt E3'))),(fun z=>nomatch z),fun z=>absurd (fun e he=>(z.tr.ends e he).2) hT⟩
 ·have z1:(!decide (zg7 C=zb9 n)||!decide ((T.length:Int)=(n:Int) - 1))=true:=by
   by_cases pc:C.Perm (zb9 n)
   ·have : ¬ (T.length:Int)=(n:Int) - 1:=fun z=>ok ⟨pc,z⟩
    simp [this]
   ·have : ¬ zg7 C=zb9 n:=fun z=>pc (sort_iff.mp z)
    simp [this]
  exact⟨false,bnd ((za7 E1).trans (seq_rt (zah3 c3 z1))),(fun z=>nomatch z),fun z=>absurd ⟨z.pc,by have:=z.tr.len;lia⟩ ok⟩
theorem zbg9 {t:Th}{i:Nat}{M:List (List Int)}{r:Ev} (h:dVar i t=some r) (hr:r.d=mD M) (hl:M.length≤50000):(zg1 1 [] (fsL (dVar i)) (za3 0) zc3 (dT1 zm7 (za2 (dVar 0) dNil))) t=some (.dn (mD M)):=by
 unfold zg1 fsL
 rw [h]
 simp only [zbn0,hr]
 show (if (M.map rwD).length≤50000 then (zi0 (za3 0) zc3 (dT1 zm7 (za2 (dVar 0) dNil)) (M.map rwD) [Sl.no]).map (fun xs=>Ev.dn (.lst xs)) else none)=_
 rw [if_pos (by simpa using hl),zaf1]
 rfl
theorem zai3 {t:Th}{i a:Nat}{rows ds:List D}{f:DE}{fa:DE}{d:D} (hd:flat d=true) (hi:t[i]?=some (.dp (.lst rows))) (ha:fa t=some (.cl (.int (a:Int)))) (hf:f t=some (.cl d)) (hr:rows[a]?=some (.lst ds)) (hl:ds.length<100000):zx5 i [fa] f t=some (.nx (t.set i (.dp (.lst (rows.set a (.lst (ds++[d]))))))):=by
 have la:a<rows.length:=(zbr5.mp hr).1
 unfold zx5
 have ep:pthD [fa] t=some [(a:Int)]:=by
  unfold pthD
  rw [ha]
  rfl
 rw [ep,hf]
 show zar9 t i [(a:Int)] (.cl d)=_
 unfold zar9
 rw [hi]
 have eg:getP (.lst rows) [(a:Int)]=some (.lst ds):=by
  show (atI rows (a:Int)).bind (fun x=>getP x [])=_
  unfold atI
  rw [zt1 _ a la]
  show (rows[a]?).bind _=_
  rw [hr]
  rfl
 have eq:putP (.lst rows) [(a:Int)] (.lst (ds++[d]))=some (.lst (rows.set a (.lst (ds++[d])))):=by
  show (ixN rows.length (a:Int)).bind _=_
  rw [zt1 _ a la]
  show (rows[a]?).bind _=_
  rw [hr]
  rfl
 simp only [eg]
 show (if (flat d&&decide (ds.length<100000))=true then (putP (.lst rows) [(a:Int)] (.lst (ds++[d]))).map _ else none)=_
 rw [if_pos (by simp [hd,hl]),eq]
 rfl
noncomputable def plc (n tu k:Nat):Nat:=(k+tu) % n
theorem plc_lt {n tu k:Nat} (h:0<n):plc n tu k<n:=zbv6 _ h
theorem plc_ne {n tu k j:Nat} (h0:8≤n) (h1:n≤12) (hk:k<n) (hj:j<n) (ne:k≠j):plc n tu k≠plc n tu j:=by
 unfold plc
 rcases (by lia:n=8∨n=9∨n=10∨n=11∨n=12) with rfl | rfl | rfl | rfl | rfl<;>lia
noncomputable def plL (n tu:Nat):List Int:=(zb9 n).map fun x=>(x+(tu:Int)).fmod (n:Int)
theorem zaa9 (n tu:Nat):(plL n tu).length=n:=by simp [plL,zb9]
theorem zbe0 {n tu k:Nat} (h:k<n):(plL n tu).getD k 0=(plc n tu k:Int):=by
 have e:(plL n tu)[k]?=some (((k:Int)+(tu:Int)).fmod (n:Int)):=by simp [plL,zb9,h]
 rw [zbo1,e,zbu0,zbx5 _ (by lia)]
 unfold plc
 rw [Int.natCast_emod,Int.natCast_add]
theorem chw_of {fa fb fc:DE}{t:Th}{a b c:Int} (h1:fa t=some (.cl (.int a))) (h2:fb t=some (.cl (.int b))) (h3:fc t=some (.cl (.int c))):dChV qL qE fa fb fc t=some (.cl (.bl (decide (a<b)&&decide (b≤c)))):=by
 have e:dCh qL qE fa fb fc t=some (decide (a<b)&&decide (b≤c)):=by
  unfold dCh
  rw [h1,h2,h3]
  show (match D.bl (decide (a<b)) with
   |.bl true=>some (decide (b≤c))
   |.bl false=>some false
   |_=>none)=_
  cases decide (a<b)<;>rfl
 unfold dChV
 rw [e]
 rfl
section
variable {n hf tu nr fr:Nat}{c:Int}
noncomputable def tH (c:Int) (n hf tu nr fr:Nat) (M:List (List Int)) (s8 s9 s10 s11 s12:Sl):Th:=[.val (.int c),.val (.int (n:Int)),.val (.int (hf:Int)),.val (.int (tu:Int)),.val (.int (nr:Int)),.val (.int (fr:Int)),.own ((plL n tu).map D.int),.dp (mD M),s8,s9,s10,s11,s12]
theorem turn_Hj (n0:8≤n) (n1:n≤12) (hn:nr≤100) (hfr:fr≤100) {M:List (List Int)} (R:Rds n M∧SyM n M∧BdM n M) {k j:Nat} (hk:k<n) (hj:j<k) (s10 s11 s12:Sl):∃M' u10,(Rds n M'∧SyM n M'∧BdM n M')∧bdHj (tH c n hf tu nr fr M (.val (.int (k:Int))) (.val (.int (j:Int))) s10 s11 s12)=some (.nx (tH c n hf tu nr fr M' (.val (.int (k:Int))) (.val (.int (j:Int))) u10 s11 s12)):=by
 let t:Th:=tH c n hf tu nr fr M (.val (.int (k:Int))) (.val (.int (j:Int))) s10 s11 s12
 have c1:=zbh6 (chw_of (fa:=dVar 9) (fb:=dVar 2) (fc:=dVar 8) (t:=t) (a:=(j:Int)) (b:=(hf:Int)) (c:=(k:Int)) rfl rfl rfl)
 obtain⟨v,v0,v1,ev⟩:∃v:Int,0≤v∧v≤1000000000000∧(d2 kIx (dT1 kLst (za2 (dVar 4) (za2 (dVar 5) dNil))) (dT1 zar8 (za2 (dChV qL qE (dVar 9) (dVar 2) (dVar 8)) dNil))) t=some (.cl (.int v)):=by
  have l1:(dT1 kLst (za2 (dVar 4) (za2 (dVar 5) dNil))) t=some (.nw ([(nr:Int),(fr:Int)].map D.int)):=rfl
  cases z:(decide ((j:Int)<(hf:Int))&&decide ((hf:Int)≤(k:Int))) with
  |true =>
   rw [z,if_pos rfl]at c1
   exact⟨(fr:Int),by lia,by lia,(zh5 l1 c1).trans (ixEv [(nr:Int),(fr:Int)] 1 (by simp) rfl rfl)⟩
  |false =>
   rw [z]at c1
   exact⟨(nr:Int),by lia,by lia,(zh5 l1 c1).trans (ixEv [(nr:Int),(fr:Int)] 0 (by simp) rfl rfl)⟩
 have E1:=ze3 (i:=10) ev (by simp [t,tH])
 let t1:Th:=tH c n hf tu nr fr M (.val (.int (k:Int))) (.val (.int (j:Int))) (.val (.int v)) s11 s12
 have gk:∀M',(d2 kIx (dVar 6) (dVar 8)) (tH c n hf tu nr fr M' (.val (.int (k:Int))) (.val (.int (j:Int))) (.val (.int v)) s11 s12)=some (.cl (.int (plc n tu k:Int))):=fun M'=>by
  have:=zw3 (fa:=dVar 6) (fb:=dVar 8) (t:=tH c n hf tu nr fr M' (.val (.int (k:Int))) (.val (.int (j:Int))) (.val (.int v)) s11 s12) (r1:=.tm (.lst ((plL n tu).map D.int))) (r2:=.cl (.int (k:Int))) (plL n tu) k rfl rfl (by rw [zaa9];exact hk) rfl rfl
  rw [zbe0 hk]at this
  exact this
 have gj:∀M',(d2 kIx (dVar 6) (dVar 9)) (tH c n hf tu nr fr M' (.val (.int (k:Int))) (.val (.int (j:Int))) (.val (.int v)) s11 s12)=some (.cl (.int (plc n tu j:Int))):=fun M'=>by
  have:=zw3 (fa:=dVar 6) (fb:=dVar 9) (t:=tH c n hf tu nr fr M' (.val (.int (k:Int))) (.val (.int (j:Int))) (.val (.int v)) s11 s12) (r1:=.tm (.lst ((plL n tu).map D.int))) (r2:=.cl (.int (j:Int))) (plL n tu) j rfl rfl (by rw [zaa9];lia) rfl rfl
  rw [zbe0 (by lia)]at this
  exact this
 have pk:=plc_lt (n:=n) (tu:=tu) (k:=k) (by lia)
 have pj:=plc_lt (n:=n) (tu:=tu) (k:=j) (by lia)
 have ne:=plc_ne (tu:=tu) n0 n1 hk (by lia:j<n) (by lia)
 have R1:=zaa5 (v:=v) R.1 pk pj ne v0
 have R2:=zaa5 (v:=v) R1 pj pk (Ne.symm ne) v0
 have E2:=zz9 (t:=t1) (s:=7) (fv:=dVar 10) (rv:=.cl (.int v)) (v:=v) R.1.sq rfl rfl (gk M) rfl (gj M) rfl rfl pk pj
 have E3:=zz9 (t:=tH c n hf tu nr fr (setM M (plc n tu k) (plc n tu j) v) (.val (.int (k:Int))) (.val (.int (j:Int))) (.val (.int v)) s11 s12) (s:=7) (fv:=dVar 10) (rv:=.cl (.int v)) (v:=v) R1.sq rfl rfl (gj _) rfl (gk _) rfl rfl pj pk
 exact⟨_,_,⟨R2,zbc4 R.1.sq R.2.1 pk pj,zay0 R1.sq (zay0 R.1.sq R.2.2 pk pj v1) pj pk v1⟩,(za7 E1).trans ((za7 E2).trans E3)⟩
theorem turn_Hk (n0:8≤n) (n1:n≤12) (hn:nr≤100) (hfr:fr≤100) {M:List (List Int)} (R:Rds n M∧SyM n M∧BdM n M) {k:Nat} (hk:k<n) (s9 s10 s11 s12:Sl):∃M' u9 u10,(Rds n M'∧SyM n M'∧BdM n M')∧bdHk (tH c n hf tu nr fr M (.val (.int (k:Int))) s9 s10 s11 s12)=some (.nx (tH c n hf tu nr fr M' (.val (.int (k:Int))) u9 u10 s11 s12)):=by
 have fr':bdHk (tH c n hf tu nr fr M (.val (.int (k:Int))) s9 s10 s11 s12)=forD (za3 9) bdHj ((zb9 k).map D.int) (tH c n hf tu nr fr M (.val (.int (k:Int))) s9 s10 s11 s12):=zm0 (r:=.cl (.int (k:Int))) rfl rfl (by lia)
 have e3:(zb9 k).map D.int=(zbp2 k).map fun (i:Nat)=>D.int (i:Int):=by simp [zb9]
 rw [e3]at fr'
 obtain⟨t',E,M',u9,u10,R',rfl⟩:=zae8 (k:=za3 9) (b:=bdHj) (f:=fun (i:Nat)=>D.int (i:Int)) (n:=k) (P:=fun _ t => ∃M u9 u10,(Rds n M∧SyM n M∧BdM n M)∧t=tH c n hf tu nr fr M (.val (.int (k:Int))) u9 u10 s11 s12) (fun j hj t ⟨M,u9,u10,R,e⟩=>by
  subst e
  obtain⟨M',v10,R',eb⟩:=turn_Hj (c:=c) (hf:=hf) (tu:=tu) n0 n1 hn hfr R hk hj u10 s11 s12
  exact⟨_,_,rfl,eb,M',_,v10,R',rfl⟩) (tH c n hf tu nr fr M (.val (.int (k:Int))) s9 s10 s11 s12) ⟨M,s9,s10,R,rfl⟩
 exact⟨M',u9,u10,R',fr'.trans E⟩
noncomputable def t3D (A B C:List Ed):D:=.lst [.lst (A.map pD),.lst (B.map pD),.lst (C.map pD)]
theorem turn_Ht (n0:8≤n) (n1:n≤12) (hh:hf<n) {M:List (List Int)}{A B C:List Ed} (la:A.length≤1000) (lb:B.length≤1000) (lc:C.length≤1000) {k:Nat} (k0:0<k) (hk:k<n) (s9 s10 s12:Sl):∃a b d:Ed,bdHt (tH c n hf tu nr fr M (.val (.int (k:Int))) s9 s10 (.dp (t3D A B C)) s12)=some (.nx (tH c n hf tu nr fr M (.val (.int (k:Int))) s9 s10 (.dp (t3D (A++[a]) (B++[b]) (C++[d]))) s12)):=by
 have ix:∀(s11:Sl) (f:DE) (i:Nat),i<n→f (tH c n hf tu nr fr M (.val (.int (k:Int))) s9 s10 s11 s12)=some (.cl (.int (i:Int)))→(d2 kIx (dVar 6) f) (tH c n hf tu nr fr M (.val (.int (k:Int))) s9 s10 s11 s12)=some (.cl (.int ((plL n tu).getD i 0))):=fun s11 f i hi hf' =>
  zw3 (fa:=dVar 6) (fb:=f) (r1:=.tm (.lst ((plL n tu).map D.int))) (r2:=.cl (.int (i:Int))) (plL n tu) i rfl hf' (by rw [zaa9];exact hi) rfl rfl
 let u0:Th:=tH c n hf tu nr fr M (.val (.int (k:Int))) s9 s10 (.dp (t3D A B C)) s12
 have p0:=zw8 (ix (.dp (t3D A B C)) (dC (.int 0)) 0 (by lia) rfl) (ix (.dp (t3D A B C)) (dVar 8) k hk rfl)
 have E1:=zai3 (t:=u0) (i:=11) (a:=0) (rows:=[.lst (A.map pD),.lst (B.map pD),.lst (C.map pD)]) (ds:=A.map pD) (fa:=dC (.int 0)) rfl rfl rfl p0 rfl (by rw [zbo0];lia)
 generalize ((plL n tu).getD 0 0,(plL n tu).getD k 0)=e1 at E1
 have z1:([D.lst (A.map pD),.lst (B.map pD),.lst (C.map pD)]:List D).set 0 (.lst (A.map pD++[pD e1]))=[.lst ((A++[e1]).map pD),.lst (B.map pD),.lst (C.map pD)]:=by simp
 rw [z1]at E1
 let u1:Th:=tH c n hf tu nr fr M (.val (.int (k:Int))) s9 s10 (.dp (t3D (A++[e1]) B C)) s12
 obtain⟨i2,h2,g2⟩:∃i2:Nat,i2<n∧(d2 qM (dVar 2) (dT1 zar8 (za2 (d2 qG (dVar 8) (dVar 2)) dNil))) u1=some (.cl (.int (i2:Int))):=by
  have q:=zbh6 (gtv_of (fa:=dVar 8) (fb:=dVar 2) (t:=u1) (a:=(k:Int)) (b:=(hf:Int)) rfl rfl)
  cases z:decide ((hf:Int)<(k:Int)) with
  |true =>
   rw [z,if_pos rfl]at q
   have:=zq8 (fa:=dVar 2) (t:=u1) (a:=(hf:Int)) rfl q (sm_of (by lia) (by lia)) (sm_of (by decide) (by decide))
   rw [Int.mul_one]at this
   exact⟨hf,hh,this⟩
  |false =>
   rw [z]at q
   have:=zq8 (fa:=dVar 2) (t:=u1) (a:=(hf:Int)) rfl q (sm_of (by lia) (by lia)) (sm_of (by decide) (by decide))
   exact⟨0,by lia,by rw [this];simp⟩
 have p1:=zw8 (ix (.dp (t3D (A++[e1]) B C)) _ i2 h2 g2) (ix (.dp (t3D (A++[e1]) B C)) (dVar 8) k hk rfl)
 have E2:=zai3 (t:=u1) (i:=11) (a:=1) (rows:=[.lst ((A++[e1]).map pD),.lst (B.map pD),.lst (C.map pD)]) (ds:=B.map pD) (fa:=dC (.int 1)) rfl rfl rfl p1 rfl (by rw [zbo0];lia)
 generalize ((plL n tu).getD i2 0,(plL n tu).getD k 0)=e2 at E2
 have z2:([D.lst ((A++[e1]).map pD),.lst (B.map pD),.lst (C.map pD)]:List D).set 1 (.lst (B.map pD++[pD e2]))=[.lst ((A++[e1]).map pD),.lst ((B++[e2]).map pD),.lst (C.map pD)]:=by simp
 rw [z2]at E2
 let u2:Th:=tH c n hf tu nr fr M (.val (.int (k:Int))) s9 s10 (.dp (t3D (A++[e1]) (B++[e2]) C)) s12
 obtain⟨m,em,_⟩:=zq3 c k (by lia)
 have g3:(dT1 (zb8 zc5) (za2 (dVar 0) (za2 (dVar 8) dNil))) u2=some (.cl (.int m)):=(zl0 (ra:=.cl (.int c)) (rb:=.cl (.int (k:Int))) rfl rfl).trans (zl6 em rfl)
 obtain⟨q,q1,qe⟩:=mm m k k0
 have g4:=zd7 g3 (fb:=dVar 8) (b:=(k:Int)) rfl (by lia)
 rw [qe]at g4
 have p2:=zw8 (ix (.dp (t3D (A++[e1]) (B++[e2]) C)) (dVar 8) k hk rfl) (ix (.dp (t3D (A++[e1]) (B++[e2]) C)) _ q (by lia) g4)
 have E3:=zai3 (t:=u2) (i:=11) (a:=2) (rows:=[.lst ((A++[e1]).map pD),.lst ((B++[e2]).map pD),.lst (C.map pD)]) (ds:=C.map pD) (fa:=dC (.int 2)) rfl rfl rfl p2 rfl (by rw [zbo0];lia)
 generalize ((plL n tu).getD k 0,(plL n tu).getD q 0)=e3 at E3
 have z3:([D.lst ((A++[e1]).map pD),.lst ((B++[e2]).map pD),.lst (C.map pD)]:List D).set 2 (.lst (C.map pD++[pD e3]))=[.lst ((A++[e1]).map pD),.lst ((B++[e2]).map pD),.lst ((C++[e3]).map pD)]:=by simp
 rw [z3]at E3
 exact⟨e1,e2,e3,(za7 (t':=u1) E1).trans ((za7 (t':=u2) E2).trans E3)⟩
noncomputable def tHf (c:Int) (n hf tu nr fr:Nat) (M:List (List Int)) (s8 s9 s10 s11 s12:Sl):Th:=[.val (.int c),.val (.int (n:Int)),.val (.int (hf:Int)),.val (.int (tu:Int)),.val (.int (nr:Int)),.val (.int (fr:Int)),.own ((plL n tu).map D.int),.val (mD M),s8,s9,s10,s11,s12]
theorem zbf0 {fa fb:DE}{t:Th}{b:Bool} (h1:fa t=some (.cl (.bl b))) (h2:fb t=some (.cl (.bl b))):dBo (d2 kNe fa fb) t=some false:=by
 unfold dBo
 rw [zh5 h1 h2]
 cases b<;>rfl
theorem zbl4 {a b:Bool}{p:Prop} (h:a=true↔p) (k:b=true↔p):a=b:=by
 cases a<;>cases b<;>simp_all
theorem zap1 (n0:8≤n) (n1:n≤12) {M:List (List Int)} (R:Rds n M∧SyM n M∧BdM n M) {T:List Ed} (lt:T.length≤200) (s8 s9 s10 s11:Sl):bdHl (tHf c n hf tu nr fr M s8 s9 s10 s11 (.val (.lst (T.map pD))))=some (.nx (tHf c n hf tu nr fr M s8 s9 s10 s11 (.val (.lst (T.map pD))))):=by
 let t:Th:=tHf c n hf tu nr fr M s8 s9 s10 s11 (.val (.lst (T.map pD)))
 obtain⟨a,ea,ha⟩:=zar6 R.1 R.2.1 R.2.2 (by lia) (by lia) (C:=plL n tu) (T:=T) (by rw [zaa9];lia) lt
 obtain⟨b,eb,hb⟩:=zaw1 R.1 R.2.1 R.2.2 (by lia) (by lia) (C:=plL n tu) (T:=T) (by rw [zaa9];lia) lt
 have ab:a=b:=zbl4 ha hb
 subst ab
 have k1:=zbg9 (t:=t) (i:=7) (M:=M) (r:=.cl (mD M)) rfl rfl (by rw [R.1.sq.len];lia)
 have k2:=zar5 (f:=dVar 6) (t:=t) (r:=.tm (.lst ((plL n tu).map D.int))) (xs:=plL n tu) rfl rfl
 have k3:=zbg4 (f:=dVar 12) (t:=t) (r:=.cl (.lst (T.map pD))) (ts:=T) rfl rfl
 have g1:=(zad3 (k:=zb8 ze0) k1 k2 k3).trans (zl6 ea rfl)
 have g2:(dT1 (zb8 zg2) (za2 (dVar 7) (za2 (dVar 6) (za2 (dVar 12) dNil)))) t=some (.cl (.bl a)):=(zad3 (ra:=.cl (mD M)) (rb:=.tm (.lst ((plL n tu).map D.int))) (rc:=.cl (.lst (T.map pD))) rfl rfl rfl).trans (zl6 eb rfl)
 exact grd (zbf0 g1 g2) rfl
end
theorem heaps_is (c:Int):zm4 [.int c]=some (.cl (.bl true)):=by
 let S:Sl:=.val (.int c)
 let t0:Th:=[S,.no,.no,.no,.no,.no,.no,.no,.no,.no,.no,.no,.no]
 obtain⟨q,q1,qe⟩:=mm c 5 (by decide)
 have g1:=zd7 (fa:=dVar 0) (fb:=dC (.int 5)) (t:=t0) (a:=c) (b:=5) rfl rfl (by decide)
 rw [show c.fmod 5=(q:Int) from qe]at g1
 have g1':=zg6 (fa:=dC (.int 8)) (a:=8) rfl g1
 obtain⟨n,n0,n1,en⟩:∃n:Nat,8≤n∧n≤12∧(8:Int)+(q:Int)=(n:Int):=⟨8+q,by lia,by lia,by lia⟩
 rw [en]at g1'
 have E1:=ze3 (i:=1) g1' (by simp [t0])
 let t1:Th:=[S,.val (.int (n:Int)),.no,.no,.no,.no,.no,.no,.no,.no,.no,.no,.no]
 have g2:=zd7 (zk1 (fa:=dVar 0) (fb:=dC (.int 5)) (t:=t1) (a:=c) (b:=5) rfl rfl (by decide) (sm_of (by decide) (by decide))) (zt0 (fa:=dVar 1) (fb:=dC (.int 1)) (t:=t1) (a:=(n:Int)) (b:=1) rfl rfl) (by lia)
 obtain⟨q2,h2,e2⟩:=mm (c.fdiv 5) (n - 1) (by lia)
 rw [show (n:Int) - 1=((n - 1:Nat):Int) by lia,e2]at g2
 have g2':=zg6 (fa:=dC (.int 1)) (a:=1) rfl g2
 obtain⟨hf,hh,eh⟩:∃hf:Nat,hf<n∧(1:Int)+(q2:Int)=(hf:Int):=⟨1+q2,by lia,by lia⟩
 rw [eh]at g2'
 have E2:=ze3 (i:=2) g2' (by simp [t1])
 let t2:Th:=[S,.val (.int (n:Int)),.val (.int (hf:Int)),.no,.no,.no,.no,.no,.no,.no,.no,.no,.no]
 have g3:=zd7 (zk1 (fa:=dVar 0) (fb:=dC (.int 60)) (t:=t2) (a:=c) (b:=60) rfl rfl (by decide) (sm_of (by decide) (by decide))) (fb:=dVar 1) (b:=(n:Int)) rfl (by lia)
 obtain⟨tu,h3,e3⟩:=mm (c.fdiv 60) n (by lia)
 rw [e3]at g3
 have E3:=ze3 (i:=3) g3 (by simp [t2])
 let t3:Th:=[S,.val (.int (n:Int)),.val (.int (hf:Int)),.val (.int (tu:Int)),.no,.no,.no,.no,.no,.no,.no,.no,.no]
 have g4:=zd7 (zk1 (fa:=dVar 0) (fb:=dC (.int 720)) (t:=t3) (a:=c) (b:=720) rfl rfl (by decide) (sm_of (by decide) (by decide))) (fb:=dC (.int 3)) (b:=3) rfl (by decide)
 obtain⟨q4,h4,e4⟩:=mm (c.fdiv 720) 3 (by decide)
 rw [show (c.fdiv 720).fmod 3=(q4:Int) from e4]at g4
 have g4':=zg6 (fa:=dC (.int 1)) (a:=1) rfl g4
 obtain⟨nr,hnr,enr⟩:∃nr:Nat,nr≤3∧(1:Int)+(q4:Int)=(nr:Int):=⟨1+q4,by lia,by lia⟩
 rw [enr]at g4'
 have E4:=ze3 (i:=4) g4' (by simp [t3])
 let t4:Th:=[S,.val (.int (n:Int)),.val (.int (hf:Int)),.val (.int (tu:Int)),.val (.int (nr:Int)),.no,.no,.no,.no,.no,.no,.no,.no]
 have g5:=zd7 (zk1 (fa:=dVar 0) (fb:=dC (.int 2160)) (t:=t4) (a:=c) (b:=2160) rfl rfl (by decide) (sm_of (by decide) (by decide))) (fb:=dC (.int 12)) (b:=12) rfl (by decide)
 obtain⟨q5,h5,e5⟩:=mm (c.fdiv 2160) 12 (by decide)
 rw [show (c.fdiv 2160).fmod 12=(q5:Int) from e5]at g5
 have g5':=zg6 (fa:=dVar 4) (a:=(nr:Int)) rfl g5
 obtain⟨fr,hfr,efr⟩:∃fr:Nat,fr≤15∧(nr:Int)+(q5:Int)=(fr:Int):=⟨nr+q5,by lia,by lia⟩
 rw [efr]at g5'
 have E5:=ze3 (i:=5) g5' (by simp [t4])
 let t5:Th:=[S,.val (.int (n:Int)),.val (.int (hf:Int)),.val (.int (tu:Int)),.val (.int (nr:Int)),.val (.int (fr:Int)),.no,.no,.no,.no,.no,.no,.no]
 have g6:=compR_of (cap:=[1,3]) (f:=dVar 1) (fe:=(d2 qR (d2 qA (dVar 0) (dVar 2)) (dVar 1))) (t:=t5) (n:=n) (g:=fun x=>(x+(tu:Int)).fmod (n:Int)) rfl (by lia) (rfl:capD t5 [1,3]=some (true,[.int (n:Int),.int (tu:Int)])) (fun x=>zd7 (zg6 (fa:=dVar 0) (fb:=dVar 2) (a:=x) (b:=(tu:Int)) rfl rfl) (fb:=dVar 1) (b:=(n:Int)) rfl (by lia))
 have E6:=zn6 (i:=6) g6 (by simp [t5])
 let t6:Th:=[S,.val (.int (n:Int)),.val (.int (hf:Int)),.val (.int (tu:Int)),.val (.int (nr:Int)),.val (.int (fr:Int)),.own ((plL n tu).map D.int),.no,.no,.no,.no,.no,.no]
 have E7:dAsg 7 (zg1 1 [1] (fsR1 (dVar 1)) (za3 0) zc3 (d2 qM (dT1 kLst (za2 (dC (.int 0)) dNil)) (dVar 1))) t6=some (.nx (tH c n hf tu nr fr (zbn4 n (zbn4 n 0)) .no .no .no .no .no)):=by
  have w1:=zae0 (f:=dVar 1) (t:=t6) (n:=n) rfl (by lia)
  have w2:=zac7 (n:=n) (ext:=[.val (.int (n:Int))]) (fe:=(d2 qM (dT1 kLst (za2 (dC (.int 0)) dNil)) (dVar 1))) (d:=rwD (zbn4 n 0)) (fun x=>⟨_,zap8 (x:=0) (m:=n) rfl rfl (by lia),by simp only [toDn,ze9,if_true];rfl⟩) (zb9 n) .no
  rw [ze2]at w2
  unfold dAsg zg1
  rw [w1]
  show zcf7 (if ((zb9 n).map D.int).length≤50000 then (zi0 (za3 0) zc3 _ ((zb9 n).map D.int) [Sl.no,.val (.int (n:Int))]).map (fun xs=>Ev.dn (.lst xs)) else none) _=_
  rw [if_pos (by rw [zbo0,ze2];lia),w2]
  show some (Out.nx (t6.set 7 (.dp (.lst (zbn4 n (rwD (zbn4 n 0)))))))=_
  have:zbn4 n (rwD (zbn4 n 0))=(zbn4 n (zbn4 n (0:Int))).map rwD:=by rw [zcc7]
  rw [this]
  rfl
 have f8:zi3 (za3 8) (dVar 1) bdHk (tH c n hf tu nr fr (zbn4 n (zbn4 n 0)) .no .no .no .no .no)=forD (za3 8) bdHk ((zb9 n).map D.int) (tH c n hf tu nr fr (zbn4 n (zbn4 n 0)) .no .no .no .no .no):=zm0 (r:=.cl (.int (n:Int))) rfl rfl (by lia)
 have en':∀m:Nat,(zb9 m).map D.int=(zbp2 m).map fun (i:Nat)=>D.int (i:Int):=fun m=>by simp [zb9]
 rw [en']at f8
 obtain⟨t8,E8,M,s8,s9,s10,R,rfl⟩:=zae8 (k:=za3 8) (b:=bdHk) (f:=fun (i:Nat)=>D.int (i:Int)) (n:=n) (P:=fun _ t => ∃M s8 s9 s10,(Rds n M∧SyM n M∧BdM n M)∧t=tH c n hf tu nr fr M s8 s9 s10 .no .no) (fun k hk t ⟨M,s8,s9,s10,R,e⟩=>by
  subst e
  obtain⟨M',u9,u10,R',eb⟩:=turn_Hk (c:=c) (hf:=hf) (tu:=tu) (nr:=nr) (fr:=fr) n0 n1 (by lia) (by lia) R hk s9 s10 .no .no
  exact⟨_,_,rfl,eb,M',_,u9,u10,R',rfl⟩) (tH c n hf tu nr fr (zbn4 n (zbn4 n 0)) .no .no .no .no .no) ⟨_,.no,.no,.no,⟨zav0 n,zbc3 n,zbl8 n⟩,rfl⟩
 have E9:dAsg 11 (dNewL (zam0 (nOf (dT1 kLst dNil)) (zam0 (nOf (dT1 kLst dNil)) (zam0 (nOf (dT1 kLst dNil)) nNil)))) (tH c n hf tu nr fr M s8 s9 s10 .no .no)=some (.nx (tH c n hf tu nr fr M s8 s9 s10 (.dp (t3D [] [] [])) .no)):=rfl
 have f10:=zau7 (k0:=za3 8) (b:=bdHt) (t:=tH c n hf tu nr fr M s8 s9 s10 (.dp (t3D [] [] [])) .no) (f:=dC (.int 1)) (f':=dVar 1) (lo:=1) (n:=(n:Int)) (k:=n - 1) rfl rfl (by lia) (by rw [zbo2];exact⟨by unfold bigI;simp;lia,by decide⟩)
 obtain⟨t10,E10,A,B,C,u8,rfl,la,lb,lc⟩:=zae8 (k:=za3 8) (b:=bdHt) (f:=fun (i:Nat)=>D.int (1+(i:Int))) (n:=n - 1) (P:=fun i t => ∃A B C u8,t=tH c n hf tu nr fr M u8 s9 s10 (.dp (t3D A B C)) .no∧A.length=i∧B.length=i∧C.length=i) (fun i hi t ⟨A,B,C,u8,e,la,lb,lc⟩=>by
  subst e
  have ei:(1:Int)+(i:Int)=((1+i:Nat):Int):=by lia
  obtain⟨a,b,d,eb⟩:=turn_Ht (c:=c) (hf:=hf) (tu:=tu) (nr:=nr) (fr:=fr) n0 n1 hh (M:=M) (A:=A) (B:=B) (C:=C) (by lia) (by lia) (by lia) (k:=1+i) (by lia) (by lia) s9 s10 .no
  refine⟨tH c n hf tu nr fr M (.val (.int ((1+i:Nat):Int))) s9 s10 (.dp (t3D A B C)) .no,_,?_,eb,_,_,_,_,rfl,by simp [la],by simp [lb],by simp [lc]⟩
  show za3 8 (D.int (1+(i:Int))) _=_
  rw [ei]
  rfl) (tH c n hf tu nr fr M s8 s9 s10 (.dp (t3D [] [] [])) .no) ⟨[],[],[],s8,rfl,rfl,rfl,rfl⟩
 have e10:rngD 1 (n - 1)=(zbp2 (n - 1)).map fun (i:Nat)=>D.int (1+(i:Int)):=rfl
 rw [e10]at f10
 let tf:Th:=tHf c n hf tu nr fr M u8 s9 s10 (.val (t3D A B C)) .no
 have f11:dFrz 7 (dFrz 11 (dFor (za3 12) (dVar 11) bdHl)) (tH c n hf tu nr fr M u8 s9 s10 (.dp (t3D A B C)) .no)=forD (za3 12) bdHl [.lst (A.map pD),.lst (B.map pD),.lst (C.map pD)] tf:=rfl
 have k1:∀(T:List Ed) (s12:Sl),za3 12 (.lst (T.map pD)) (tHf c n hf tu nr fr M u8 s9 s10 (.val (t3D A B C)) s12)=some (tHf c n hf tu nr fr M u8 s9 s10 (.val (t3D A B C)) (.val (.lst (T.map pD)))):=fun _ _=>rfl
 have E11:dFrz 7 (dFrz 11 (dFor (za3 12) (dVar 11) bdHl)) (tH c n hf tu nr fr M u8 s9 s10 (.dp (t3D A B C)) .no)=some (.nx (tHf c n hf tu nr fr M u8 s9 s10 (.val (t3D A B C)) (.val (.lst (C.map pD))))) :=
  f11.trans ((zk6 (k1 A _) (zap1 n0 n1 R (by lia) _ _ _ _)).trans ((zk6 (k1 B _) (zap1 n0 n1 R (by lia) _ _ _ _)).trans ((zk6 (k1 C _) (zap1 n0 n1 R (by lia) _ _ _ _)).trans rfl)))
 show (zu6 t0).bind zm2=_
 refine bnd ((za7 E1).trans ?_)
 refine (za7 E2).trans ?_
 refine (za7 E3).trans ?_
 refine (za7 E4).trans ?_
 refine (za7 E5).trans ?_
 refine (za7 E6).trans ?_
 refine (za7 E7).trans ?_
 refine (za7 (f8.trans E8)).trans ?_
 refine (za7 E9).trans ?_
 refine (za7 (f10.trans E10)).trans ?_
 exact (za7 E11).trans rfl
end KX
namespace KX
open PySem.Spec L2 DL
theorem lr_8 (S:Sl):gLR [S,.val (.int 8),.no,.no,.no,.no,.no,.no,.no]=some (.rt (.cl (.bl true))):=by kernel_rfl
theorem lr_9 (S:Sl):gLR [S,.val (.int 9),.no,.no,.no,.no,.no,.no,.no]=some (.rt (.cl (.bl true))):=by kernel_rfl
theorem lr_10 (S:Sl):gLR [S,.val (.int 10),.no,.no,.no,.no,.no,.no,.no]=some (.rt (.cl (.bl true))):=by kernel_rfl
theorem lr_11 (S:Sl):gLR [S,.val (.int 11),.no,.no,.no,.no,.no,.no,.no]=some (.rt (.cl (.bl true))):=by kernel_rfl
theorem lr_12 (S:Sl):gLR [S,.val (.int 12),.no,.no,.no,.no,.no,.no,.no]=some (.rt (.cl (.bl true))):=by kernel_rfl
theorem zar4 (c:Int):zi4 [.int c]=some (.cl (.bl true)):=by
 let S:Sl:=.val (.int c)
 obtain⟨q,q1,qe⟩:=mm c 5 (by decide)
 have g:=zd7 (fa:=dVar 0) (fb:=dC (.int 5)) (t:=[S,.no,.no,.no,.no,.no,.no,.no,.no]) (a:=c) (b:=5) rfl rfl (by decide)
 rw [show c.fmod 5=(q:Int) from qe]at g
 have E1:=ze3 (i:=1) (zg6 (fa:=dC (.int 8)) (a:=8) rfl g) (by simp)
 show (zo4 [S,.no,.no,.no,.no,.no,.no,.no,.no]).bind zm2=_
 have E2:gLR [S,.val (.int (8+(q:Int))),.no,.no,.no,.no,.no,.no,.no]=some (.rt (.cl (.bl true))):=by
  rcases (by lia:q=0∨q=1∨q=2∨q=3∨q=4) with z | z | z | z | z<;>subst z
  ·exact lr_8 S
  ·exact lr_9 S
  ·exact lr_10 S
  ·exact lr_11 S
  ·exact lr_12 S
 exact bnd ((za7 E1).trans E2)
theorem k2_of {f:Int→Int→Int}{fa fb:DE}{t:Th}{a b:Int} (h1:fa t=some (.cl (.int a))) (h2:fb t=some (.cl (.int b))):(dT1 (k2I f) (za2 fa (za2 fb dNil))) t=some (.cl (.int (f a b))):=(zl0 h1 h2).trans rfl
theorem eqOk_two (C:List Int) (T:List Ed):eqOk 6 (.tup [.lst (C.map D.int),.lst (T.map pD)]) (.tup [.lst (C.map D.int),.lst (T.map pD)])=true:=by
 have h1:=zac3 4 C
 have h2:=zbi1 3 T
 show ([(D.lst (C.map D.int),D.lst (C.map D.int)),(.lst (T.map pD),.lst (T.map pD))].all fun p=>eqOk 5 p.1 p.2)=true
 simp only [zbq5,List.all_nil,h1,h2,zbv0]
noncomputable def tL (ns:List Int) (c:Int) (n:Nat) (M:List (List Int)) (s2 s3 s5 s8 s9 s10 s11:Sl):Th:=[.val (.lst (ns.map D.int)),.val (.int c),s2,s3,.val (.int (n:Int)),s5,.val (mD M),.dp (mD M),s8,s9,s10,s11]
theorem turn_Q (ns:List Int) (hl:ns.length≤63) {c:Int}{n:Nat}{M:List (List Int)} (R:Rds n M) (Y:SyM n M) (B:BdM n M) (n0:0<n) (n1:n≤40) {k:Nat} (hk:k≤1000) (s3 s5 s8 s9 s10 s11:Sl):∃u8 u9 u10 u11,bdQ (tL ns c n M (.val (.int (k:Int))) s3 s5 s8 s9 s10 s11)=some (.nx (tL ns c n M (.val (.int (k:Int))) s3 s5 u8 u9 u10 u11)):=by
 let t:Th:=tL ns c n M (.val (.int (k:Int))) s3 s5 s8 s9 s10 s11
 obtain⟨v,ec⟩:=zad2 ns hl k (by lia)
 obtain⟨C,T,lc,lt,ep⟩:=paper_is R n0 n1 v
 have g1:(dT1 (zb8 zc7) (za2 (dVar 0) (za2 (dVar 2) dNil))) t=some (.cl (.int v)):=(zl0 (ra:=.cl (.lst (ns.map D.int))) (rb:=.cl (.int (k:Int))) rfl rfl).trans (zl6 ec rfl)
 have g2:(dT1 (zb8 zi8) (za2 (dVar 6) (za2 (dT1 (zb8 zc7) (za2 (dVar 0) (za2 (dVar 2) dNil))) dNil))) t=some (.nw [rwD C,.lst (T.map pD)]):=by
  rw [zl0 (rfl:dVar 6 t=some (.cl (mD M))) g1]
  unfold zb8
  rw [show zi8 ([Ev.cl (mD M),.cl (.int v)].map Ev.d)=_ from ep]
  rfl
 let SC:Sl:=.val (rwD C)
 let ST:Sl:=.val (.lst (T.map pD))
 let H:D:=.tup [.lst (C.map D.int),.lst (T.map pD)]
 let t2:Th:=tL ns c n M (.val (.int (k:Int))) s3 s5 SC ST s10 s11
 have E1:zad6 (gkLst 2 (zc0 (za3 8) (zc0 (za3 9) zh3))) (dT1 (zb8 zi8) (za2 (dVar 6) (za2 (dT1 (zb8 zc7) (za2 (dVar 0) (za2 (dVar 2) dNil))) dNil))) t=some (.nx t2):=by
  unfold zad6
  rw [g2]
  rfl
 have l1:=zar5 (f:=dVar 8) (t:=t2) (r:=.cl (rwD C)) (xs:=C) rfl rfl
 have l2:=zbg4 (f:=dVar 9) (t:=t2) (r:=.cl (.lst (T.map pD))) (ts:=T) rfl rfl
 have g3:(dT1 kTup (za2 (dT1 zm7 (za2 (dVar 8) dNil)) (za2 (dT1 zm7 (za2 (dVar 9) dNil)) dNil))) t2=some (.cl H):=(zl0 l1 l2).trans rfl
 have E2:=ze3 (i:=10) g3 (by simp [t2,tL])
 let t3:Th:=tL ns c n M (.val (.int (k:Int))) s3 s5 SC ST (.val H) s11
 obtain⟨a,ea,ha⟩:=zar6 R Y B n0 n1 (C:=C) (T:=T) (by lia) (by lia)
 obtain⟨b,eb,hb⟩:=zaw1 R Y B n0 n1 (C:=C) (T:=T) (by lia) (by lia)
 have ab:a=b:=zbl4 ha hb
 subst ab
 have g4:(dT1 (zb8 ze0) (za2 (dVar 6) (za2 (d2 kIx (dVar 10) (dC (.int 0))) (za2 (d2 kIx (dVar 10) (dC (.int 1))) dNil)))) t3=some (.cl (.bl a)):=(zad3 (ra:=.cl (mD M)) (rb:=.cl (.lst (C.map D.int))) (rc:=.cl (.lst (T.map pD))) rfl rfl rfl).trans (zl6 ea rfl)
 have E3:=ze3 (i:=11) g4 (by simp [t3,tL])
 let t4:Th:=tL ns c n M (.val (.int (k:Int))) s3 s5 SC ST (.val H) (.val (.bl a))
 have c1:(dNot (dTr (dIsi "bool" (dVar 11)))) t4=some false:=rfl
 have g5:(dT1 (zb8 zg2) (za2 (dVar 6) (za2 (dVar 8) (za2 (dVar 9) dNil)))) t4=some (.cl (.bl a)):=(zad3 (ra:=.cl (mD M)) (rb:=.cl (rwD C)) (rc:=.cl (.lst (T.map pD))) rfl rfl rfl).trans (zl6 eb rfl)
 have c2:=zbf0 (rfl:dVar 11 t4=some (.cl (.bl a))) g5
 have c3:dBo (d2 kNe (dVar 10) (dT1 kTup (za2 (dVar 8) (za2 (dVar 9) dNil)))) t4=some false:=by
  unfold dBo
  rw [zh5 (rfl:dVar 10 t4=some (.cl H)) (rfl:(dT1 kTup (za2 (dVar 8) (za2 (dVar 9) dNil))) t4=some (.cl H))]
  unfold kNe
  show zcf7 (if eqOk 6 H H then some (Ev.cl (.bl (!eqD H H))) else none) _=_
  rw [show eqOk 6 H H=true from eqOk_two C T,zah4]
  rfl
 have E4:=grd (g:=dRet (dC (.bl false))) (zy0 c1 (zy0 c2 c3)) rfl
 exact⟨SC,ST,.val H,.val (.bl a),(za7 E1).trans ((za7 E2).trans ((za7 E3).trans E4))⟩
theorem law_true (ns:List Int) (hl:ns.length≤63) (hb:∀n∈ns,n.natAbs<bndS):G_law [.lst (ns.map D.int)]=some (.cl (.bl true)):=by
 let A:Sl:=.val (.lst (ns.map D.int))
 let t0:Th:=[A,.no,.no,.no,.no,.no,.no,.no,.no,.no,.no,.no]
 obtain⟨c,ec⟩:=zad2 ns hl 9 (by decide)
 have g1:(dT1 (zb8 zc7) (za2 (dVar 0) (za2 (dC (.int 9)) dNil))) t0=some (.cl (.int c)):=(zl0 (ra:=.cl (.lst (ns.map D.int))) (rb:=.cl (.int 9)) rfl rfl).trans (zl6 ec rfl)
 have E1:=ze3 (i:=1) g1 (by simp [t0])
 let t1:Th:=[A,.val (.int c),.no,.no,.no,.no,.no,.no,.no,.no,.no,.no]
 obtain⟨m3,em3,_⟩:=zq3 c 3 (by decide)
 obtain⟨m4,em4,_⟩:=zq3 c 4 (by decide)
 have g2:(dT1 (zb8 zc5) (za2 (dVar 1) (za2 (dC (.int 3)) dNil))) t1=some (.cl (.int m3)):=(zl0 (ra:=.cl (.int c)) (rb:=.cl (.int 3)) rfl rfl).trans (zl6 em3 rfl)
 have g3:(dT1 (zb8 zc5) (za2 (dVar 1) (za2 (dC (.int 4)) dNil))) t1=some (.cl (.int m4)):=(zl0 (ra:=.cl (.int c)) (rb:=.cl (.int 4)) rfl rfl).trans (zl6 em4 rfl)
 have g4:(dT1 (zb8 zi4) (za2 (dT1 (zb8 zc5) (za2 (dVar 1) (za2 (dC (.int 4)) dNil))) dNil)) t1=some (.cl (.bl true)):=(zl9 g3).trans (zl6 (zar4 m4) rfl)
 have c2:=zai4 (zo8 (zd7 g2 (fb:=dC (.int 8)) (b:=8) rfl (by decide)) (fb:=dC (.int 3)) (b:=3) rfl) (zav7 (zay6 g4))
 have E2:=grd (g:=dRet (dC (.bl false))) c2 (by simp)
 have f3:zi3 (za3 2) (dC (.int 4)) bdHq t1=forD (za3 2) bdHq ((zb9 4).map D.int) t1:=zm0 (r:=.cl (.int ((4:Nat):Int))) rfl rfl (by decide)
 have e4:(zb9 4).map D.int=(zbp2 4).map fun (i:Nat)=>D.int (i:Int):=by simp [zb9]
 rw [e4]at f3
 obtain⟨t3,E3,s2,rfl⟩:=zae8 (k:=za3 2) (b:=bdHq) (f:=fun (i:Nat)=>D.int (i:Int)) (n:=4) (P:=fun _ t => ∃s2,t=[A,.val (.int c),s2,.no,.no,.no,.no,.no,.no,.no,.no,.no]) (fun k hk t ⟨s2,e⟩=>by
  subst e
  let u:Th:=[A,.val (.int c),.val (.int (k:Int)),.no,.no,.no,.no,.no,.no,.no,.no,.no]
  obtain⟨m,em,_⟩:=zq3 c (5+k) (by lia)
  have a1:=zg6 (fa:=dC (.int 5)) (fb:=dVar 2) (t:=u) (a:=5) (b:=(k:Int)) rfl rfl
  rw [show (5:Int)+(k:Int)=((5+k:Nat):Int) by lia]at a1
  have a2:(dT1 (zb8 zc5) (za2 (dVar 1) (za2 (d2 qA (dC (.int 5)) (dVar 2)) dNil))) u=some (.cl (.int m)):=(zl0 (rfl:dVar 1 u=some (.cl (.int c))) a1).trans (zl6 em rfl)
  have a3:(dT1 (zb8 zm4) (za2 (dT1 (zb8 zc5) (za2 (dVar 1) (za2 (d2 qA (dC (.int 5)) (dVar 2)) dNil))) dNil)) u=some (.cl (.bl true)):=(zl9 a2).trans (zl6 (heaps_is m) rfl)
  exact⟨u,u,rfl,grd (zav7 (zay6 a3)) rfl,_,rfl⟩) t1 ⟨_,rfl⟩
 obtain⟨d,ed⟩:=zad2 ns hl 0 (by decide)
 obtain⟨m,em,m0⟩:=zq3 d 1 (by decide)
 let t3:Th:=[A,.val (.int c),s2,.no,.no,.no,.no,.no,.no,.no,.no,.no]
 have h1:(dT1 (zb8 zc7) (za2 (dVar 0) (za2 (dC (.int 0)) dNil))) t3=some (.cl (.int d)):=(zl0 (ra:=.cl (.lst (ns.map D.int))) (rb:=.cl (.int 0)) rfl rfl).trans (zl6 ed rfl)
 have h2:(dT1 (zb8 zc5) (za2 (dT1 (zb8 zc7) (za2 (dVar 0) (za2 (dC (.int 0)) dNil))) (za2 (dC (.int 1)) dNil))) t3=some (.cl (.int m)):=(zl0 h1 (rfl:dC (.int 1) t3=some (.cl (.int 1)))).trans (zl6 em rfl)
 have E4:=ze3 (i:=3) h2 (by simp [t3])
 let t4:Th:=[A,.val (.int c),s2,.val (.int m),.no,.no,.no,.no,.no,.no,.no,.no]
 have h3:=zd7 (fa:=dVar 3) (fb:=dC (.int 6)) (t:=t4) (a:=m) (b:=6) rfl rfl (by decide)
 obtain⟨q,q1,qe⟩:=mm m 6 (by decide)
 rw [show m.fmod 6=(q:Int) from qe]at h3
 have h4:=zg6 (fa:=dC (.int 1)) (a:=1) rfl h3
 have E5:=ze3 (i:=4) h4 (by simp [t4])
 let t5:Th:=[A,.val (.int c),s2,.val (.int m),.val (.int (1+(q:Int))),.no,.no,.no,.no,.no,.no,.no]
 have h5:=k2_of (f:=fun i j=>if j > i then j else i) (fa:=dC (.int 11)) (a:=11) (t:=t5) rfl (k2_of (f:=fun i j=>if j<i then j else i) (zaw2 (f:=dVar 0) (t:=t5) (r:=.cl (.lst (ns.map D.int))) (xs:=ns) rfl rfl) (fb:=dC (.int 63)) (b:=63) rfl)
 obtain⟨h,hh0,hh,eh⟩:∃h:Nat,11≤h∧h≤63∧(if (if (63:Int)<(ns.length:Int) then 63 else (ns.length:Int)) > 11 then (if (63:Int)<(ns.length:Int) then 63 else (ns.length:Int)) else 11)=(h:Int):=by
  have z : ¬ (63:Int)<(ns.length:Int):=by lia
  simp only [if_neg z]
  by_cases y:(ns.length:Int) > 11
  ·rw [if_pos y];exact⟨ns.length,by lia,by lia,rfl⟩
  ·rw [if_neg y];exact⟨11,by lia,by lia,rfl⟩
 have h5':(dT1 qX (za2 (dC (.int 11)) (za2 (dT1 qN (za2 (dT1 kLen (za2 (dVar 0) dNil)) (za2 (dC (.int 63)) dNil))) dNil))) t5=some (.cl (.int (h:Int))):=by
  rw [h5, ← eh]
 have E6:=ze3 (i:=5) h5' (by simp [t5])
 let t6:Th:=[A,.val (.int c),s2,.val (.int m),.val (.int (1+(q:Int))),.val (.int (h:Int)),.no,.no,.no,.no,.no,.no]
 obtain⟨n,l,n0,n1,l1,l2,E7⟩:∃n l:Nat,0<n∧n≤40∧10≤l∧l≤63∧dIfS (dBo (d2 kEq (d2 qR (d2 qV (dVar 3) (dC (.int 6))) (dC (.int 8))) (dC (.int 5)))) (dSeq (dAsg 4 (d2 qA (dC (.int 7)) (d2 qR (d2 qV (dVar 3) (dC (.int 48))) (dC (.int 6)))))
  (dAsg 5 (dT1 qN (za2 (dVar 5) (za2 (dC (.int 30)) dNil))))) zh4 t6=some (.nx [A,.val (.int c),s2,.val (.int m),.val (.int (n:Int)),.val (.int (l:Int)),.no,.no,.no,.no,.no,.no]):=by
  have cc:=zo8 (zd7 (zk1 (fa:=dVar 3) (fb:=dC (.int 6)) (t:=t6) (a:=m) (b:=6) rfl rfl (by decide) (sm_of (by decide) (by decide))) (fb:=dC (.int 8)) (b:=8) rfl (by decide)) (fb:=dC (.int 5)) (b:=5) rfl
  cases z:decide ((m.fdiv 6).fmod 8=5) with
  |false =>
   refine⟨1+q,h,by lia,by lia,by lia,hh,(grd cc z).trans ?_⟩
   rw [show ((1+q:Nat):Int)=1+(q:Int) by lia]
  |true =>
   obtain⟨p,p1,pe⟩:=mm (m.fdiv 48) 6 (by decide)
   have a1:=zd7 (zk1 (fa:=dVar 3) (fb:=dC (.int 48)) (t:=t6) (a:=m) (b:=48) rfl rfl (by decide) (sm_of (by decide) (by decide))) (fb:=dC (.int 6)) (b:=6) rfl (by decide)
   rw [show (m.fdiv 48).fmod 6=(p:Int) from pe]at a1
   have a2:=zg6 (fa:=dC (.int 7)) (a:=7) rfl a1
   have F1:=ze3 (i:=4) a2 (by simp [t6])
   let t7:Th:=[A,.val (.int c),s2,.val (.int m),.val (.int (7+(p:Int))),.val (.int (h:Int)),.no,.no,.no,.no,.no,.no]
   have a3:=k2_of (f:=fun i j=>if j<i then j else i) (fa:=dVar 5) (fb:=dC (.int 30)) (t:=t7) (a:=(h:Int)) (b:=30) rfl rfl
   obtain⟨l,l1,l2,el⟩:∃l:Nat,10≤l∧l≤63∧(if (30:Int)<(h:Int) then 30 else (h:Int))=(l:Int):=by
    split
    ·exact⟨30,by lia,by lia,rfl⟩
    ·exact⟨h,by lia,by lia,rfl⟩
   have a3':(dT1 qN (za2 (dVar 5) (za2 (dC (.int 30)) dNil))) t7=some (.cl (.int (l:Int))):=by rw [a3, ← el]
   have F2:=ze3 (i:=5) a3' (by simp [t7])
   refine⟨7+p,l,by lia,by lia,l1,l2,(zr7 cc z).trans ((za7 (t':=t7) F1).trans (F2.trans ?_))⟩
   rw [show ((7+p:Nat):Int)=7+(p:Int) by lia]
   rfl
 let t7:Th:=[A,.val (.int c),s2,.val (.int m),.val (.int (n:Int)),.val (.int (l:Int)),.no,.no,.no,.no,.no,.no]
 obtain⟨M,⟨R,Y,Tr,B⟩,er⟩:=roads_of ns hl 1 (by decide) n0 (by lia)
 have S:=R.sq
 have E8:dAsg 6 (dT1 (zb8 zi7) (za2 (dVar 0) (za2 (dC (.int 1)) (za2 (dVar 4) dNil)))) t7=some (.nx [A,.val (.int c),s2,.val (.int m),.val (.int (n:Int)),.val (.int (l:Int)),.dp (mD M),.no,.no,.no,.no,.no]):=by
  unfold dAsg
  rw [(zad3 (ra:=.cl (.lst (ns.map D.int))) (rb:=.cl (.int 1)) (rc:=.cl (.int (n:Int))) rfl rfl rfl:(dT1 (zb8 zi7) (za2 (dVar 0) (za2 (dC (.int 1)) (za2 (dVar 4) dNil)))) t7=_),zat1 (G:=zi7) (rs:=[.cl (.lst (ns.map D.int)),.cl (.int 1),.cl (.int (n:Int))]) er (by simp [Ev.ok])]
  rfl
 let t8:Th:=[A,.val (.int c),s2,.val (.int m),.val (.int (n:Int)),.val (.int (l:Int)),.val (mD M),.no,.no,.no,.no,.no]
 have E9:dFrz 6 (dAsg 7 (zg1 1 [] (fsL (dVar 6)) (za3 0) zc3 (dT1 zm7 (za2 (dVar 0) dNil)))) [A,.val (.int c),s2,.val (.int m),.val (.int (n:Int)),.val (.int (l:Int)),.dp (mD M),.no,.no,.no,.no,.no]=some (.nx (tL ns c n M s2 (.val (.int m)) (.val (.int (l:Int))) .no .no .no .no)):=by
  show dAsg 7 (zg1 1 [] (fsL (dVar 6)) (za3 0) zc3 (dT1 zm7 (za2 (dVar 0) dNil))) t8=_
  unfold dAsg
  rw [zbg9 (t:=t8) (i:=6) (M:=M) (r:=.cl (mD M)) rfl rfl (by rw [S.len];lia)]
  rfl
 let t9:Th:=tL ns c n M s2 (.val (.int m)) (.val (.int (l:Int))) .no .no .no .no
 have fr:=zau7 (k0:=za3 2) (b:=bdQ) (t:=t9) (f:=dC (.int 10)) (f':=dVar 5) (lo:=10) (n:=(l:Int)) (k:=l - 10) rfl rfl (by lia) (by rw [zbo2];exact⟨by unfold bigI;simp;lia,by decide⟩)
 obtain⟨t10,E10,v2,v8,v9,v10,v11,rfl⟩:=zae8 (k:=za3 2) (b:=bdQ) (f:=fun (i:Nat)=>D.int (10+(i:Int))) (n:=l - 10) (P:=fun _ t => ∃v2 v8 v9 v10 v11:Sl,t=tL ns c n M v2 (.val (.int m)) (.val (.int (l:Int))) v8 v9 v10 v11) (by
  rintro x hx t ⟨v2,v8,v9,v10,v11,rfl⟩
  have ex:(10:Int)+(x:Int)=((10+x:Nat):Int):=by lia
  obtain⟨u8,u9,u10,u11,eb⟩:=turn_Q ns hl (c:=c) R Y B n0 n1 (k:=10+x) (by lia) (.val (.int m)) (.val (.int (l:Int))) v8 v9 v10 v11
  refine⟨tL ns c n M (.val (.int ((10+x:Nat):Int))) (.val (.int m)) (.val (.int (l:Int))) v8 v9 v10 v11,_,?_,eb,_,u8,u9,u10,u11,rfl⟩
  show za3 2 (D.int (10+(x:Int))) _=_
  rw [ex]
  rfl) t9 ⟨_,_,_,_,_,rfl⟩
 have e10:rngD 10 (l - 10)=(zbp2 (l - 10)).map fun (i:Nat)=>D.int (10+(i:Int)):=rfl
 rw [e10]at fr
 obtain⟨T,pr,lT,hT,gr,pm,eT⟩:=zaf3 S n0 n1
 have own:=own_let n0 n1 (wM_nn n0 R) (wM_sy n0 Y) (wM_tr n0 Tr) (wM_zz n0 R) pr lT hT gr pm
 generalize (trav (chI T) 59 [0]).1=C at own eT
 obtain⟨I,lC⟩:=zbk0 n0 own.pc
 let t10:Th:=tL ns c n M v2 (.val (.int m)) (.val (.int (l:Int))) v8 v9 v10 v11
 let t11:Th:=tL ns c n M v2 (.val (.int m)) (.val (.int (l:Int))) (.val (.lst (C.map D.int))) (.val (.lst (T.map pD))) v10 v11
 have E11:zad6 (zh2 2 (zc0 (za3 8) (zc0 (za3 9) zh3))) (dT1 (zb8 zd0) (za2 (dVar 6) dNil)) t10=some (.nx t11):=by
  unfold zad6
  rw [(zl9 (ra:=.cl (mD M)) rfl:(dT1 (zb8 zd0) (za2 (dVar 6) dNil)) t10=_),zat1 (G:=zd0) (rs:=[.cl (mD M)]) eT (by simp [Ev.ok])]
  rfl
 obtain⟨b,eb,hbb⟩:=zar6 R Y B n0 n1 (C:=C) (T:=T) (by lia) (by lia)
 have bt:b=true:=hbb.mpr own
 subst bt
 have g6:(dT1 (zb8 ze0) (za2 (dVar 6) (za2 (dVar 8) (za2 (dVar 9) dNil)))) t11=some (.cl (.bl true)):=(zad3 (ra:=.cl (mD M)) (rb:=.cl (.lst (C.map D.int))) (rc:=.cl (.lst (T.map pD))) rfl rfl rfl).trans (zl6 eb rfl)
 have g7:(d2 kIsB (dT1 (zb8 ze0) (za2 (dVar 6) (za2 (dVar 8) (za2 (dVar 9) dNil)))) (dC (.bl true))) t11=some (.cl (.bl true)):=by
  rw [zh5 g6 (rfl:dC (.bl true) t11=some (.cl (.bl true)))]
  rfl
 have g8:(d2 kEq (dVar 6) (dVar 7)) t11=some (.cl (.bl true)):=(zh5 (ra:=.cl (mD M)) (rb:=.tm (mD M)) rfl rfl).trans (eq_mD M rfl rfl)
 have E12:=zaa4 (zat5 g7 fun _=>g8)
 show (g_law t0).bind zm2=_
 refine bnd ((za7 E1).trans ?_)
 refine (za7 E2).trans ?_
 refine (za7 (f3.trans E3)).trans ?_
 refine (za7 E4).trans ?_
 refine (za7 E5).trans ?_
 refine (za7 E6).trans ?_
 refine (za7 E7).trans ?_
 refine (za7 E8).trans ?_
 refine (za7 E9).trans ?_
 refine (za7 (fr.trans E10)).trans ?_
 exact (za7 E11).trans E12
end KX
set_option maxHeartbeats 4000000
namespace KX
open PySem.Spec L2 DL
noncomputable def spLaw (K:zbm7):Sp:=spD K G_law
theorem all_mk {P:Program}{w:World}{K:zbm7}{h:Heap}{mg:Str→Option Value}{fa:Addr} (X:K.In h) (G:h.Ns mainGlobals mg) (hfa:mg "law"=some (.ref fa)) {f0:Addr}{f1:Addr}{f2:Addr}{f3:Addr}{f4:Addr}{f5:Addr}{f6:Addr}{f7:Addr}{f8:Addr}{f9:Addr}{f10:Addr}{f11:Addr}{f12:Addr}{f13:Addr}{f14:Addr}{f15:Addr}{f16:Addr}{f17:Addr}{f18:Addr}{f19:Addr}{f20:Addr}{f21:Addr}
  (h0:Hv K "neighbours" zm9 f0)
  (h1:Hv K "length_of" zp5 f1)
  (h2:Hv K "grown_tree" zn0 f2)
  (h3:Hv K "tour_down" zp3 f3)
  (h4:Hv K "tour_by_tree" zj6 f4)
  (h5:Hv K "joins_two" zq1 f5)
  (h6:Hv K "longest_on_way" zi5 f6)
  (h7:Hv K "is_shortest_tree" zg4 f7)
  (h8:Hv K "lets_tour" zp4 f8)
  (h9:Hv K "_law_cell" zs6 f9)
  (h10:Hv K "_law_mixed" zp9 f10)
  (h11:Hv K "_law_row" zv5 f11)
  (h12:Hv K "_law_roads" zp6 f12)
  (h13:Hv K "_law_most_on_ways" zg3 f13)
  (h14:Hv K "_law_long" zs4 f14)
  (h15:Hv K "_law_lets" zs5 f15)
  (h16:Hv K "_law_order" zp8 f16)
  (h17:Hv K "_law_far" zv6 f17)
  (h18:Hv K "_law_paper" zp7 f18)
  (h19:Hv K "_law_long_row" zj7 f19)
  (h20:Hv K "_law_heaps" zq0 f20)
  (h21:Hv K "law" s_law f21)
  (z_abs:zbr8 K mainGlobals "abs"=some none) (z_all:zbr8 K mainGlobals "all"=some none) (z_any:zbr8 K mainGlobals "any"=some none) (z_bool:zbr8 K mainGlobals "bool"=some none) (z_int:zbr8 K mainGlobals "int"=some none) (z_isinstance:zbr8 K mainGlobals "isinstance"=some none) (z_len:zbr8 K mainGlobals "len"=some none) (z_list:zbr8 K mainGlobals "list"=some none) (z_max:zbr8 K mainGlobals "max"=some none) (z_min:zbr8 K mainGlobals "min"=some none) (z_range:zbr8 K mainGlobals "range"=some none) (z_reversed:zbr8 K mainGlobals "reversed"=some none) (z_sorted:zbr8 K mainGlobals "sorted"=some none) (z_sum:zbr8 K mainGlobals "sum"=some none)   :
  TbOk K []∧∃fd:FuncData,(∀(s:zbo3) (v:Value),BindsTo s fd ⟨[v],[]⟩ [("_law_script",v)])∧∀base:BHeap,base.tabs=tbOf K []→K.In base→base.Ns mainGlobals mg→(∀x∈([]:List Str),∀c P,zch9 K x=some (c,P)→zcg6 base c P)→FnOk P w K mg base CX0 5 fa fd ["_law_script"] (spLaw K):=by
 have e:=hfa.symm.trans (h21.mg X G)
 cases e
 have bu:Blt mg:=⟨zbq0 X G z_abs,zbq0 X G z_all,zbq0 X G z_any,zbq0 X G z_bool,zbq0 X G z_int,zbq0 X G z_isinstance,zbq0 X G z_len,zbq0 X G z_list,zbq0 X G z_max,zbq0 X G z_min,zbq0 X G z_range,zbq0 X G z_reversed,zbq0 X G z_sorted,zbq0 X G z_sum⟩
 obtain⟨_,u0⟩:=h0.fn
 have d0:Df K mg "neighbours" zm9 ["web"] f0 _:=⟨u0,h0.mg X G,zaf4 u0 fun _ _ _ _ _ _ _=>rfl⟩
 obtain⟨_,u1⟩:=h1.fn
 have d1:Df K mg "length_of" zp5 ["roads", "tour"] f1 _:=⟨u1,h1.mg X G,zt3 u1 fun _ _ _ _ _ _ _ _=>rfl⟩
 obtain⟨_,u2⟩:=h2.fn
 have d2:Df K mg "grown_tree" zn0 ["roads"] f2 _:=⟨u2,h2.mg X G,zaf4 u2 fun _ _ _ _ _ _ _=>rfl⟩
 obtain⟨_,u3⟩:=h3.fn
 have d3:Df K mg "tour_down" zp3 ["many", "tree"] f3 _:=⟨u3,h3.mg X G,zt3 u3 fun _ _ _ _ _ _ _ _=>rfl⟩
 obtain⟨_,u4⟩:=h4.fn
 have d4:Df K mg "tour_by_tree" zj6 ["roads"] f4 _:=⟨u4,h4.mg X G,zaf4 u4 fun _ _ _ _ _ _ _=>rfl⟩
 obtain⟨_,u5⟩:=h5.fn
 have d5:Df K mg "joins_two" zq1 ["pair", "many"] f5 _:=⟨u5,h5.mg X G,zt3 u5 fun _ _ _ _ _ _ _ _=>rfl⟩
 obtain⟨_,u6⟩:=h6.fn
 have d6:Df K mg "longest_on_way" zi5 ["roads", "beside", "start"] f6 _:=⟨u6,h6.mg X G,zao2 u6 fun _ _ _ _ _ _ _ _ _=>rfl⟩
 obtain⟨_,u7⟩:=h7.fn
 have d7:Df K mg "is_shortest_tree" zg4 ["roads", "tree"] f7 _:=⟨u7,h7.mg X G,zt3 u7 fun _ _ _ _ _ _ _ _=>rfl⟩
 obtain⟨_,u8⟩:=h8.fn
 have d8:Df K mg "lets_tour" zp4 ["roads", "tour", "tree"] f8 _:=⟨u8,h8.mg X G,zao2 u8 fun _ _ _ _ _ _ _ _ _=>rfl⟩
 obtain⟨_,u9⟩:=h9.fn
 have d9:Df K mg "_law_cell" zs6 ["_law_script", "_law_k"] f9 _:=⟨u9,h9.mg X G,zt3 u9 fun _ _ _ _ _ _ _ _=>rfl⟩
 obtain⟨_,u10⟩:=h10.fn
 have d10:Df K mg "_law_mixed" zp9 ["_law_cell_here", "_law_k"] f10 _:=⟨u10,h10.mg X G,zt3 u10 fun _ _ _ _ _ _ _ _=>rfl⟩
 obtain⟨_,u11⟩:=h11.fn
 have d11:Df K mg "_law_row" zv5 ["_law_cell_here", "_law_many", "_law_bounds", "_law_plain"] f11 _:=⟨u11,h11.mg X G,binds4 u11 fun _ _ _ _ _ _ _ _ _ _=>rfl⟩
 obtain⟨_,u12⟩:=h12.fn
 have d12:Df K mg "_law_roads" zp6 ["_law_script", "_law_start", "_law_many"] f12 _:=⟨u12,h12.mg X G,zao2 u12 fun _ _ _ _ _ _ _ _ _=>rfl⟩
 obtain⟨_,u13⟩:=h13.fn
 have d13:Df K mg "_law_most_on_ways" zg3 ["_law_roads_here", "_law_tree", "_law_start"] f13 _:=⟨u13,h13.mg X G,zao2 u13 fun _ _ _ _ _ _ _ _ _=>rfl⟩
 obtain⟨_,u14⟩:=h14.fn
 have d14:Df K mg "_law_long" zs4 ["_law_roads_here", "_law_tour"] f14 _:=⟨u14,h14.mg X G,zt3 u14 fun _ _ _ _ _ _ _ _=>rfl⟩
 obtain⟨_,u15⟩:=h15.fn
 have d15:Df K mg "_law_lets" zs5 ["_law_roads_here", "_law_tour", "_law_tree"] f15 _:=⟨u15,h15.mg X G,zao2 u15 fun _ _ _ _ _ _ _ _ _=>rfl⟩
 obtain⟨_,u16⟩:=h16.fn
 have d16:Df K mg "_law_order" zp8 ["_law_cell_here", "_law_many"] f16 _:=⟨u16,h16.mg X G,zt3 u16 fun _ _ _ _ _ _ _ _=>rfl⟩
 obtain⟨_,u17⟩:=h17.fn
 have d17:Df K mg "_law_far" zv6 ["_law_number", "_law_many"] f17 _:=⟨u17,h17.mg X G,zt3 u17 fun _ _ _ _ _ _ _ _=>rfl⟩
 obtain⟨_,u18⟩:=h18.fn
 have d18:Df K mg "_law_paper" zp7 ["_law_roads_here", "_law_cell_here"] f18 _:=⟨u18,h18.mg X G,zt3 u18 fun _ _ _ _ _ _ _ _=>rfl⟩
 obtain⟨_,u19⟩:=h19.fn
 have d19:Df K mg "_law_long_row" zj7 ["_law_cell_here"] f19 _:=⟨u19,h19.mg X G,zaf4 u19 fun _ _ _ _ _ _ _=>rfl⟩
 obtain⟨_,u20⟩:=h20.fn
 have d20:Df K mg "_law_heaps" zq0 ["_law_cell_here"] f20 _:=⟨u20,h20.mg X G,zaf4 u20 fun _ _ _ _ _ _ _=>rfl⟩
 obtain⟨_,u21⟩:=h21.fn
 have d21:Df K mg "law" s_law ["_law_script"] fa _:=⟨u21,h21.mg X G,zaf4 u21 fun _ _ _ _ _ _ _=>rfl⟩
 refine⟨tbOk_nil,_,Hv.bt u21 fun _ _ _ _ _ _ _=>rfl,fun base ht _ _ hCd=>?_⟩
 have F_neighbours:=zag4 (P:=P) (w:=w) (base:=base) d0.fn bu
 have F_length_of:=zal2 (P:=P) (w:=w) (base:=base) d1.fn bu
 have F_grown_tree:=zag5 (P:=P) (w:=w) (base:=base) d2.fn bu
 have F_tour_down:=zal0 (P:=P) (w:=w) (base:=base) d3.fn bu
 have F_tour_by_tree:=zab1 (P:=P) (w:=w) (base:=base) d4.fn bu (d2.cal F_grown_tree) (d3.cal F_tour_down)
 have F_joins_two:=zal8 (P:=P) (w:=w) (base:=base) d5.fn bu
 have F_longest_on_way:=zx1 (P:=P) (w:=w) (base:=base) d6.fn bu
 have F_is_shortest_tree:=zt8 (P:=P) (w:=w) (base:=base) d7.fn bu (d5.cal F_joins_two) (d0.cal F_neighbours) (d6.cal F_longest_on_way)
 have F_lets_tour:=zal1 (P:=P) (w:=w) (base:=base) d8.fn bu (d7.cal F_is_shortest_tree) (d1.cal F_length_of)
 have F_law_cell:=zaq7 (P:=P) (w:=w) (base:=base) d9.fn bu
 have F_law_mixed:=zal6 (P:=P) (w:=w) (base:=base) d10.fn bu
 have F_law_row:=zaz6 (P:=P) (w:=w) (base:=base) d11.fn bu (d10.cal F_law_mixed)
 have F_law_roads:=zal3 (P:=P) (w:=w) (base:=base) d12.fn bu (d9.cal F_law_cell) (d11.cal F_law_row)
 have F_law_most_on_ways:=zt7 (P:=P) (w:=w) (base:=base) d13.fn bu
 have F_law_long:=zaq5 (P:=P) (w:=w) (base:=base) d14.fn bu
 have F_law_lets:=zaq6 (P:=P) (w:=w) (base:=base) d15.fn bu (d13.cal F_law_most_on_ways) (d14.cal F_law_long)
 have F_law_order:=zal5 (P:=P) (w:=w) (base:=base) d16.fn bu
 have F_law_far:=zaz7 (P:=P) (w:=w) (base:=base) d17.fn bu
 have F_law_paper:=zal4 (P:=P) (w:=w) (base:=base) d18.fn bu (d4.cal F_tour_by_tree) (d10.cal F_law_mixed) (d16.cal F_law_order) (d17.cal F_law_far)
 have F_law_long_row:=zab2 (P:=P) (w:=w) (base:=base) d19.fn bu (d8.cal F_lets_tour) (d15.cal F_law_lets)
 have F_law_heaps:=zal7 (P:=P) (w:=w) (base:=base) d20.fn bu (d10.cal F_law_mixed) (d8.cal F_lets_tour) (d15.cal F_law_lets)
 have F_law:=ok_law (P:=P) (w:=w) (base:=base) d21.fn bu (d9.cal F_law_cell) (d10.cal F_law_mixed) (d19.cal F_law_long_row) (d20.cal F_law_heaps) (d12.cal F_law_roads) (d18.cal F_law_paper) (d8.cal F_lets_tour) (d15.cal F_law_lets) (d4.cal F_tour_by_tree)
 exact F_law
theorem walk {l:zce8}{q:Program}{loose:List Str}{XP:(Str→Option Value)→Heap→Prop}{YP:World→Heap→Prop}{d:DefRec}{K:Params→zbm7} (hn:l.most=some 63) (hdf:d.params.defaults=[])
  (hY:∀(w:World) (h:Heap),YP w h→(K w.params).In h) (hrec:∀x∈([]:List Str),∃dr,(recsOf q).find? (fun e=>e.name == x)=some dr)
  (Fx:∀(w:World) (mg:Str→Option Value) (fa:Addr) (h:Heap),(K w.params).In h→h.Ns mainGlobals mg→mg d.name=some (.ref fa) →
   TbOk (K w.params) []∧∃fd:FuncData,(∀(s:zbo3) (u:Value),BindsTo s fd ⟨[u],[]⟩ [("_law_script",u)])∧∀base:BHeap,base.tabs=tbOf (K w.params) []→(K w.params).In base→base.Ns mainGlobals mg→(∀x∈([]:List Str),∀c P,zch9 (K w.params) x=some (c,P)→zcg6 base c P)→FnOk l.prog w (K w.params) mg base CX0 5 fa fd ["_law_script"] (spLaw (K w.params))) :
  zch5 q loose XP YP l.row.toRowW d [] (fun f vs=>PySem.call f vs) :=
 L2.walk_ofT (n:=63) (k:=5) (x := "_law_script") (names:=[]) (CX:=fun _=>CX0) (sp:=fun w=>spLaw (K w.params)) hn (by decide) hdf ⟨rfl,by decide,by decide⟩ hY hrec Fx
  (fun _ H a ns hl hb hS=>⟨[],[.lst (ns.map .int)],.cl (.bl true),fun p hp=>(by cases hp),.cons (.lst (by rw [hide_nil];exact hS) (Reps.ints ns)) .nil,law_true ns hl hb,fun v H' _ q=>by cases q;rfl⟩) fun _ _ _ _ _ z=>z
end KX
open PySem PySem.W PyProof.Rows
set_option maxRecDepth 100000 in
set_option maxHeartbeats 0 in
theorem PySem.Challenge.cw_nearenough_k20_looker_of_tours_holds : PySem.Challenge.rw_nearenough_k20_looker_of_tours.Holds := by
 w_on;o_law;k_head;(case hw=>w_witness2)
 k_fill
 refine KX.walk (l:=PySem.Challenge.rw_nearenough_k20_looker_of_tours) rfl rfl (fun w h Y=>by first | exact PySem.W.kIn_of Y | exact PySem.W.km_in_of Y) (by intro x hx;simp at hx) ?F
 case F =>
  intro w mg fa h KI G hmg
  refine' KX.all_mk KI G hmg ?h0 ?h1 ?h2 ?h3 ?h4 ?h5 ?h6 ?h7 ?h8 ?h9 ?h10 ?h11 ?h12 ?h13 ?h14 ?h15 ?h16 ?h17 ?h18 ?h19 ?h20 ?h21 ?z_abs ?z_all ?z_any ?z_bool ?z_int ?z_isinstance ?z_len ?z_list ?z_max ?z_min ?z_range ?z_reversed ?z_sorted ?z_sum
  all_goals try (refine' DL.Hv.mk ?a ?l ?c ?k;(case a=>k_is);(case l=>k_is);(case c=>k_is);(case k=>k_is))
  all_goals try k_is

