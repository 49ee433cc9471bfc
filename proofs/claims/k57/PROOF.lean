import PyProof.Rows.All
import Wide.All
import OpenK.AllK
import Wide.FinOn
import PyProof.EqAt
import PyProof.EqKinds
import PyProof.NeKinds
import PyProof.TupleCall
import PyProof.EnumFor
import PyProof.EnumMake
import PyProof.CompFree
import PyProof.Rows.SumAny
import PyProof.Rows.Range3
import PyProof.CompUse
import KE.LcSums
import PyProof.ListRange
import PyProof.Rows.MinMaxN
import KE.KIntText
import PyProof.StrCalls2
import PyProof.StrBlockH
import PyProof.Rows.ZipForRows
import PyProof.Rows.SortRev
import KE.KRevSl
import KE.KMinKey
import PyProof.Rows.SetFrom
import PyProof.Rows.SeqMore2
import Lean
import PyProof.WalkInts
import KE.KLam
import KE.KNest
import PyProof.Rows.SortRuns
import KE.KSortKey
import PyProof.Conv_int_bool
import KE.KListMore
import PyProof.DictWalks
import KE.KSortTup
import KE.KDictList
import KE.KRevIter
import PyProof.SetKind
import PyProof.SetScanFacts
import PyProof.DictUpdate
import PySem.Challenge.RW_nearenough_k57_whole_points_as_sets
noncomputable section
open Array renaming length_toList→zbi3
open PySem.F renaming slot_dict_update→zbg0,plainAttrs_list→zbg4,slot_list_index→zbg5
open Int renaming toNat_natCast→zay9,toNat_of_nonneg→zba2,mul_le_mul_of_nonneg_right→zbd7,fmod_eq_emod_of_nonneg→zbe9,natCast_mul→zbf1,le_refl→zbm0
open Nat renaming lt_of_lt_of_le→zaw1,le_refl→zaw9,le_trans→zax3,ne_of_lt→zax4,lt_of_le_of_lt→zaz4,lt_succ_self→zaz6,lt_irrefl→zaz8,lt_succ_of_lt→zbb2,mul_assoc→zbb9,mul_comm→zbc5,pow_le_pow_right→zbc6,ne_of_gt→zbd1,gcd→zbd5,add_mul→zbe0,lt_trans→zbe1,mul_le_mul_right→zbe3,min_le_left→zbf0,lt_or_eq_of_le→zbf4,mul_right_comm→zbf5,le_of_lt→zbf6,zero_add→zbf8,gcd_pos_of_pos_right→zbg2,le_mul_of_pos_left→zbh5,div_mul_cancel→zbi8,succ_pos→zbk1,zero_le→zbl4,le_succ→zbl7
open PySem renaming Shared→zaw0,wpAny_bind→zaw3,starEach→zaw7,wpAny_pure→zax9,backTo→zbd6
open PySem.Heap renaming get?_push_of_some→zav8,lt_size→zaw5,get?_push_size→zaz9,size_push→zbc8,get?_update_other→zbg9
open Bool renaming and_eq_true→zav3,false_ne_true→zaw4,eq_iff_iff→zba6,or_true→zbd2,or_eq_true→zbe8,false_eq_true→zbf3,and_false→zbi5,false_or→zbi9,and_true→zbj0
open Option renaming bind_some→zav0,map_some→zay6,getD_some→zbh1,isSome_some→zbi6
open PySem.W renaming Frag→zau7,mg_none_of→zay4,keepIn→zaz0,fnOf→zaz5,kia_one→zba7,nsIn→zbb1,findIn→zbc7,codeIn→zbf7,methodObj→zbg3,cellsFrom_some→zbg8,instObj→zbh7,lookIn→zbi4,hasDictIn→zbj1,specialIn→zbj2,kitx_dict→zbj4,plainGet→zbj6,OpenLaw→zbk5,CodeHd→zbn1,WalkO→zbo0,tabIn→zbo2
open List renaming mem_append_right→zau6,mem_cons_of_mem→zau8,mem_append_left→zau9,mem_cons_self→zav1,mem_append→zav2,getElem?_eq_getElem→zav4,mem_cons→zav5,map_cons→zav6,replicate→zav7,getD_eq_getElem?_getD→zav9,nodup_append→zaw2,length_map→zaw6,nodup_cons→zaw8,mem_singleton→zax0,size_toArray→zax1,length_append→zax2,lookup_cons→zax5,nodup_nil→zax6,length_cons→zax7,mem_map→zax8,range→zay0,getElem?_map→zay1,length_filter_le→zay2,drop_eq_getElem_cons→zay3,mem_filter→zay5,replicate_succ→zay7,length_singleton→zay8,getElem?_append_right→zaz1,zipWith_cons_cons→zaz2,getElem?_append_left→zaz3,getElem?_replicate→zaz7,all_cons→zba0,any_cons→zba1,sum_cons→zba3,filter_eq_self→zba4,filter_eq_nil_iff→zba5,length_replicate→zba8,getElem?_eq_some_iff→zba9,zip_cons_cons→zbb0,length_eq_zero_iff→zbb3,filter_cons_of_pos→zbb4,filter_cons_of_neg→zbb5,drop_length→zbb6,length_pos_of_mem→zbb7,getElem_mem→zbb8,pairwise_cons→zbc0,find?_cons→zbc1,length_zip→zbc2,map_append→zbc3,flatten_cons→zbc4,map_congr_left→zbc9,getElem?_cons_succ→zbd0,map_map→zbd3,append_nil→zbd4,getElem?_eq_none→zbd8,mem_range→zbd9,all_eq_true→zbe2,filterMap_cons→zbe4,getElem?_range→zbe5,map_eq_nil_iff→zbe6,foldl_cons→zbe7,mem_filterMap→zbf2,zipWith→zbf9,length_erase_of_mem→zbg1,getElem?_cons_zero→zbg6,getElem?_set_self→zbg7,filter_cons→zbh0,any_eq_true→zbh2,find?_cons_of_pos→zbh3,find?_cons_of_neg→zbh4,range_succ_eq_map→zbh6,of_mem_zip→zbh8,getElem?_set_ne→zbh9,mem_of_getElem?→zbi0,mem_erase_of_ne→zbi1,mem_iff_getElem→zbi2,getElem_idxOf→zbi7,append_assoc→zbj3,map_nil→zbj7,map_fst_zip→zbj9,map_snd_zip→zbk0,foldl→zbn5
open PySem PyProof.Rows
set_option Elab.async false
set_option linter.all false
set_option maxRecDepth 100000
namespace L2
open PySem.Spec
abbrev Key:=Sum Int Str
def zak5:Key→Value→Bool
 |.inl k,v=>Value.isInt k v
 |.inr x,v=>Value.isStrOf x v
def keyH (w:World):Key→Int
 |.inl k=>hashInt k
 |.inr x=>hashStr w x
theorem ze2:∀ {k:Key}{v:Value},zak5 k v=true→(∃i t,k=Sum.inl i∧v=Value.int i t)∨(∃x t,k=Sum.inr x∧v=Value.str x t)
 |.inl i,v,h=>by
  obtain⟨t,e⟩:=Value.isInt_shape (k:=i) (v:=v) h
  exact .inl ⟨i,t,rfl,e⟩
 |.inr x,v,h=>by
  obtain⟨t,e⟩:=Value.isStrOf_shape (x:=x) (v:=v) h
  exact .inr ⟨x,t,rfl,e⟩
theorem zap8 (i:Int) (t:Tok):zak5 (.inl i) (.int i t)=true:=by simp [zak5,Value.isInt]
theorem zap7 (x:Str) (t:Tok):zak5 (.inr x) (.str x t)=true:=by simp [zak5,Value.isStrOf]
theorem key_ll (a b:Int):decide ((Sum.inl a:Key)=Sum.inl b)=(a == b):=by
 by_cases e:a=b
 ·subst e;simp
 ·have h : ¬ (Sum.inl a:Key)=Sum.inl b:=fun q=>e (Sum.inl.inj q)
  rw [decide_eq_false h]
  exact (beq_eq_false_iff_ne.mpr e).symm
theorem key_rr (a b:Str):decide ((Sum.inr a:Key)=Sum.inr b)=decide (a=b):=by
 by_cases e:a=b
 ·subst e;simp
 ·have h : ¬ (Sum.inr a:Key)=Sum.inr b:=fun q=>e (Sum.inr.inj q)
  rw [decide_eq_false h,decide_eq_false e]
theorem key_lr (a:Int) (b:Str):decide ((Sum.inl a:Key)=Sum.inr b)=false:=decide_eq_false (fun q=>nomatch q)
theorem key_rl (a:Str) (b:Int):decide ((Sum.inr a:Key)=Sum.inl b)=false:=decide_eq_false (fun q=>nomatch q)
noncomputable def zf8 (prog:Program) (w:World):PySem.KeyKind prog w Key where
 is:=zak5
 hash:=keyH w
 inj:=fun v a b ha hb=>by
  rcases ze2 ha with ⟨i,t,rfl,rfl⟩ | ⟨x,t,rfl,rfl⟩
  ·rcases ze2 hb with ⟨j,u,rfl,e⟩ | ⟨y,u,rfl,e⟩
   ·injection e with e1 _;rw [e1]
   ·exact nomatch e
  ·rcases ze2 hb with ⟨j,u,rfl,e⟩ | ⟨y,u,rfl,e⟩
   ·exact nomatch e
   ·injection e with e1 _;rw [e1]
 byValue:=fun k v h=>by
  rcases ze2 h with ⟨i,t,rfl,rfl⟩ | ⟨x,t,rfl,rfl⟩<;>rfl
 pyHash:=fun hv h=>by
  rcases ze2 hv with ⟨i,t,rfl,rfl⟩ | ⟨x,t,rfl,rfl⟩
  ·exact wpAny_pyHash_int h
  ·exact wpAny_pyHash_str h
 eqBool:=fun hu hv h=>by
  rcases ze2 hu with ⟨i,t,rfl,rfl⟩ | ⟨x,t,rfl,rfl⟩
  ·rcases ze2 hv with ⟨j,u,rfl,rfl⟩ | ⟨y,u,rfl,rfl⟩
   ·rw [key_ll]at h;exact wpAny_eqBool_int h
   ·rw [key_lr]at h;exact SeqAt.EqAt.int_str i t y u _ _ _ _ h
  ·rcases ze2 hv with ⟨j,u,rfl,rfl⟩ | ⟨y,u,rfl,rfl⟩
   ·rw [key_rl]at h;exact SeqAt.EqAt.str_int x t j u _ _ _ _ h
   ·rw [key_rr]at h;exact wpAny_eqBool_str h
 «strs»:=fun k x t v h=>by
  rcases ze2 h with ⟨i,u,rfl,e⟩ | ⟨y,u,rfl,e⟩
  ·exact nomatch e
  ·injection e with e1 _
   subst e1
   cases v<;>rfl
theorem zae8 (prog:Program) (w:World) (i:Int) (t:Tok):(zf8 prog w).is (.inl i) (.int i t)=true:=zap8 i t
theorem zae7 (prog:Program) (w:World) (x:Str) (t:Tok):(zf8 prog w).is (.inr x) (.str x t)=true:=zap7 x t
inductive V where
 |non | bl (b:Bool) |int (i:Int) |str (x:Str) |byt (b:Array UInt8) |flt (b:UInt64) |ref (a:Addr) |ty (n:String)
 deriving DecidableEq
noncomputable def RelV:V→Value→Prop
 |.non,u=>u=Value.none
 |.bl b,u=>u=Value.bool b
 |.int i,u => ∃t,u=Value.int i t
 |.str x,u => ∃t,u=Value.str x t
 |.byt b,u => ∃t,u=Value.bytes b t
 |.flt b,u => ∃t,u=Value.float b t
 |.ref a,u=>u=Value.ref a
 |.ty n,u=>u=Value.type n
abbrev Vals:List V→List Value→Prop:=Paired RelV
theorem Vals.length {xs:List V}{us:List Value} (r:Vals xs us):xs.length=us.length:=Paired.length r
theorem Vals.get:∀ {xs:List V}{us:List Value}{i:Nat}{x:V},Vals xs us→xs[i]?=some x→∃u,us[i]?=some u∧RelV x u
 |_,_,_,_,.nil,e=>by simp at e
 |_,_,0,_,.cons r _,e=>by simp at e;subst e;exact⟨_,rfl,r⟩
 |_,_,i+1,x,.cons _ t,e=>by
  obtain⟨u,h1,h2⟩:=Vals.get (i:=i) (x:=x) t (by simpa using e)
  exact⟨u,by simpa using h1,h2⟩
theorem Vals.set {x:V}{u:Value} (r:RelV x u):∀ {xs:List V}{us:List Value} (i:Nat),Vals xs us→Vals (xs.set i x) (us.set i u)
 |_,_,_,.nil=>.nil
 |_,_,0,.cons _ t=>.cons r t
 |_,_,i+1,.cons q t=>.cons q (Vals.set r i t)
theorem Vals.append:∀ {xs ys:List V}{us ws:List Value},Vals xs us→Vals ys ws→Vals (xs++ys) (us++ws)
 |_,_,_,_,.nil,s=>s
 |_,_,_,_,.cons r t,s=>.cons r (Vals.append t s)
theorem Vals.drop:∀ {xs:List V}{us:List Value} (n:Nat),Vals xs us→Vals (xs.drop n) (us.drop n)
 |_,_,0,r=>r
 |_,_,_+1,.nil=>.nil
 |_,_,n+1,.cons _ t=>Vals.drop n t
def RelO:Option V→Option Value→Prop
 |some v,some u=>RelV v u
 |none,none=>True
 |_,_=>False
def KV {κ:Type}:List (κ×V)→List (κ×Value)→Prop:=Paired fun (p:κ×V) (q:κ×Value)=>p.1=q.1∧RelV p.2 q.2
def kV:Key→V
 |.inl i=>.int i
 |.inr x=>.str x
inductive HO where
 /-- a list -/
 |lst (xs:List V)
 /-- a tuple (never changes) -/
 |tup (xs:List V)
 /-- a dict whose keys are ints and texts;one whose keys are tuples of ints and texts (the empty one is both) -/
 |dK (kvs:List (Key×V)) |dT (kvs:List (List Key×V))
 /-- a set of ints: its members,its size -/
 |set (S:Int→Bool) (n:Nat)
 /-- an instance of the class at C,its dict at dx,its attributes -/
 |ins (C dx:Addr) (fs:List (Str×V))
 /-- the dict of the instance at x -/
 |own (x:Addr)
 /-- the dict of an exception -/
 |xd (fs:List (Str×V))
 /-- a bound method,f of x -/
 |met (f x:Addr)
 /-- a range object lo,lo+1,.. below hi -/
 |rng (lo hi:Int)
 /-- a thing that is known to the object (the script;a dict while a loop walks it): read,never written while it is so -/
 |frz (o:Obj) (u:HO)
 /-- a code object's table -/
 |tbl (q:Str)
 /-- any other thing,by what is true of its one object (a def of one's own: SetO a S n:=HO.ext fun h=>..) -/
 |ext (φ:Heap→Prop)
abbrev Hp:=Addr→Option HO
def upd (H:Hp) (a:Addr) (o:HO):Hp:=fun b=>if b=a then some o else H b
theorem zb4 {H:Hp}{a:Addr}{o:HO}:upd H a o a=some o:=by unfold upd;rw [if_pos rfl]
theorem zb9 {H:Hp}{a b:Addr}{o:HO} (h:b≠a):upd H a o b=H b:=by unfold upd;rw [if_neg h]
theorem zh9 {H:Hp}{a b:Addr}{o:HO} (h:H a=some o) (h':H b=none):a≠b:=by
 intro e;subst e;rw [h]at h';cases h'
section
variable (P:Program) (w:World)
noncomputable def ObjOk (H:Hp) (h:Heap) (a:Addr):HO→Prop
 |.lst xs=>xs.length≤sizeLine∧∃(its:List Value) (n:Nat),Vals xs its∧h.get? a=some { cls:=.type "list",data:=.seq its.toArray n }
 |.tup xs=>xs.length≤sizeLine∧∃its:List Value,Vals xs its∧IsTup h a its.toArray
 |.dK kvs=>kvs.length≤sizeLine∧(a == sysModules)=false∧∃vs,KV kvs vs∧h.DictOf (zf8 P w) a vs
 |.dT kvs=>kvs.length≤sizeLine∧(a == sysModules)=false∧∃xs:List (List Key×Addr×Value),
   Paired (fun (p:List Key×V) (q:List Key×Addr×Value)=>p.1=q.1∧H q.2.1=some (.tup (p.1.map kV))∧RelV p.2 q.2.2) kvs xs ∧
   ∃o es ep,h.get? a=some o∧o.ExactDict∧o.data=.dict es ep∧es.toList=xs.map (entryOfKey (tupleKind (zf8 P w)))∧(xs.map (·.1)).Nodup
 |.set S n=>h.SetOf (intKind P w) a S n
 |.ins C dx fs=>H dx=some (.own a)∧fs.length≤1000∧dx≠a∧h.get? a=some (zbh7 C dx) ∧
   ∃mA,h.Ns1 dx mA∧(∀f,RelO (fs.lookup f) (mA f))∧PySem.Within mA (fs.map (·.1))
 |.own _ => ∃o,h.get? a=some o
 |.xd fs => ∃mA,h.Ns1 a mA∧∀f,RelO (fs.lookup f) (mA f)
 |.rng lo hi => ∃t u v,h.get? a=some { cls:=.type "range",data:=.fields #[.int lo t,.int hi u,.int 1 v] }
 |.frz o u=>h.get? a=some o∧ObjOk H h a u
 |.tbl q => ∃ps:Array Value,h.get? a=some { cls:=.none,data:=.fields ps }∧TriplesOk ps.toList∧∀pos cv,codeAmong pos ps.toList=some cv→∃(c:Addr) (oc:Obj) (vs:Array Value) (tk:Tok),cv=.ref c∧H c=some (.frz oc (.own 0))∧oc.data=.fields vs∧vs[1]?=some (.str q tk)
 |.met f x=>h.get? a=some (zbg3 (.ref f) (.ref x))
 |.ext φ=>φ h∧(∃o,h.get? a=some o)∧∀h1 h2:Heap,φ h1→(∀o,h1.get? a=some o→h2.get? a=some o)→φ h2
def HOk (H:Hp) (h:Heap):Prop := ∀a o,H a=some o→ObjOk P w H h a o
end
section
variable {P:Program}{w:World}{H H':Hp}{h h':Heap}{a:Addr}{o:HO}
theorem ObjOk.lt (x:ObjOk P w H h a o):a<h.objs.size:=by
 cases o with
 |lst xs=>obtain⟨_,_,_,_,e⟩:=x;exact zaw5 e
 |tup xs=>obtain⟨_,_,_,p⟩:=x;exact p.lt
 |dK kvs=>obtain⟨_,_,_,_,o,_,_,e,_⟩:=x;exact zaw5 e
 |dT kvs=>obtain⟨_,_,_,_,o,_,_,e,_⟩:=x;exact zaw5 e
 |set S n=>obtain⟨o,_,_,_,e,_⟩:=x;exact zaw5 e
 |ins C dx fs=>obtain⟨_,_,_,e,_⟩:=x;exact zaw5 e
 |own y=>obtain⟨_,e⟩:=x;exact zaw5 e
 |xd fs=>obtain⟨_,⟨_,_,_,e,_⟩,_⟩:=x;exact zaw5 e
 |rng lo hi=>obtain⟨_,_,_,e⟩:=x;exact zaw5 e
 |frz ob u=>obtain⟨e,_⟩:=x;exact zaw5 e
 |tbl q=>obtain⟨_,e,_⟩:=x;exact zaw5 e
 |met f y=>exact zaw5 (show h.get? a=some _ from x)
 |ext φ=>obtain⟨_,⟨_,e⟩,_⟩:=x;exact zaw5 e
theorem Paired.mapP {α β:Type}{F G:α→β→Prop}:∀ {l₁:List α}{l₂:List β},Paired F l₁ l₂→(∀a b,F a b→G a b)→Paired G l₁ l₂
 |_,_,.nil,_=>.nil
 |_,_,.cons r t,f=>.cons (f _ _ r) (Paired.mapP t f)
theorem ObjOk.stay (x:ObjOk P w H h a o) (k:∀b u,(b=a∨H b=some (.own a))→h.get? b=some u→h'.get? b=some u)
  (ho:∀b,H b=some (.own a)→H' b=some (.own a)) (ht:∀b xs,H b=some (.tup xs)→H' b=some (.tup xs)) (hz:∀b o u,H b=some (.frz o u)→H' b=some (.frz o u)):ObjOk P w H' h' a o:=by
 induction o with
 |lst xs=>obtain⟨z,its,n,r,e⟩:=x;exact⟨z,its,n,r,k _ _ (.inl rfl) e⟩
 |tup xs=>obtain⟨z,its,r,ob,e,c⟩:=x;exact⟨z,its,r,ob,k _ _ (.inl rfl) e,c⟩
 |dK kvs=>obtain⟨z,y,vs,r,ob,es,ep,e,c⟩:=x;exact⟨z,y,vs,r,ob,es,ep,k _ _ (.inl rfl) e,c⟩
 |dT kvs =>
  obtain⟨z,y,xs,r,ob,es,ep,e,c⟩:=x
  exact⟨z,y,xs,Paired.mapP r fun p q z=>⟨z.1,ht _ _ z.2.1,z.2.2⟩,ob,es,ep,k _ _ (.inl rfl) e,c⟩
 |set S n=>obtain⟨ob,es,ep,t,e,c⟩:=x;exact⟨ob,es,ep,t,k _ _ (.inl rfl) e,c⟩
 |ins C dx fs =>
  obtain⟨d,z,ne,e,mA,⟨od,es,ep,e2,c⟩,r⟩:=x
  exact⟨ho _ d,z,ne,k _ _ (.inl rfl) e,mA,⟨od,es,ep,k _ _ (.inr d) e2,c⟩,r⟩
 |own y=>obtain⟨ob,e⟩:=x;exact⟨ob,k _ _ (.inl rfl) e⟩
 |xd fs=>obtain⟨mA,⟨od,es,ep,e,c⟩,r⟩:=x;exact⟨mA,⟨od,es,ep,k _ _ (.inl rfl) e,c⟩,r⟩
 |rng lo hi=>obtain⟨t,u,v,e⟩:=x;exact⟨t,u,v,k _ _ (.inl rfl) e⟩
 |frz ob u ih=>obtain⟨e,q⟩:=x;exact⟨k _ _ (.inl rfl) e,ih q⟩
 |tbl q=>obtain⟨ps,e,t,r⟩:=x;exact⟨ps,k _ _ (.inl rfl) e,t,fun pos cv z=>let ⟨c,oc,vs,tk,a1,a2,a3⟩:=r pos cv z;⟨c,oc,vs,tk,a1,hz _ _ _ a2,a3⟩⟩
 |met f y =>
  have e:h.get? a=some (zbg3 (.ref f) (.ref y)):=x
  show h'.get? a=some (zbg3 (.ref f) (.ref y))
  exact k a _ (.inl rfl) e
 |ext φ=>obtain⟨p,⟨o,e⟩,st⟩:=x;exact⟨st _ _ p fun o q=>k _ _ (.inl rfl) q,⟨o,k _ _ (.inl rfl) e⟩,st⟩
theorem HOk.lt (x:HOk P w H h) (e:H a=some o):a<h.objs.size:=(x a o e).lt
theorem HOk.fresh (x:HOk P w H h) (e:h.objs.size≤a):H a=none:=by
 cases q:H a with
 |none=>rfl
 |some u=>exact absurd (zaw1 (x.lt q) e) (zaz8 _)
theorem HOk.kept (x:HOk P w H h) (k:∀b u,h.get? b=some u→h'.get? b=some u):HOk P w H h':=fun a o e =>
 (x a o e).stay (fun b u _ q=>k b u q) (fun _ q=>q) (fun _ _ q=>q) fun _ _ _ q=>q
theorem HOk.laid (x:HOk P w H h) (k:∀b u,h.get? b=some u→h'.get? b=some u) (hp:h.objs.size≤a) (new:ObjOk P w (upd H a o) h' a o):HOk P w (upd H a o) h':=fun b u e=>by
 have hn:=x.fresh hp
 by_cases hb:b=a
 ·subst hb;rw [zb4]at e;cases e;exact new
 ·rw [zb9 hb]at e
  exact (x b u e).stay (fun c v _ q=>k c v q) (fun c q=>by rw [zb9 (zh9 q hn)];exact q) (fun c xs q=>by rw [zb9 (zh9 q hn)];exact q) fun c o u q=>by rw [zb9 (zh9 q hn)];exact q
end
def Rd (H:Hp) (a:Addr) (u:HO):Prop:=H a=some u∨∃o,H a=some (.frz o u)
theorem Rd.ok {P:Program}{w:World}{H:Hp}{h:Heap}{a:Addr}{u:HO} (r:Rd H a u) (x:HOk P w H h):ObjOk P w H h a u:=by
 rcases r with r | ⟨o,r⟩
 ·exact x a u r
 ·obtain⟨_,q⟩:=x a _ r
  exact q
noncomputable def Mut:Option HO→Prop
 |some (.lst _)=>True
 |some (.dK _)=>True
 |some (.dT _)=>True
 |some (.set _ _)=>True
 |some (.ins _ _ _)=>True
 |some (.ext _)=>True
 |_=>False
section
variable {P:Program}{w:World}{H:Hp}{h h':Heap}{x e:Addr}{o':HO}
theorem HOk.write (ok:HOk P w H h) (mu:Mut (H x)) (he:e=x∨H e=some (.own x)) (k:∀b u,b≠e→h.get? b=some u→h'.get? b=some u) (heo:∃u,h'.get? e=some u)
  (new:ObjOk P w (upd H x o') h' x o'):HOk P w (upd H x o') h':=fun b u q=>by
 have nown:∀c y,H c=some (.own y)→c≠x:=fun c y r z=>by subst z;rw [r]at mu;exact mu
 have ntup:∀c xs,H c=some (.tup xs)→c≠x:=fun c xs r z=>by subst z;rw [r]at mu;exact mu
 by_cases hb:b=x
 ·subst hb;rw [zb4]at q;cases q;exact new
 ·rw [zb9 hb]at q
  by_cases hbe:b=e
  ·have q':H b=some (.own x):=by
    rcases he with z | z
    ·exact absurd (hbe.trans z) hb
    ·rw [hbe];exact z
   rw [q]at q';cases q'
   obtain⟨v,hv⟩:=heo
   exact⟨v,by rw [hbe];exact hv⟩
  ·refine (ok b u q).stay (fun c v hc r=>k c v ?_ r) (fun c r=>by rw [zb9 (nown c b r)];exact r) (fun c xs r=>by rw [zb9 (ntup c xs r)];exact r) fun c o u r=>by rw [zb9 (fun z=>by subst z;rw [r]at mu;exact mu)];exact r
   rcases hc with rfl | hc
   ·exact hbe
   ·rintro rfl
    rcases he with z | z
    ·exact nown c b hc z
    ·rw [hc]at z;cases z;exact hb rfl
end
structure Un (fs ex:List Addr) (H H':Hp) (h h':Heap):Prop where
 keep:∀b o,h.get? b=some o→H b=none→b∉fs→b∉ex→h'.get? b=some o
 slot:∀b o,h.get? b=some o→H b=none→b∈fs→b∉ex→∃sl,h'.get? b=some { o with slots:=sl }
 free:∀b o,h.get? b=some o→H b=none→b∉ex→H' b=none
 there:∀b o,h.get? b=some o→b∉ex→∃o',h'.get? b=some o'
 tups:∀b xs,H b=some (.tup xs)→H' b=some (.tup xs)
 frzs:∀b o u,H b=some (.frz o u)→H' b=some (.frz o u)
 tbls:∀b q,H b=some (.tbl q)→H' b=some (.tbl q)
section
variable {fs fs' ex ex':List Addr}{H H1 H2:Hp}{h h1 h2 h':Heap}{a x e:Addr}{o:HO}
theorem Un.any (u:Un fs ex H H1 h h1) {b:Addr}{ob:Obj} (q:h.get? b=some ob) (n:H b=none) (hx:b∉ex):∃sl,h1.get? b=some { ob with slots:=sl }:=by
 by_cases hb:b∈fs
 ·exact u.slot b ob q n hb hx
 ·exact⟨ob.slots,u.keep b ob q n hb hx⟩
theorem Un.trans (a:Un fs ex H H1 h h1) (b:Un fs ex H1 H2 h1 h2):Un fs ex H H2 h h2 where
 keep:=fun c ob q n hc hx=>b.keep c ob (a.keep c ob q n hc hx) (a.free c ob q n hx) hc hx
 slot:=fun c ob q n hc hx=>by
  obtain⟨sl,e1⟩:=a.slot c ob q n hc hx
  obtain⟨sl',e2⟩:=b.slot c _ e1 (a.free c ob q n hx) hc hx
  exact⟨sl',e2⟩
 free:=fun c ob q n hx=>by
  obtain⟨o',e1⟩:=a.there c ob q hx
  exact b.free c o' e1 (a.free c ob q n hx) hx
 there:=fun c ob q hx=>by
  obtain⟨o',e1⟩:=a.there c ob q hx
  exact b.there c o' e1 hx
 tups:=fun c xs q=>b.tups c xs (a.tups c xs q)
 frzs:=fun c ob xs q=>b.frzs c ob xs (a.frzs c ob xs q)
 tbls:=fun c q e=>b.tbls c q (a.tbls c q e)
theorem Un.kept (k:∀b u,h.get? b=some u→h'.get? b=some u):Un fs ex H H h h' :=
 ⟨fun b ob q _ _ _=>k b ob q,fun b ob q _ _ _=>⟨ob.slots,k b ob q⟩,fun _ _ _ n _=>n,fun b ob q _=>⟨ob,k b ob q⟩,fun _ _ q=>q,fun _ _ _ q=>q,fun _ _ q=>q⟩
theorem Un.refl:Un fs ex H H h h:=Un.kept fun _ _ q=>q
theorem Un.laid (k:∀b u,h.get? b=some u→h'.get? b=some u) (hp:h.objs.size≤a) (hn:H a=none):Un fs ex H (upd H a o) h h' where
 keep:=fun b u q _ _ _=>k b u q
 slot:=fun b u q _ _ _=>⟨u.slots,k b u q⟩
 free:=fun b u q n _=>by rw [zb9 (zax4 (zaw1 (zaw5 q) hp))];exact n
 there:=fun b u q _=>⟨u,k b u q⟩
 tups:=fun b xs q=>by rw [zb9 (zh9 q hn)];exact q
 frzs:=fun b u xs q=>by rw [zb9 (zh9 q hn)];exact q
 tbls:=fun b ps q=>by rw [zb9 (zh9 q hn)];exact q
theorem Un.write (mu:Mut (H x)) (he:e=x∨H e=some (.own x)) (k:∀b u,b≠e→h.get? b=some u→h'.get? b=some u) (heo:∃u,h'.get? e=some u):Un fs ex H (upd H x o) h h':=by
 have hx:∀b,H b=none→b≠x:=fun b n z=>by subst z;rw [n]at mu;exact mu
 have hb:∀b,H b=none→b≠e:=fun b n z=>by
  subst z
  rcases he with r | r
  ·exact hx b n r
  ·rw [n]at r;cases r
 have hm:∀b u,H b=some u → ¬ Mut (some u)→b≠x:=fun b u q nm z=>by subst z;rw [q]at mu;exact nm mu
 refine⟨fun b u q n _ _=>k b u (hb b n) q,fun b u q n _ _=>⟨u.slots,k b u (hb b n) q⟩,fun b u q n _=>by rw [zb9 (hx b n)];exact n,fun b u q _=>?_,
  fun b xs q=>by rw [zb9 (hm b _ q fun z=>z)];exact q,fun b u xs q=>by rw [zb9 (hm b _ q fun z=>z)];exact q,fun b ps q=>by rw [zb9 (hm b _ q fun z=>z)];exact q⟩
 by_cases hbe:b=e
 ·subst hbe;exact heo
 ·exact⟨u,k b u hbe q⟩
end
def trk (h:Heap) (H:Hp):List Addr:=(zay0 h.objs.size).filter fun a=>(H a).isSome
def hidT (h:Heap) (H:Hp):Heap:=PySem.W.hideAll h (trk h H)
theorem zaq2 (h:Heap) (H:Hp):(hidT h H).objs.size=h.objs.size:=PySem.W.hideAll_size _ _
theorem zs3 {h:Heap}{H:Hp}{b:Addr}{o:Obj} (e:h.get? b=some o) (n:H b=none):(hidT h H).get? b=some o :=
 PySem.W.hideAll_get _ e fun hm=>by
  have q:(H b).isSome=true:=(zay5.mp hm).2
  rw [n]at q;simp at q
theorem of_hidT {h:Heap}{H:Hp}{b:Addr}{o:Obj} (e:(hidT h H).get? b=some o):h.get? b=some o∧H b=none:=by
 have e':h.get? b=some o:=PySem.W.of_hideAll (trk h H) e
 refine⟨e',?_⟩
 cases q:H b with
 |none=>rfl
 |some x =>
  have hm:b∈trk h H:=zay5.mpr ⟨zbd9.mpr (zaw5 e'),by simp [q]⟩
  have z:(hidT h H).get? b=none:=PySem.W.hideAll_none (trk h H) hm
  rw [z]at e;cases e
noncomputable def allNews (g h:Heap) (L:Addr):List (Addr×Obj):=(zay0 h.objs.size).filterMap fun a=>if a=L∨(g.get? a).isSome=true then none else (h.get? a).map fun o=>(a,o)
def rest (g h:Heap) (L d:Addr):List (Addr×Obj):=(allNews g h L).filter fun p=>decide (p.1≠d)
end L2
namespace L2
open PySem.Spec
structure BHeap extends Heap where
 tabs:List (Addr×Str)
instance:Coe BHeap Heap:=⟨BHeap.toHeap⟩
structure Mod (K:zau7) (mg:Str→Option Value) (base:BHeap):Prop where
 kin:K.In base
 glob:base.Ns mainGlobals mg
 blt:∃mb,base.Ns builtinsNs mb∧∀x:Str,x≠"__name__"→mb x=bootBuiltins x
 nolimit:base.NoLimit
 bm:∃(bm:Addr) (ob:Obj),mg "__builtins__"=some (.ref bm)∧bm≠builtinsNs∧base.get? bm=some ob∧ob.cls=.type "module"∧ob.dict=some builtinsNs∧ob.data=.plain
structure Cx where
 prog:Program
 w:World
 K:zau7
 mg:Str→Option Value
 base:BHeap
 A:Around
 N:List Str
 s₀:zaw0
 H₀:Hp
 env:Env
 outer:List Env
 stack:List Env
 ex:List Addr
 fn:Str→Bool
 calm:Bool
 pn:List (Addr×Obj)
 xe:Value→zaw0→Prop
def frs (l:List Env):List Addr:=l.filterMap (·.frame)
abbrev Cx.fs (X:Cx):List Addr:=frs X.outer
def Vis (sc:Scope) (x:Str):Prop:=sc.names.lookup x=some .local∨sc.names.lookup x=some .cell∨sc.names.lookup x=some .free
def Loc (sc:Scope) (x:Str):Prop:=sc.names.lookup x=some .local∨sc.names.lookup x=some .cell
noncomputable def Look (env:Env) (h:Heap) (m:Str→Option Value) (x:Str) (u:Value):Prop :=
 (env.kindOf x=some .local∧m x=some u)∨((env.kindOf x=some .cell∨env.kindOf x=some .free)∧∃c,env.cells.lookup x=some c∧h.IsCell c (some u))
structure Cx.Ok (X:Cx):Prop where
 mod:Mod X.K X.mg X.base
 kind:X.env.scope.kind=.function
 glob:X.env.globals=mainGlobals
 blt:X.env.builtins=builtinsNs
 above:X.s₀.heap.objs.size≤X.env.locals
 inj:∀x y c,X.env.cells.lookup x=some c→X.env.cells.lookup y=some c→x=y
 has:∀x,(X.env.kindOf x=some .cell∨X.env.kindOf x=some .free)→∃c,X.env.cells.lookup x=some c
 cab:∀x c,X.fn x=true→X.env.cells.lookup x=some c→X.s₀.heap.objs.size≤c
 hd:X.calm=true→X.A.handled=none
 frames:X.A.frames=some X.stack
 stk:X.stack=X.outer∨(X.stack=X.env::X.outer∧X.env.frame=some X.env.locals)
 exf:∀b∈X.ex,b≠X.env.locals∧∀x c,X.env.cells.lookup x=some c→c≠b
 bs:∀b o,X.base.get? b=some o→X.s₀.heap.get? b=some o∧X.H₀ b=none
 bsz:X.base.objs.size≤X.s₀.heap.objs.size
 noex:∀b o,X.base.get? b=some o→b∉X.ex
 exfs:∀b∈X.ex,b∉X.fs
 funs:X.s₀.heap.FunFrames X.base X.outer
 frf:∀b∈X.fs,X.H₀ b=none
 tabs:∀p∈X.base.tabs,X.H₀ p.1=some (.tbl p.2)
structure Inv (X:Cx) (pins:List (Addr×Obj)) (σ:List (Option V)) (H:Hp) (s:zaw0):Prop where
 ok:X.Ok
 os:s.os=X.s₀.os
 bare:AllBare s.gens
 base:Un X.fs X.ex X.H₀ H X.s₀.heap s.heap
 loc:∃m,s.heap.Ns X.env.locals m∧∀(i:Nat) (x:Str) (v:V),X.N[i]?=some x→σ[i]?=some (some v)→Vis X.env.scope x→∃u,RelV v u∧Look X.env s.heap m x u
 cell:∀x c,X.env.cells.lookup x=some c→∃v,s.heap.IsCell c v
 free:H X.env.locals=none
 freeC:∀x c,X.env.cells.lookup x=some c→H c=none
 pin:∀p∈X.pn++pins,s.heap.get? p.1=some p.2∧H p.1=none∧p.1≠X.env.locals∧p.1∉X.fs∧∀v,p.2.data≠.cell v
 hok:HOk X.prog X.w H s.heap
 len:σ.length=X.N.length
section
variable {X:Cx}{pins:List (Addr×Obj)}{σ:List (Option V)}{H H':Hp}{s:zaw0}{h':Heap}
theorem Cx.Ok.nofr (ok:X.Ok) {b:Addr}{o:Obj} (e:X.base.get? b=some o):b∉X.fs:=fun hb=>by
 have:=(ok.funs.mem hb).1
 rw [e]at this;cases this
theorem Inv.bs (I:Inv X pins σ H s):∀b o,X.base.get? b=some o→s.heap.get? b=some o∧H b=none:=fun b o e =>
 ⟨I.base.keep b o (I.ok.bs b o e).1 (I.ok.bs b o e).2 (I.ok.nofr e) (I.ok.noex b o e),I.base.free b o (I.ok.bs b o e).1 (I.ok.bs b o e).2 (I.ok.noex b o e)⟩
theorem Inv.bk (I:Inv X pins σ H s):∀b o,X.base.get? b=some o→s.heap.get? b=some o:=fun b o e=>(I.bs b o e).1
theorem Inv.mod (I:Inv X pins σ H s):Mod X.K X.mg X.base:=I.ok.mod
theorem Inv.kIn (I:Inv X pins σ H s):X.K.In s.heap:=I.ok.mod.kin.keeps I.bk
theorem Inv.lt (I:Inv X pins σ H s):X.env.locals<s.heap.objs.size:=let ⟨_,hn,_⟩:=I.loc;hn.lt
theorem Inv.sz (I:Inv X pins σ H s):X.s₀.heap.objs.size≤s.heap.objs.size:=zax3 I.ok.above (zbf6 I.lt)
theorem Inv.nofs (I:Inv X pins σ H s) {a:Addr} (h:s.heap.objs.size≤a):a∉X.fs:=fun hb=>by
 obtain⟨_,o,ho,_⟩:=I.ok.funs.mem hb
 exact absurd (zaw1 (zaw5 ho) (zax3 I.sz h)) (zaz8 _)
theorem Inv.cne (I:Inv X pins σ H s):∀x c,X.env.cells.lookup x=some c→c≠X.env.locals:=fun x c e z=>by
 obtain⟨v,o,ho,hd⟩:=I.cell x c e
 obtain⟨m,⟨o',es,ep,ho',hd',_⟩,_⟩:=I.loc
 rw [z,ho']at ho;cases ho;rw [hd']at hd;cases hd
theorem Inv.funs (I:Inv X pins σ H s):s.heap.FunFrames X.base X.outer:=by
 have all:∀(l:List Env),(∀b∈frs l,b∈X.fs)→X.s₀.heap.FunFrames X.base l→s.heap.FunFrames X.base l:=by
  intro l
  induction l with
  |nil=>intro _ _;trivial
  |cons env r ih =>
   intro hs hl
   obtain⟨hk,⟨L,o,hf,hn,ho,hd⟩,hr⟩:=hl
   have hL:L∈X.fs:=hs L (by unfold frs;rw [zbe4,hf];exact zav1)
   obtain⟨sl,e⟩:=I.base.slot L o ho (I.ok.frf L hL) hL fun z=>I.ok.exfs L z hL
   exact⟨hk,⟨L,_,hf,hn,e,hd⟩,ih (fun b hb=>hs b (by unfold frs;rw [zbe4,hf];exact zau8 _ hb)) hr⟩
 exact all X.outer (fun _ hb=>hb) I.ok.funs
theorem Inv.stack (I:Inv X pins σ H s):s.heap.FunFrames X.base X.stack:=by
 rcases I.ok.stk with e | ⟨e,hf⟩
 ·rw [e];exact I.funs
 ·rw [e]
  obtain⟨m,hn,_⟩:=I.loc
  refine .cons (by rw [I.ok.kind];decide) hf hn ?_ I.funs
  exact Heap.get?_none_of_le (zax3 I.ok.bsz I.ok.above)
theorem Inv.stkSub (I:Inv X pins σ H s):∀b∈frs X.stack,b∈X.env.locals::X.fs:=fun b hb=>by
 rcases I.ok.stk with e | ⟨e,hf⟩
 ·rw [e]at hb;exact zau8 _ hb
 ·rw [e]at hb
  unfold frs at hb
  rw [zbe4,hf]at hb
  exact hb
theorem Inv.stkFree (I:Inv X pins σ H s):∀b∈frs X.stack,H b=none:=fun b hb=>by
 rcases zav5.mp (I.stkSub b hb) with e | hb
 ·rw [e];exact I.free
 ·obtain⟨_,o,ho,_⟩:=I.ok.funs.mem hb
  exact I.base.free b o ho (I.ok.frf b hb) fun z=>I.ok.exfs b z hb
theorem Inv.step {g':Array GenState}{t':Nat}{d':Drawn}{ch:List Addr} (I:Inv X pins σ H s)
  (hch:∀b∈ch,(b∈X.ex∨X.s₀.heap.objs.size≤b)∧b≠X.env.locals∧(∀x c,X.env.cells.lookup x=some c→c≠b)∧∀p∈X.pn++pins,p.1≠b)
  (keep:∀b o,b≠X.env.locals→b∉X.fs→b∉ch→s.heap.get? b=some o→H b=none→h'.get? b=some o)
  (slot:∀b o,b≠X.env.locals→b∈X.fs→b∉ch→s.heap.get? b=some o→H b=none→∃sl,h'.get? b=some { o with slots:=sl }) (free:∀b o,b∉ch→s.heap.get? b=some o→H b=none→H' b=none)
  (there:∀b o,b∉ch→s.heap.get? b=some o→∃o',h'.get? b=some o')
  (tups:∀b xs,H b=some (.tup xs)→H' b=some (.tup xs)) (frzs:∀b o u,H b=some (.frz o u)→H' b=some (.frz o u)) (tbls:∀b q,H b=some (.tbl q)→H' b=some (.tbl q))
  (ns:∀m,s.heap.Ns X.env.locals m→h'.Ns X.env.locals m) (hok:HOk X.prog X.w H' h') (hg:AllBare g') :
  Inv X pins σ H' { s with heap:=h',gens:=g',drawn:=d',toks:=t' }:=by
 have neL:∀b o,X.s₀.heap.get? b=some o→b≠X.env.locals:=fun b o e=>zax4 (zaw1 (zaw5 e) I.ok.above)
 have neC:∀b o,X.s₀.heap.get? b=some o→b∉X.ex→b∉ch:=fun b o e hx hb=>by
  rcases (hch b hb).1 with z | z
  ·exact hx z
  ·exact absurd (zaw1 (zaw5 e) z) (zaz8 _)
 have cellK:∀x c,X.env.cells.lookup x=some c→∀v,s.heap.IsCell c v→h'.IsCell c v:=fun x c e v ⟨o,ho,hd⟩=>by
  have nch:c∉ch:=fun z=>(hch c z).2.2.1 x c e rfl
  by_cases hc:c∈X.fs
  ·obtain⟨sl,q⟩:=slot c o (I.cne x c e) hc nch ho (I.freeC x c e)
   exact⟨_,q,hd⟩
  ·exact⟨o,keep c o (I.cne x c e) hc nch ho (I.freeC x c e),hd⟩
 refine⟨I.ok,I.os,hg,⟨fun b o e n hb hx=>?_,fun b o e n hb hx=>?_,fun b o e n hx=>?_,fun b o e hx=>?_,fun b xs e=>tups b xs (I.base.tups b xs e),fun b o xs e=>frzs b o xs (I.base.frzs b o xs e),fun b ps e=>?_⟩,?_,fun x c e=>?_,?_,fun x c e=>?_,fun p hp=>?_,hok,I.len⟩
 ·exact keep b o (neL b o e) hb (neC b o e hx) (I.base.keep b o e n hb hx) (I.base.free b o e n hx)
 ·obtain⟨sl,e1⟩:=I.base.slot b o e n hb hx
  obtain⟨sl',e2⟩:=slot b _ (neL b o e) hb (neC b o e hx) e1 (I.base.free b o e n hx)
  exact⟨sl',e2⟩
 ·obtain⟨o',e1⟩:=I.base.there b o e hx
  exact free b o' (neC b o e hx) e1 (I.base.free b o e n hx)
 ·obtain⟨o',e1⟩:=I.base.there b o e hx
  exact there b o' (neC b o e hx) e1
 ·exact tbls b _ (I.base.tbls b ps e)
 ·obtain⟨m,hn,hl⟩:=I.loc
  refine⟨m,ns m hn,fun i x v e1 e2 e3=>?_⟩
  obtain⟨u,r,l⟩:=hl i x v e1 e2 e3
  refine⟨u,r,?_⟩
  rcases l with l | ⟨k,c,e,z⟩
  ·exact .inl l
  ·exact .inr ⟨k,c,e,cellK x c e _ z⟩
 ·obtain⟨v,z⟩:=I.cell x c e
  exact⟨v,cellK x c e v z⟩
 ·obtain⟨m,⟨o,_,_,ho,_⟩,_⟩:=I.loc
  exact free _ o (fun z=>(hch _ z).2.1 rfl) ho I.free
 ·obtain⟨v,o,ho,hd⟩:=I.cell x c e
  exact free c o (fun z=>(hch c z).2.2.1 x c e rfl) ho (I.freeC x c e)
 ·obtain⟨e,n,ne,nf,d⟩:=I.pin p hp
  have nch:p.1∉ch:=fun z=>(hch p.1 z).2.2.2 p hp rfl
  exact⟨keep p.1 p.2 ne nf nch e n,free p.1 p.2 nch e n,ne,nf,d⟩
theorem Inv.un {t':Nat} (I:Inv X pins σ H s) (u:Un X.fs [] H H' s.heap h') (hok:HOk X.prog X.w H' h'):Inv X pins σ H' { s with heap:=h',toks:=t' }:=by
 obtain⟨m,⟨o,es,ep,ho,r⟩,_⟩:=id I.loc
 obtain⟨sl,hL⟩:=u.any ho I.free (by simp)
 exact I.step (g':=s.gens) (d':=s.drawn) (ch:=[]) (fun _ z=>nomatch z) (fun b o _ hb _ e n=>u.keep b o e n hb (by simp)) (fun b o _ hb _ e n=>u.slot b o e n hb (by simp)) (fun b o _ e n=>u.free b o e n (by simp)) (fun b o _ e=>u.there b o e (by simp)) u.tups u.frzs u.tbls (fun m' hm=>by
  obtain⟨o',es',ep',ho',r'⟩:=hm
  rw [ho]at ho';cases ho'
  exact⟨_,es',ep',hL,r'⟩) hok I.bare
theorem Inv.call {g':Array GenState}{t':Nat}{d':Drawn}{ch:List Addr} (I:Inv X pins σ H s) (u:Un (frs X.stack) ch H H' s.heap h') (hok:HOk X.prog X.w H' h') (hg:AllBare g')
  (hch:∀b∈ch,(b∈X.ex∨X.s₀.heap.objs.size≤b)∧b≠X.env.locals∧(∀x c,X.env.cells.lookup x=some c→c≠b)∧∀p∈X.pn++pins,p.1≠b) :
  Inv X pins σ H' { s with heap:=h',gens:=g',drawn:=d',toks:=t' }:=by
 obtain⟨m,⟨o,es,ep,ho,r⟩,_⟩:=id I.loc
 obtain⟨sl,hL⟩:=u.any ho I.free fun z=>(hch _ z).2.1 rfl
 exact I.step (ch:=ch) hch (fun b o hL hb hc e n=>u.keep b o e n (fun z=>(zav5.mp (I.stkSub b z)).elim hL hb) hc) (fun b o _ _ hc e n=>u.any e n hc) (fun b o hc e n=>u.free b o e n hc) (fun b o hc e=>u.there b o e hc) u.tups u.frzs u.tbls (fun m' hm=>by
  obtain⟨o',es',ep',ho',r'⟩:=hm
  rw [ho]at ho';cases ho'
  exact⟨_,es',ep',hL,r'⟩) hok hg
theorem Inv.turned {t':Nat}{it:Addr} (I:Inv X pins σ H s) (k:∀b o,b≠it→s.heap.get? b=some o→h'.get? b=some o) (hn:H it=none) (hL:it≠X.env.locals)
  (h1:it∈X.ex∨X.s₀.heap.objs.size≤it) (h2:∀x c,X.env.cells.lookup x=some c→c≠it) (h3:∀p∈X.pn++pins,p.1≠it):Inv X pins σ H { s with heap:=h',toks:=t' }:=by
 have nit:∀b u,H b=some u→b≠it:=fun b u e z=>by rw [z,hn]at e;cases e
 refine I.step (g':=s.gens) (d':=s.drawn) (ch:=[it]) (fun b hb=>?_) (fun b o _ _ hc e _=>k b o (fun z=>hc (by simp [z])) e) (fun b o _ _ hc e _=>⟨o.slots,k b o (fun z=>hc (by simp [z])) e⟩) (fun _ _ _ _ n=>n)
  (fun b o hc e=>⟨o,k b o (fun z=>hc (by simp [z])) e⟩) (fun _ _ e=>e) (fun _ _ _ e=>e) (fun _ _ e=>e) (fun m hm=>?_) (fun b u e=>?_) I.bare
 ·have e:b=it:=by simpa using hb
  subst e
  exact⟨h1,hL,h2,h3⟩
 ·obtain⟨o,es,ep,ho,r⟩:=hm
  exact⟨o,es,ep,k _ o (Ne.symm hL) ho,r⟩
 ·refine (I.hok b u e).stay (fun c v hc q=>k c v ?_ q) (fun _ q=>q) (fun _ _ q=>q) fun _ _ _ q=>q
  rcases hc with z | z
  ·rw [z];exact nit b u e
  ·exact nit c _ z
theorem Inv.tok (I:Inv X pins σ H s) (t:Nat):Inv X pins σ H { s with toks:=t }:=I.un (h':=s.heap) (t':=t) Un.refl I.hok
theorem Inv.kept {t':Nat} (I:Inv X pins σ H s) (k:∀b u,s.heap.get? b=some u→h'.get? b=some u):Inv X pins σ H { s with heap:=h',toks:=t' }:=I.un (Un.kept k) (I.hok.kept k)
theorem Inv.laid {a:Addr}{o:HO}{t':Nat} (I:Inv X pins σ H s) (k:∀b u,s.heap.get? b=some u→h'.get? b=some u) (hp:s.heap.objs.size≤a) (new:ObjOk X.prog X.w (upd H a o) h' a o) :
  Inv X pins σ (upd H a o) { s with heap:=h',toks:=t' }:=I.un (Un.laid k hp (I.hok.fresh hp)) (I.hok.laid k hp new)
theorem Inv.write {x e:Addr}{o:HO}{t':Nat} (I:Inv X pins σ H s) (mu:Mut (H x)) (he:e=x∨H e=some (.own x)) (k:∀b u,b≠e→s.heap.get? b=some u→h'.get? b=some u) (heo:∃u,h'.get? e=some u)
  (new:ObjOk X.prog X.w (upd H x o) h' x o):Inv X pins σ (upd H x o) { s with heap:=h',toks:=t' }:=I.un (Un.write mu he k heo) (I.hok.write mu he k heo new)
theorem Inv.pins_of {pins':List (Addr×Obj)} (I:Inv X pins σ H s) (h:∀p∈pins',s.heap.get? p.1=some p.2∧H p.1=none∧p.1≠X.env.locals∧p.1∉X.fs∧∀v,p.2.data≠.cell v):Inv X pins' σ H s :=
 ⟨I.ok,I.os,I.bare,I.base,I.loc,I.cell,I.free,I.freeC,fun p hp=>(zav2.mp hp).elim (fun z=>I.pin p (zau9 _ z)) (h p),I.hok,I.len⟩
theorem zah6 {N:List Str} (hN:N.Nodup) {i j:Nat}{x:Str} (a:N[i]?=some x) (b:N[j]?=some x):i=j:=by
 obtain⟨h1,e1⟩:=zba9.mp a
 obtain⟨h2,e2⟩:=zba9.mp b
 exact (List.getElem_inj hN).mp (e1.trans e2.symm)
theorem zz4 {M:Model}{A:Around}{E:Value→zaw0→Prop}{i:Nat}{x:Str}{v:V}{u:Value}{Q:Unit→zaw0→Prop} (I:Inv X pins σ H s) (hN:X.N.Nodup) (hi:X.N[i]?=some x) (hx:Loc X.env.scope x) (r:RelV v u)
  (h:∀s',Inv X pins (σ.set i (some v)) H s'→(∃a,Heap.SameBut a s.heap s'.heap∧(a=X.env.locals∨X.env.cells.lookup x=some a))→Q () s') (hf:X.fn x=true∨X.env.scope.names.lookup x=some .local:=by first | exact .inl rfl | exact .inr rfl | assumption):wpAny M A (storeName X.env x u) Q E s:=by
 obtain⟨m,hn,hl⟩:=id I.loc
 have hcls:(X.env.scope.kind == .class||(X.env.scope.kind == .module&&X.env.locals != X.env.globals))=false:=by rw [I.ok.kind];rfl
 have hiσ:i<σ.length:=by rw [I.len];exact (zba9.mp hi).1
 have cne:=I.cne
 have tracked:∀ {a:Addr}{h':Heap},(∃o,s.heap.get? a=some o∧H a=none)→Heap.SameBut a s.heap h'→HOk X.prog X.w H h':=fun {a h'} ha hs b ob e=>by
  obtain⟨_,_,hfree⟩:=ha
  refine (I.hok b ob e).stay (fun c w' hc q=>(hs.2 c ?_).trans q) (fun _ q=>q) (fun _ _ q=>q) fun _ _ _ q=>q
  rintro rfl
  rcases hc with rfl | hc
  ·rw [hfree]at e;cases e
  ·rw [hfree]at hc;cases hc
 rcases hx with hk | hk
 ·refine wpAny_storeName_local hk hn (fun h' hn' hs=>?_) hcls
  obtain⟨oL,_,_,hoL,_⟩:=id hn
  refine h _ ⟨I.ok,I.os,I.bare,⟨fun b o e n hb hx=>?_,fun b o e n hb hx=>?_,I.base.free,fun b o e hx=>?_,I.base.tups,I.base.frzs,I.base.tbls⟩,⟨_,hn',fun j y v' e1 e2 e3=>?_⟩,fun y c e=>?_,I.free,I.freeC,fun p hp=>?_,tracked ⟨oL,hoL,I.free⟩ hs,by simpa using I.len⟩ ⟨_,hs,.inl rfl⟩
  ·exact (hs.2 b (zax4 (zaw1 (zaw5 e) I.ok.above))).trans (I.base.keep b o e n hb hx)
  ·obtain⟨sl,e1⟩:=I.base.slot b o e n hb hx
   exact⟨sl,(hs.2 b (zax4 (zaw1 (zaw5 e) I.ok.above))).trans e1⟩
  ·obtain⟨o',e1⟩:=I.base.there b o e hx
   exact⟨o',(hs.2 b (zax4 (zaw1 (zaw5 e) I.ok.above))).trans e1⟩
  ·by_cases hj:j=i
   ·subst hj
    rw [hi]at e1;cases e1
    rw [zbg7 hiσ]at e2
    cases e2
    exact⟨u,r,.inl ⟨hk,by simp⟩⟩
   ·rw [zbh9 (Ne.symm hj)]at e2
    obtain⟨u',r',q⟩:=hl j y v' e1 e2 e3
    refine⟨u',r',?_⟩
    rcases q with ⟨k,e⟩ | ⟨k,c,e,z⟩
    ·refine .inl ⟨k,?_⟩
     have:y≠x:=fun e=>hj (zah6 hN e1 (e ▸ hi))
     simp [this,e]
    ·exact .inr ⟨k,c,e,z.sameBut hs (cne y c e)⟩
  ·obtain⟨w',z⟩:=I.cell y c e
   exact⟨w',z.sameBut hs (cne y c e)⟩
  ·obtain⟨e,n,ne,nf,d⟩:=I.pin p hp
   exact⟨(hs.2 p.1 ne).trans e,n,ne,nf,d⟩
 ·have hfn:X.fn x=true:=by
   rcases hf with z | z
   ·exact z
   ·rw [z]at hk;cases hk
  obtain⟨c,hc⟩:=I.ok.has x (.inl hk)
  obtain⟨w',z⟩:=I.cell x c hc
  refine wpAny_storeName_cell I.ok.kind hk hc z (fun h' hc' hs=>?_)
  obtain⟨oc,hoc,hocd⟩:=id z
  refine h { s with heap:=h' } ⟨I.ok,I.os,I.bare,⟨fun b o e n hb hx=>?_,fun b o e n hb hx=>?_,I.base.free,fun b o e hx=>?_,I.base.tups,I.base.frzs,I.base.tbls⟩,⟨m,hn.sameBut hs (Ne.symm (cne x c hc)),fun j y v' e1 e2 e3=>?_⟩,fun y c' e=>?_,I.free,I.freeC,fun p hp=>?_,tracked ⟨oc,hoc,I.freeC x c hc⟩ hs,by simpa using I.len⟩ ⟨c,hs,.inr hc⟩
  ·exact (hs.2 b (zax4 (zaw1 (zaw5 e) (I.ok.cab x c hfn hc)))).trans (I.base.keep b o e n hb hx)
  ·obtain⟨sl,e1⟩:=I.base.slot b o e n hb hx
   exact⟨sl,(hs.2 b (zax4 (zaw1 (zaw5 e) (I.ok.cab x c hfn hc)))).trans e1⟩
  ·obtain⟨o',e1⟩:=I.base.there b o e hx
   exact⟨o',(hs.2 b (zax4 (zaw1 (zaw5 e) (I.ok.cab x c hfn hc)))).trans e1⟩
  ·by_cases hj:j=i
   ·subst hj
    rw [hi]at e1;cases e1
    rw [zbg7 hiσ]at e2
    cases e2
    exact⟨u,r,.inr ⟨.inl hk,c,hc,hc'⟩⟩
   ·rw [zbh9 (Ne.symm hj)]at e2
    obtain⟨u',r',q⟩:=hl j y v' e1 e2 e3
    refine⟨u',r',?_⟩
    rcases q with q | ⟨k,c',e,z'⟩
    ·exact .inl q
    ·refine .inr ⟨k,c',e,z'.sameBut hs ?_⟩
     rintro rfl
     exact hj (zah6 hN e1 (I.ok.inj _ _ _ e hc ▸ hi))
  ·by_cases hcc:c'=c
   ·subst hcc;exact⟨_,hc'⟩
   ·obtain⟨w2,z2⟩:=I.cell y c' e
    exact⟨w2,z2.sameBut hs hcc⟩
  ·obtain⟨e,n,ne,nf,d⟩:=I.pin p hp
   refine⟨(hs.2 p.1 ?_).trans e,n,ne,nf,d⟩
   intro q
   rw [q,hoc]at e
   have q':oc=p.2:=Option.some.inj e
   exact d w' (by rw [← q'];exact hocd)
theorem zs1 {M:Model}{A:Around}{E:Value→zaw0→Prop}{i:Nat}{x:Str}{v:V}{u:Value}{Q:Unit→zaw0→Prop} (I:Inv X pins σ H s) (hN:X.N.Nodup) (hi:X.N[i]?=some x) (hx:Loc X.env.scope x) (r:RelV v u)
  (h:∀s',Inv X pins (σ.set i (some v)) H s'→Q () s') (hf:X.fn x=true∨X.env.scope.names.lookup x=some .local:=by first | exact .inl rfl | exact .inr rfl | assumption):wpAny M A (storeName X.env x u) Q E s :=
 zz4 I hN hi hx r (fun s' I' _=>h s' I') hf
end
abbrev XK:=Value→Option Addr→Hp→Prop
abbrev St:=List (Option V)
abbrev VK:=V→Hp→Prop
abbrev TE:=St→Hp→VK→Prop
abbrev TT:=St→Hp→(Bool→Hp→Prop)→Prop
abbrev TA:=St→Hp→(List V→Hp→Prop)→Prop
structure Ends where
 nx:St→Hp→Prop
 rt:VK
 bk:St→Hp→Prop:=fun _ _=>False
 ct:St→Hp→Prop:=fun _ _=>False
abbrev TS:=Ends→St→Hp→Prop
def EP (X:Cx) (pins:List (Addr×Obj)) (σ:St) (Q:VK) (u:Value) (s':zaw0):Prop := ∃v H',Inv X pins σ H' s'∧RelV v u∧Q v H'
def TP (X:Cx) (pins:List (Addr×Obj)) (σ:St) (Q:Bool→Hp→Prop) (b:Bool) (s':zaw0):Prop := ∃H',Inv X pins σ H' s'∧Q b H'
noncomputable def AP (X:Cx) (pins:List (Addr×Obj)) (σ:St) (Q:List V→Hp→Prop) (us:List Value) (s':zaw0):Prop := ∃vs H',Inv X pins σ H' s'∧Vals vs us∧Q vs H'
noncomputable def SP (X:Cx) (pins:List (Addr×Obj)) (D:Ends) (f:Flow) (s':zaw0):Prop :=
 match f with
 |.next => ∃σ' H',Inv X pins σ' H' s'∧D.nx σ' H'
 |.brk => ∃σ' H',Inv X pins σ' H' s'∧D.bk σ' H'
 |.cont => ∃σ' H',Inv X pins σ' H' s'∧D.ct σ' H'
 |.ret u => ∃v σ' H',Inv X pins σ' H' s'∧RelV v u∧D.rt v H'
noncomputable def PE (X:Cx) (e:Expr) (t:TE):Prop :=
 ∀(pins:List (Addr×Obj)) (s:zaw0) (σ:St) (H:Hp) (Q:VK),Inv X pins σ H s→t σ H Q→wpAny (model X.prog X.w) X.A (eval e X.env) (EP X pins σ Q) X.xe s
noncomputable def PT (X:Cx) (e:Expr) (t:TT):Prop :=
 ∀(pins:List (Addr×Obj)) (s:zaw0) (σ:St) (H:Hp) (Q:Bool→Hp→Prop),Inv X pins σ H s→t σ H Q→wpAny (model X.prog X.w) X.A (isTrue e X.env (eval e X.env)) (TP X pins σ Q) X.xe s
noncomputable def PW (X:Cx) (e:Expr) (t:TT):Prop :=
 ∀(whole:Sem Value) (pins:List (Addr×Obj)) (s:zaw0) (σ:St) (H:Hp) (Q:Bool→Hp→Prop),Inv X pins σ H s→t σ H Q→wpAny (model X.prog X.w) X.A (isTrue e X.env whole) (TP X pins σ Q) X.xe s
theorem PW.pt {X:Cx}{e:Expr}{t:TT} (h:PW X e t):PT X e t:=h _
noncomputable def PA (X:Cx) (es:List Expr) (t:TA):Prop :=
 ∀(pos:Pos) (pins:List (Addr×Obj)) (s:zaw0) (σ:St) (H:Hp) (Q:List V→Hp→Prop),Inv X pins σ H s→t σ H Q→wpAny (model X.prog X.w) X.A (spliced (zbd6 pos (zaw7 es X.env))) (AP X pins σ Q) X.xe s
noncomputable def PS (X:Cx) (st:Stmt) (t:TS):Prop :=
 ∀(pins:List (Addr×Obj)) (s:zaw0) (σ:St) (H:Hp) (D:Ends),Inv X pins σ H s→t D σ H→wpAny (model X.prog X.w) X.A (exec st X.env) (SP X pins D) X.xe s
noncomputable def PSs (X:Cx) (st:List Stmt) (t:TS):Prop :=
 ∀(pins:List (Addr×Obj)) (s:zaw0) (σ:St) (H:Hp) (D:Ends),Inv X pins σ H s→t D σ H→wpAny (model X.prog X.w) X.A (execs st X.env) (SP X pins D) X.xe s
theorem thn {α:Type}{t:Sem α}{Q Q':α→zaw0→Prop}{M:Model}{A:Around}{E:Value→zaw0→Prop}{s:zaw0} (h:wpAny M A t Q E s) (hQ:∀a s,Q a s→Q' a s):wpAny M A t Q' E s:=wpAny_mono h hQ fun _ _ x=>x
end L2
namespace L2
open PySem.Spec
section
variable {X:Cx}
theorem bin {a b:Expr}{ta tb:TE} (ha:PE X a ta) (hb:PE X b tb) {pins:List (Addr×Obj)}{s:zaw0}{σ:St}{H:Hp}{R:V→V→Hp→Prop} (I:Inv X pins σ H s) (h:ta σ H fun x H1=>tb σ H1 fun y H2=>R x y H2)
  {α:Type}{Q:α→zaw0→Prop}{f:Value→Value→Sem α}
  (hf:∀v u s2 x y H2,Inv X pins σ H2 s2→RelV x v→RelV y u→R x y H2→wpAny (model X.prog X.w) X.A (f v u) Q X.xe s2) :
  wpAny (model X.prog X.w) X.A (eval a X.env) (fun v s₁=>wpAny (model X.prog X.w) X.A (eval b X.env) (fun u s₂=>wpAny (model X.prog X.w) X.A (f v u) Q X.xe s₂) X.xe s₁) X.xe s:=by
 refine thn (ha pins s σ H _ I h) fun v s1 ⟨x,H1,I1,r1,q1⟩=>?_
 refine thn (hb pins s1 σ H1 _ I1 q1) fun u s2 ⟨y,H2,I2,r2,q2⟩=>?_
 exact hf v u s2 x y H2 I2 r1 r2 q2
def tVar (i:Nat):TE:=fun σ H Q => ∃v,σ[i]?=some (some v)∧Q v H
def tC (v:V):TE:=fun _ H Q=>Q v H
theorem zv7 {i:Nat}{x:Str}{pos:Pos} (hN:X.N[i]?=some x) (hv:Vis X.env.scope x) (hd:(x ==("__debug__":Str))=false:=by decide) (hcd:(x ==("__classdict__":Str))=false:=by decide):PE X (.Name x pos) (tVar i):=by
 intro pins s σ H Q I h
 obtain⟨v,e,h⟩:=h
 obtain⟨m,hn,hl⟩:=I.loc
 obtain⟨u,r,l⟩:=hl i x v hN e hv
 have fin:EP X pins σ Q u s:=⟨v,H,I,r,h⟩
 rcases l with ⟨hk,hm⟩ | ⟨hk,c,hc,hcell⟩
 ·exact wpAny_Name (wpAny_loadName_local I.ok.kind hk hn hm fin) hd
 ·rcases hk with hk | hk
  ·exact wpAny_Name (wpAny_loadName_cell I.ok.kind hk hc hcell fin) hd
  ·exact wpAny_Name (wpAny_loadName_free I.ok.kind hk hc hcell fin hcd) hd
theorem pe_int {i j pos}:PE X (.Constant (.int i) j pos) (tC (.int i)):=fun _ _ _ H _ I h=>wpAny_Constant_int ⟨.int i,H,I.tok _,⟨_,rfl⟩,h⟩
theorem pe_bl {b j pos}:PE X (.Constant (.bool b) j pos) (tC (.bl b)):=fun _ _ _ H _ I h=>Constant_bool ⟨.bl b,H,I,rfl,h⟩
def Gl (X:Cx) (x:Str):Prop:=X.env.kindOf x=some .globalImplicit
theorem ld_glob {E:Value→zaw0→Prop}{pins:List (Addr×Obj)}{s:zaw0}{σ:St}{H:Hp}{x:Str}{u:Value}{pos:Pos}{Q:Value→zaw0→Prop} (I:Inv X pins σ H s) (hg:Gl X x) (hm:X.mg x=some u) (h:Q u s)
  (hd:(x ==("__debug__":Str))=false:=by decide):wpAny (model X.prog X.w) X.A (eval (.Name x pos) X.env) Q E s :=
 Calls.Name_function_global I.ok.kind hg (Calls.loadGlobal_global (by rw [I.ok.glob];exact I.mod.glob.keeps I.bk) hm h) hd
theorem zo9 {E:Value→zaw0→Prop}{pins:List (Addr×Obj)}{s:zaw0}{σ:St}{H:Hp}{x:Str}{u:Value}{pos:Pos}{Q:Value→zaw0→Prop} (I:Inv X pins σ H s) (hg:Gl X x) (hm:X.mg x=none) (hv:bootBuiltins x=some u) (h:Q u s)
  (hn:x≠"__name__":=by decide) (hd:(x ==("__debug__":Str))=false:=by decide):wpAny (model X.prog X.w) X.A (eval (.Name x pos) X.env) Q E s:=by
 obtain⟨mb,h1,h2⟩:=I.mod.blt
 exact Calls.Name_function_global I.ok.kind hg (Calls.loadGlobal_builtin (by rw [I.ok.glob];exact I.mod.glob.keeps I.bk) hm (by rw [I.ok.blt];exact h1.keeps I.bk) ((h2 x hn).trans hv) h) hd
theorem pe_bltn {x:Str}{v:V}{u:Value}{pos:Pos} (hg:Gl X x) (hm:X.mg x=none) (hv:bootBuiltins x=some u) (r:RelV v u) (hn:x≠"__name__":=by decide) (hd:(x ==("__debug__":Str))=false:=by decide):PE X (.Name x pos) (tC v) :=
 fun _ _ _ H _ I h=>zo9 I hg hm hv ⟨v,H,I,r,h⟩ hn hd
variable {a b:Expr}{ta tb:TE}{pos:Pos}
variable {tA tB':TT}{rest:List Expr}
def tAnd (t u:TT):TT:=fun σ H Q=>t σ H fun c H1=>if c=true then u σ H1 Q else Q false H1
def tOr (t u:TT):TT:=fun σ H Q=>t σ H fun c H1=>if c=true then Q true H1 else u σ H1 Q
theorem pw_and1 (ha:PT X a tA):PW X (.BoolOp .And [a] pos) tA:=by
 intro wh pins s σ H Q I h
 refine isTrue_and (thn (ha pins s σ H Q I h) fun c s1 e=>?_)
 cases c with
 |true=>exact isTrue_and_nil e
 |false=>exact e
theorem pw_or1 (ha:PT X a tA):PW X (.BoolOp .Or [a] pos) tA:=by
 intro wh pins s σ H Q I h
 refine isTrue_or (thn (ha pins s σ H Q I h) fun c s1 e=>?_)
 cases c with
 |false=>exact isTrue_or_nil e
 |true=>exact e
theorem pw_and (ha:PT X a tA) (hb:PW X (.BoolOp .And (b::rest) pos) tB'):PW X (.BoolOp .And (a::b::rest) pos) (tAnd tA tB'):=by
 intro wh pins s σ H Q I h
 refine isTrue_and (thn (ha pins s σ H _ I h) fun c s1 ⟨H1,I1,q1⟩=>?_)
 cases c with
 |true=>exact hb wh pins s1 σ H1 Q I1 q1
 |false=>exact⟨H1,I1,q1⟩
theorem pw_or (ha:PT X a tA) (hb:PW X (.BoolOp .Or (b::rest) pos) tB'):PW X (.BoolOp .Or (a::b::rest) pos) (tOr tA tB'):=by
 intro wh pins s σ H Q I h
 refine isTrue_or (thn (ha pins s σ H _ I h) fun c s1 ⟨H1,I1,q1⟩=>?_)
 cases c with
 |true=>exact⟨H1,I1,q1⟩
 |false=>exact hb wh pins s1 σ H1 Q I1 q1
end
end L2
namespace L2
open PySem.Spec
noncomputable def SqL (K:zau7) (H:Hp) (a:Addr) (xs:List V):Prop :=
 Rd H a (.lst xs) ∨
  ∃(o:Obj) (its:Array Value) (n:Nat),K.lookup a=some o∧o.cls=.type "list"∧o.dict=none∧o.data=.seq its n∧its.size≤sizeLine∧Vals xs its.toList
noncomputable def SqT (K:zau7) (H:Hp) (a:Addr) (xs:List V):Prop :=
 Rd H a (.tup xs) ∨
  ∃(o:Obj) (its:Array Value) (n:Nat),K.lookup a=some o∧o.cls=.type "tuple"∧o.data=.seq its n∧its.size≤sizeLine∧Vals xs its.toList
noncomputable def absV:Value→Option V
 |.none=>some .non
 |.bool b=>some (.bl b)
 |.int i _=>some (.int i)
 |.str x _=>some (.str x)
 |.bytes b _=>some (.byt b)
 |.float b _=>some (.flt b)
 |.ref a=>some (.ref a)
 |.type n=>some (.ty n)
 |_=>none
theorem RelV.abs {x:V}{u:Value} (r:RelV x u):absV u=some x:=by
 cases x with
 |non=>cases r;rfl
 |bl _=>cases r;rfl
 |int _=>obtain⟨t,rfl⟩:=r;rfl
 |str _=>obtain⟨t,rfl⟩:=r;rfl
 |byt _=>obtain⟨t,rfl⟩:=r;rfl
 |flt _=>obtain⟨t,rfl⟩:=r;rfl
 |ref _=>cases r;rfl
 |ty _=>cases r;rfl
theorem RelV.inj {x y:V}{u:Value} (r:RelV x u) (q:RelV y u):x=y:=Option.some.inj (r.abs.symm.trans q.abs)
theorem Vals.inj:∀ {xs ys:List V}{us:List Value},Vals xs us→Vals ys us→xs=ys
 |_,_,_,.nil,.nil=>rfl
 |_,_,_,.cons r t,.cons r' t'=>by rw [r.inj r',Vals.inj t t']
section
variable {X:Cx}{pins:List (Addr×Obj)}{σ:St}{H:Hp}{s:zaw0}{a:Addr}{xs ys:List V}
theorem SqL.of {K:zau7} (h:H a=some (.lst xs)):SqL K H a xs:=.inl (.inl h)
theorem SqT.of {K:zau7} (h:H a=some (.tup xs)):SqT K H a xs:=.inl (.inl h)
theorem Inv.list (I:Inv X pins σ H s) (h:SqL X.K H a xs):∃its:List Value,Vals xs its∧PlainL s.heap a its.toArray∧xs.length≤sizeLine:=by
 rcases h with h | ⟨o,its,n,hk,hc,hd,hs,hz,r⟩
 ·obtain⟨z,its,n,r,e⟩:=h.ok I.hok
  exact⟨its,r,⟨_,n,e,rfl,rfl,rfl⟩,z⟩
 ·refine⟨its.toList,r,⟨o,n,I.kIn a o hk,hc,hd,by simpa using hs⟩,?_⟩
  have e:=r.length
  simp only [zbi3]at e
  lia
theorem Inv.tuple (I:Inv X pins σ H s) (h:SqT X.K H a xs):∃its:List Value,Vals xs its∧IsTup s.heap a its.toArray∧xs.length≤sizeLine:=by
 rcases h with h | ⟨o,its,n,hk,hc,hs,hz,r⟩
 ·obtain⟨z,its,r,p⟩:=h.ok I.hok
  exact⟨its,r,p,z⟩
 ·refine⟨its.toList,r,⟨o,I.kIn a o hk,hc,n,by simpa using hs⟩,?_⟩
  have e:=r.length
  simp only [zbi3]at e
  lia
theorem Inv.list_inj (I:Inv X pins σ H s) (h:SqL X.K H a xs) (h':SqL X.K H a ys):xs=ys:=by
 obtain⟨its,r,⟨o,n,e,_,_,d⟩,_⟩:=I.list h
 obtain⟨its',r',⟨o',n',e',_,_,d'⟩,_⟩:=I.list h'
 rw [e]at e';cases e'
 rw [d]at d'
 injection d' with d1 _
 have:its=its':=by simpa using congrArg Array.toList d1
 subst this
 exact r.inj r'
theorem Inv.tuple_inj (I:Inv X pins σ H s) (h:SqT X.K H a xs) (h':SqT X.K H a ys):xs=ys:=by
 obtain⟨its,r,⟨o,e,_,n,d⟩,_⟩:=I.tuple h
 obtain⟨its',r',⟨o',e',_,n',d'⟩,_⟩:=I.tuple h'
 rw [e]at e';cases e'
 rw [d]at d'
 injection d' with d1 _
 have:its=its':=by simpa using congrArg Array.toList d1
 subst this
 exact r.inj r'
end
abbrev Cx.wish (X:Cx) (E:Value→zaw0→Prop):Cx:={ X with xe:=E }
abbrev Cx.nox (X:Cx):Cx:=X.wish fun _ _=>False
theorem Cx.Ok.wish {X:Cx} (ok:X.Ok) (E:Value→zaw0→Prop):(X.wish E).Ok :=
 ⟨ok.mod,ok.kind,ok.glob,ok.blt,ok.above,ok.inj,ok.has,ok.cab,ok.hd,ok.frames,ok.stk,ok.exf,ok.bs,ok.bsz,ok.noex,ok.exfs,ok.funs,ok.frf,ok.tabs⟩
theorem Cx.Ok.unwish {X:Cx}{E:Value→zaw0→Prop} (ok:(X.wish E).Ok):X.Ok :=
 ⟨ok.mod,ok.kind,ok.glob,ok.blt,ok.above,ok.inj,ok.has,ok.cab,ok.hd,ok.frames,ok.stk,ok.exf,ok.bs,ok.bsz,ok.noex,ok.exfs,ok.funs,ok.frf,ok.tabs⟩
section
variable {X:Cx}{pins:List (Addr×Obj)}{σ:St}{H:Hp}{s:zaw0}{E:Value→zaw0→Prop}
theorem Inv.wish (I:Inv X pins σ H s) (E:Value→zaw0→Prop):Inv (X.wish E) pins σ H s:=⟨I.ok.wish E,I.os,I.bare,I.base,I.loc,I.cell,I.free,I.freeC,I.pin,I.hok,I.len⟩
theorem Inv.unwish (I:Inv (X.wish E) pins σ H s):Inv X pins σ H s:=⟨I.ok.unwish,I.os,I.bare,I.base,I.loc,I.cell,I.free,I.freeC,I.pin,I.hok,I.len⟩
theorem SP.unwish {D:Ends}{f:Flow}{s':zaw0} (h:SP (X.wish E) pins D f s'):SP X pins D f s':=by
 cases f with
 |next=>obtain⟨σ',H',I,q⟩:=h;exact⟨σ',H',I.unwish,q⟩
 |brk=>obtain⟨σ',H',I,q⟩:=h;exact⟨σ',H',I.unwish,q⟩
 |cont=>obtain⟨σ',H',I,q⟩:=h;exact⟨σ',H',I.unwish,q⟩
 |ret u=>obtain⟨v,σ',H',I,r,q⟩:=h;exact⟨v,σ',H',I.unwish,r,q⟩
theorem PSs.nox {st:List Stmt}{t:TS} (h:PSs X.nox st t):PSs X st t:=fun pins s σ H D I hw =>
 wpAny_mono (h pins s σ H D (I.wish _) hw) (fun _ _ q=>q.unwish) fun _ _ z=>False.elim z
end
section
variable {X:Cx}{st:Stmt}{rest:List Stmt}{t u:TS}{e:Expr}{te:TE}{pos:Pos}
def tNext:TS:=fun D σ H=>D.nx σ H
def tSeq (t u:TS):TS:=fun D σ H=>t { D with nx:=u D } σ H
theorem pss_nil:PSs X [] tNext:=fun _ _ σ H _ I h=>wpAny_execs_nil ⟨σ,H,I,h⟩
theorem pss_cons (h1:PS X st t) (h2:PSs X rest u):PSs X (st::rest) (tSeq t u):=by
 intro pins s σ H D I h
 refine wpAny_execs_cons (thn (h1 pins s σ H { D with nx:=u D } I h) fun f s1 q=>?_)
 cases f with
 |next =>
  obtain⟨σ',H',I',q⟩:=q
  exact h2 pins s1 σ' H' D I' q
 |ret v=>exact q
 |brk=>exact q
 |cont=>exact q
theorem pss_one (h1:PS X st t):PSs X [st] t:=by
 intro pins s σ H D I h
 refine wpAny_execs_cons (thn (h1 pins s σ H D I h) fun f s1 q=>?_)
 cases f with
 |next=>exact wpAny_execs_nil q
 |ret v=>exact q
 |brk=>exact q
 |cont=>exact q
theorem Inv.quiet {pins:List (Addr×Obj)}{σ:St}{H:Hp}{s:zaw0} (I:Inv X pins σ H s):interactive X.env=false:=by simp [interactive,I.ok.kind]
def tDrop (te:TE):TS:=fun D σ H=>te σ H fun _ H1=>D.nx σ H1
theorem zan1 (he:PE X e te) (hs:swapsWith e none pos.line X.env=pure false:=by rfl):PS X (.Expr e pos) (tDrop te):=by
 intro pins s σ H D I h
 exact wpAny_Expr_any (thn (he pins s σ H _ I h) fun v s1 ⟨x,H1,I1,r1,q1⟩=>⟨σ,H1,I1,q1⟩) I.quiet hs
def tRet (te:TE):TS:=fun D σ H=>te σ H D.rt
theorem zam9 (he:PE X e te):PS X (.Return (some e) pos) (tRet te):=by
 intro pins s σ H D I h
 exact wpAny_Return_some (thn (he pins s σ H _ I h) fun v s1 ⟨x,H1,I1,r1,q1⟩=>⟨x,σ,H1,I1,r1,q1⟩)
def tIfS (c:TT) (t u:TS):TS:=fun D σ H=>c σ H fun b H1=>if b=true then t D σ H1 else u D σ H1
theorem ps_if {c:Expr}{a b:List Stmt}{tc:TT} (hc:PT X c tc) (ha:PSs X a t) (hb:PSs X b u):PS X (.If c a b pos) (tIfS tc t u):=by
 intro pins s σ H D I h
 refine wpAny_If (thn (hc pins s σ H _ I h) fun d s1 ⟨H1,I1,q1⟩=>?_)
 cases d with
 |true=>exact ha pins s1 σ H1 D I1 q1
 |false=>exact hb pins s1 σ H1 D I1 q1
end
abbrev TG:=V→St→Hp→(St→Hp→Prop)→Prop
abbrev TGs:=List V→St→Hp→(St→Hp→Prop)→Prop
noncomputable def PG (X:Cx) (target:Expr) (t:TG):Prop :=
 ∀(pins:List (Addr×Obj)) (s:zaw0) (σ:St) (H:Hp) (v:V) (u:Value) (Q:St→Hp→Prop),Inv X pins σ H s→RelV v u→t v σ H Q →
  wpAny (model X.prog X.w) X.A (assign target X.env u) (fun _ s' => ∃σ' H',Inv X pins σ' H' s'∧Q σ' H') X.xe s
noncomputable def PGs (X:Cx) (ts:List Expr) (t:TGs):Prop :=
 ∀(pins:List (Addr×Obj)) (s:zaw0) (σ:St) (H:Hp) (vs:List V) (us:List Value) (Q:St→Hp→Prop),Inv X pins σ H s→Vals vs us→t vs σ H Q →
  wpAny (model X.prog X.w) X.A (assignInOrder ((assignEach ts X.env).map (·.2)) us) (fun _ s' => ∃σ' H',Inv X pins σ' H' s'∧Q σ' H') X.xe s
abbrev TSet:=V→V→V→Hp→(Hp→Prop)→Prop
noncomputable def PSet (X:Cx) (t:TSet):Prop :=
 ∀(pins:List (Addr×Obj)) (s:zaw0) (σ:St) (H:Hp) (o i v:V) (ov iv u:Value) (Q:Hp→Prop),Inv X pins σ H s→RelV o ov→RelV i iv→RelV v u→t o i v H Q →
  wpAny (model X.prog X.w) X.A (setItem ov iv u) (fun _ s' => ∃H',Inv X pins σ H' s'∧Q H') X.xe s
abbrev TIp:=V→V→Hp→VK→Prop
noncomputable def PIp (X:Cx) (op:Operator) (t:TIp):Prop :=
 ∀(pins:List (Addr×Obj)) (s:zaw0) (σ:St) (H:Hp) (x y:V) (v u:Value) (Q:VK),Inv X pins σ H s→RelV x v→RelV y u→t x y H Q →
  wpAny (model X.prog X.w) X.A (inplaceOp op v u) (EP X pins σ Q) X.xe s
section
variable {X:Cx}{pos:Pos}
def gName (i:Nat):TG:=fun v σ H Q=>Q (σ.set i (some v)) H
theorem zb2 {i:Nat}{x:Str} (hN:X.N.Nodup) (hi:X.N[i]?=some x) (hx:Loc X.env.scope x) (hf:X.fn x=true∨X.env.scope.names.lookup x=some .local:=by first | exact .inl rfl | exact .inr rfl | assumption):PG X (.Name x pos) (gName i):=by
 intro pins s σ H v u Q I r h
 exact wpAny_assign_Name (zs1 I hN hi hx r (fun s' I'=>⟨_,H,I',h⟩) hf)
def gNil:TGs:=fun vs σ H Q=>vs=[]∧Q σ H
def gCons (t:TG) (u:TGs):TGs:=fun vs σ H Q => ∃v r,vs=v::r∧t v σ H fun σ' H'=>u r σ' H' Q
theorem zl0:PGs X [] gNil:=by
 intro pins s σ H vs us Q I r h
 obtain⟨e,h⟩:=h
 subst e
 cases r
 exact assignInOrder_nil ⟨σ,H,I,h⟩
theorem zd9 {e:Expr}{es:List Expr}{t:TG}{u:TGs} (h1:PG X e t) (h2:PGs X es u)
  (hs:(assignEach (e::es) X.env).map (·.2)=assign e X.env ::(assignEach es X.env).map (·.2):=by rfl):PGs X (e::es) (gCons t u):=by
 intro pins s σ H vs us Q I r h
 obtain⟨v,vr,e1,h⟩:=h
 subst e1
 cases r with
 |cons r rr =>
  rw [hs]
  refine assignInOrder_cons (thn (h1 pins s σ H _ _ _ I r h) fun _ s1 ⟨σ1,H1,I1,q1⟩=>?_)
  exact h2 pins s1 σ1 H1 _ _ Q I1 rr q1
def gTup (K:zau7) (n:Nat) (t:TGs):TG:=fun v σ H Q => ∃a xs,v=.ref a∧SqT K H a xs∧xs.length=n∧t xs σ H Q
theorem zq8 {es:List Expr}{k:Nat}{t:TGs}{n:Nat} (hc:X.calm=true) (h:PGs X es t)
  (hn:(assignEach es X.env).length=n:=by rfl) (hst:(assignEach es X.env).findIdx? (·.1)=none:=by rfl):PG X (.Tuple es k pos) (gTup X.K n t):=by
 intro pins s σ H v u Q I r hw
 obtain⟨a,xs,e1,hq,hl,hw⟩:=hw
 subst e1
 cases r
 obtain⟨its,rv,ht,hz⟩:=I.tuple hq
 refine assign_Tuple_tuple (I.ok.hd hc) ht (by simp [hn, ← hl,rv.length]) hst fun h' hx=>?_
 have I1:Inv X pins σ H { s with heap:=h' }:=I.kept (t':=s.toks) fun b o e=>hx b o (zax4 (zaw5 e)) e
 exact h pins _ σ H xs _ Q I1 (by simpa using rv) hw
def tAsg (te:TE) (g:TG):TS:=fun D σ H=>te σ H fun x H1=>g x σ H1 D.nx
theorem ps_asg {tg e:Expr}{te:TE}{g:TG} (he:PE X e te) (hg:PG X tg g) (hs:swapsWithSole [tg] e pos.line X.env=pure false:=by rfl) (hw:swappedStores [tg] e X.env=pure none:=by rfl)
  (h1:(assignEach [tg] X.env).map (·.2)=[assign tg X.env]:=by rfl):PS X (.Assign [tg] e pos) (tAsg te g):=by
 intro pins s σ H D I h
 refine wpAny_Assign_stores (thn (he pins s σ H _ I h) fun v s1 ⟨x,H1,I1,r1,q1⟩=>?_) hs hw
 rw [h1]
 exact thn (hg pins s1 σ H1 x v _ I1 r1 q1) fun _ s2 q=>q
theorem ps_set {i:Nat}{x:Str}{e:Expr}{te:TE}{pos':Pos} (hN:X.N.Nodup) (hi:X.N[i]?=some x) (hx:Loc X.env.scope x) (he:PE X e te) (hs:swapsWith e (some (.Name x pos')) pos.line X.env=pure false:=by rfl) (hf:X.fn x=true∨X.env.scope.names.lookup x=some .local:=by first | exact .inl rfl | exact .inr rfl | assumption) :
  PS X (.Assign [.Name x pos'] e pos) (tAsg te (gName i)):=by
 intro pins s σ H D I h
 refine wpAny_Assign_Name (thn (he pins s σ H _ I h) fun v s1 ⟨y,H1,I1,r1,q1⟩=>?_) hs
 exact zs1 I1 hN hi hx r1 (fun s2 I2=>⟨_,H1,I2,q1⟩) hf
def tPar (i j:Nat) (ta:TA):TS:=fun D σ H=>ta σ H fun vs H1 => ∃v w,vs=[v,w]∧D.nx ((σ.set i (some v)).set j (some w)) H1
theorem ps_par {i j:Nat}{x y:Str}{a b:Expr}{ta:TA}{px py pt:Pos}{kt k2 pt2} (hc:X.calm=true) (hN:X.N.Nodup) (hi:X.N[i]?=some x) (hj:X.N[j]?=some y) (hij:i≠j)
  (hx:X.env.scope.names.lookup x=some .local) (hy:X.env.scope.names.lookup y=some .local) (ha:PA X [a,b] ta)
  (hw:swappedStores [.Tuple [.Name x px,.Name y py] kt pt] (.Tuple [a,b] k2 pt2) X.env=pure (some [x,y]))
  (hs:swapsWithSole [.Tuple [.Name x px,.Name y py] kt pt] (.Tuple [a,b] k2 pt2) pos.line X.env=pure false:=by rfl) :
  PS X (.Assign [.Tuple [.Name x px,.Name y py] kt pt] (.Tuple [a,b] k2 pt2) pos) (tPar i j ta):=by
 intro pins s σ H D I h
 rw [exec_Assign_arm]
 refine zaw3 (wpAny_standAt ?_)
 rw [hs]
 refine zaw3 (zax9 ?_)
 rw [if_neg (by decide)]
 refine zaw3 (Tuple_ (thn (ha _ pins s σ H _ I h) fun us s1 ⟨vs,H1,I1,r1,q1⟩=>?_))
 obtain⟨v,w,e1,q1⟩:=q1
 subst e1
 obtain⟨u1,u2,rfl,rv,rw'⟩:∃u1 u2,us=[u1,u2]∧RelV v u1∧RelV w u2:=by
  cases r1 with
  |cons p q =>
   cases q with
   |cons p' q' =>
    cases q'
    exact⟨_,_,rfl,p,p'⟩
 refine wpAny_newObj_type ?_ (by show 2≤sizeLine;decide)
 have I2:Inv X pins σ H1 { s1 with heap:=s1.heap.push { cls:=.type "tuple",data:=.seq [u1,u2].toArray } }:=I1.kept (t':=s1.toks) fun b o e=>zav8 _ e
 rw [hw]
 refine zaw3 (zax9 ?_)
 show wpAny (model X.prog X.w) X.A (do rule "assign.swapped-stores";let items ← unpackItems (.ref s1.heap.objs.size) 2 none;assignInOrder [fun v=>bindName X.env y v,fun v=>bindName X.env x v] items.reverse;pure Flow.next) _ _ _
 refine zaw3 (wpAny_rule (zaw3 (unpackItems_tuple (items := #[u1,u2]) (I.ok.hd hc) (IsTup.new s1.heap _) fun h' hx'=>?_)))
 have I3:=I2.kept (h':=h') (t':=s1.toks) fun b o e=>hx' b o (zax4 (zaw5 e)) e
 show wpAny _ _ (assignInOrder [fun v=>bindName X.env y v,fun v=>bindName X.env x v] [u2,u1] >>= fun _=>pure Flow.next) _ _ _
 refine zaw3 (assignInOrder_cons (wpAny_bindName (zs1 I3 hN hj (.inl hy) rw' (fun s2 I4=>?_) (.inr hy))))
 refine assignInOrder_cons (wpAny_bindName (zs1 I4 hN hi (.inl hx) rv (fun s3 I5=>assignInOrder_nil (zax9 ?_)) (.inr hx)))
 rw [List.set_comm _ _ (Ne.symm hij)]at I5
 exact⟨_,H1,I5,q1⟩
noncomputable def tAugS (to ti te:TE) (tget:V→V→Hp→VK→Prop) (tip:TIp) (tset:TSet):TS:=fun D σ H=>to σ H fun o H1=>ti σ H1 fun i H2=>tget o i H2 fun x H3=>te σ H3 fun y H4=>tip x y H4 fun z H5=>tset o i z H5 fun H6=>D.nx σ H6
noncomputable def PGet (X:Cx) (t:V→V→Hp→VK→Prop):Prop :=
 ∀(pins:List (Addr×Obj)) (s:zaw0) (σ:St) (H:Hp) (o i:V) (ov iv:Value) (Q:VK),Inv X pins σ H s→RelV o ov→RelV i iv→t o i H Q →
  wpAny (model X.prog X.w) X.A (getItem ov iv) (EP X pins σ Q) X.xe s
theorem ps_augS {o i e:Expr}{to ti te:TE}{tget:V→V→Hp→VK→Prop}{tip:TIp}{tset:TSet}{op:Operator}{tpos:Pos} (ho:PE X o to) (hi:PE X i ti) (hg:PGet X tget) (he:PE X e te) (hp:PIp X op tip) (hs:PSet X tset)
  (ha:∀ov iv new,augStore i ov iv new=(do holding [new,ov,iv] (setItem ov iv new);release [new,ov,iv] [];pure .next):=by intros;rfl):PS X (.AugAssign (.Subscript o i tpos) op e pos) (tAugS to ti te tget tip tset):=by
 intro pins s σ H D I h
 refine wpAny_AugAssign_SubscriptAny (thn (ho pins s σ H _ I h) fun ov s1 ⟨x1,H1,I1,r1,q1⟩=>?_) ha
 refine thn (hi pins s1 σ H1 _ I1 q1) fun iv s2 ⟨x2,H2,I2,r2,q2⟩=>?_
 refine thn (hg pins s2 σ H2 x1 x2 ov iv _ I2 r1 r2 q2) fun old s3 ⟨x3,H3,I3,r3,q3⟩=>?_
 refine thn (he pins s3 σ H3 _ I3 q3) fun v s4 ⟨x4,H4,I4,r4,q4⟩=>?_
 refine thn (hp pins s4 σ H4 x3 x4 old v _ I4 r3 r4 q4) fun new s5 ⟨x5,H5,I5,r5,q5⟩=>?_
 exact thn (hs pins s5 σ H5 x1 x2 x5 ov iv new _ I5 r1 r2 r5 q5) fun _ s6 ⟨H6,I6,q6⟩=>⟨σ,H6,I6,q6⟩
def ipI (f:Int→Int→Int):TIp:=fun x y H Q => ∃i j,x=.int i∧y=.int j∧Q (.int (f i j)) H
theorem ip_sub:PIp X .Sub (ipI fun i j=>i - j):=by
 intro pins s σ H x y v u Q I r1 r2 h
 obtain⟨i,j,e1,e2,q⟩:=h
 subst e1;subst e2
 obtain⟨t,rfl⟩:=r1
 obtain⟨t',rfl⟩:=r2
 exact isub_int ⟨.int _,H,I.tok _,⟨_,rfl⟩,q⟩
end
section
variable {X:Cx}{pos:Pos}
noncomputable def tWhile (c:TT) (tb:TS):TS:=fun D σ H => ∃W:Nat→St→Hp→Prop,(∃m,W m σ H)∧∀m σ H,W m σ H →
 c σ H fun b H1=>if b=true then ∃N:St→Hp→Prop,(∀σ' H',N σ' H'→∃m',m' < m∧W m' σ' H')∧tb { D with nx:=N,ct:=N,bk:=D.nx } σ H1 else D.nx σ H1
theorem ps_while {c:Expr}{body:List Stmt}{tc:TT}{tb:TS} (hp:PassesOwn (model X.prog X.w) X.A X.env X.xe) (hc:PT X c tc) (hb:PSs X body tb):PS X (.While c body [] pos) (tWhile tc tb):=by
 intro pins s σ H D I h
 obtain⟨W,⟨m0,w0⟩,turn⟩:=h
 refine wpAny_While (codeAny_whileLoop (fun n s' => ∃σ' H',Inv X pins σ' H' s'∧W n σ' H') ?_ m0 ⟨σ,H,I,w0⟩)
 rintro n s1 ⟨σ1,H1,I1,w1⟩
 refine wpAny_passesOwn hp (thn (hc pins s1 σ1 H1 _ I1 (turn n σ1 H1 w1)) fun b s2 ⟨H2,I2,q2⟩=>?_)
 cases b with
 |true =>
  obtain⟨N,hN,q2⟩:=q2
  rw [if_pos rfl]
  refine wpAny_passesOwn hp (thn (hb pins s2 σ1 H2 _ I2 q2) fun f s3 q3=>?_)
  cases f with
  |next =>
   obtain⟨σ3,H3,I3,n3⟩:=q3
   obtain⟨m',hm,w3⟩:=hN σ3 H3 n3
   exact⟨m',hm,σ3,H3,I3,w3⟩
  |cont =>
   obtain⟨σ3,H3,I3,n3⟩:=q3
   obtain⟨m',hm,w3⟩:=hN σ3 H3 n3
   exact⟨m',hm,σ3,H3,I3,w3⟩
  |brk=>exact q3
  |ret v=>exact q3
 |false =>
  rw [if_neg zaw4]
  exact wpAny_execs_nil ⟨σ1,H2,I2,q2⟩
end
structure It where
 go:Nat→Hp→Prop
 yld:Nat→Hp→V→Hp→Prop
 stop:Nat→Hp→Prop
noncomputable def FpOk (X:Cx) (pins:List (Addr×Obj)) (H:Hp) (b:Addr):Prop :=
 H b=none∧b≠X.env.locals∧b∉X.fs∧(b∈X.ex∨X.s₀.heap.objs.size≤b)∧(∀x c,X.env.cells.lookup x=some c→c≠b)∧∀p∈X.pn++pins,p.1≠b
theorem Inv.fpOk {X:Cx}{pins:List (Addr×Obj)}{σ:St}{H H':Hp}{s:zaw0}{b:Addr} (I:Inv X pins σ H s) (hb:s.heap.objs.size≤b) (hn:H' b=none):FpOk X pins H' b:=by
 refine⟨hn,zbd1 (zaw1 I.lt hb),I.nofs hb,.inr (zax3 I.sz hb),fun x c e z=>?_,fun p hp z=>?_⟩
 ·obtain⟨v,q⟩:=I.cell x c e
  exact absurd (zaw1 q.lt (by rw [z];exact hb)) (zaz8 _)
 ·exact absurd (zaw1 (zaw5 (I.pin p hp).1) (by rw [z];exact hb)) (zaz8 _)
structure Turn (P:Program) (w:World) (K:zau7) (tg:Expr) (J:It) (fp:List Addr) (it:Addr) (tn:Nat→Heap→Prop):Prop where
 mem:it∈fp
 obj:∀i h,tn i h→∀b∈fp,∃o,h.get? b=some o∧∀v,o.data≠.cell v
 keep:∀i h h',tn i h→(∀b∈fp,∀o,h.get? b=some o→h'.get? b=some o)→tn i h'
 item:∀(X:Cx),X.prog=P→X.w=w→X.K=K→X.calm=true→∀(i:Nat) (pins:List (Addr×Obj)) (s:zaw0) (σ:St) (H:Hp) (E:Value→zaw0→Prop),Inv X pins σ H s→(∀b∈fp,FpOk X pins H b)→tn i s.heap→J.go i H →
  wpAny (model P w) X.A (pyNext (.ref it)) (fun r s1 => ∃u,r=some u ∧
   wpAny (model P w) X.A (letOwnedTupleGo tg (.ref it) u) (fun _ s2 => ∃x H',Inv X pins σ H' s2∧RelV x u∧J.yld i H x H'∧tn (i+1) s2.heap∧∀b∈fp,H' b=none) E s1) E s
 done:∀(X:Cx),X.prog=P→X.w=w→X.K=K→X.calm=true→∀(i:Nat) (pins:List (Addr×Obj)) (s:zaw0) (σ:St) (H:Hp) (E:Value→zaw0→Prop),Inv X pins σ H s→(∀b∈fp,FpOk X pins H b)→tn i s.heap→J.stop i H →
  wpAny (model P w) X.A (pyNext (.ref it)) (fun r s1=>r=none∧Inv X pins σ H s1) E s
 self:∀(A:Around) (i:Nat) (s:zaw0) (Q:Value→zaw0→Prop) (E:Value→zaw0→Prop),tn i s.heap→Q (.ref it) s→wpAny (model P w) A (pyIter (.ref it)) Q E s
abbrev TI:=St→Hp→(It→Hp→Prop)→Prop
noncomputable def PIE (X:Cx) (pins:List (Addr×Obj)) (σ:St) (tg:Expr) (R:It→Hp→Prop) (itv:Value) (s2:zaw0):Prop :=
 ∃(it:Addr) (fp:List Addr) (tn:Nat→Heap→Prop) (J:It) (H':Hp),itv=.ref it∧Inv X pins σ H' s2∧Turn X.prog X.w X.K tg J fp it tn∧tn 0 s2.heap∧(∀b∈fp,FpOk X pins H' b)∧R J H'
noncomputable def PI (X:Cx) (tg iter:Expr) (wi:TI):Prop :=
 ∀(pins:List (Addr×Obj)) (s:zaw0) (σ:St) (H:Hp) (R:It→Hp→Prop),Inv X pins σ H s→wi σ H R →
  wpAny (model X.prog X.w) X.A (eval iter X.env) (fun v s1=>wpAny (model X.prog X.w) X.A (pyIter v) (PIE X pins σ tg R) X.xe s1) X.xe s
theorem go_of {M:Model}{A:Around}{E:Value→zaw0→Prop}{s:zaw0}{tg:Expr}{it:Addr}{u:Value}{o:Obj}{n:String}{vs:Array Value}{Q:Unit→zaw0→Prop} (ho:s.heap.get? it=some o) (hc:o.cls=.type n) (hd:o.data=.fields vs)
  (hn:["enumerate", "zip", "dict_itemiterator", "dict_reverseitemiterator", "odict_iterator", "itertools.zip_longest", "itertools.pairwise"].contains n=false) (hQ:Q () s):wpAny M A (letOwnedTupleGo tg (.ref it) u) Q E s:=by
 unfold letOwnedTupleGo
 cases tg<;>first
  |exact zax9 hQ
  |(cases u<;>first
    |exact zax9 hQ
    |(refine zaw3 (wpAny_load ho ?_)
      rw [hc,hd]
      show wpAny M A (if (["enumerate", "zip", "dict_itemiterator", "dict_reverseitemiterator", "odict_iterator", "itertools.zip_longest", "itertools.pairwise"].contains n&&vs[0]? == some (rawInt _))=true then _ else _) Q E s
      rw [if_neg (by intro h;rw [hn,Bool.false_and]at h;cases h)]
      exact zax9 hQ))
noncomputable def Itl (K:zau7) (a:Addr):It :=
 ⟨fun i H => ∃xs x,SqL K H a xs∧xs[i]?=some x,fun i H x H'=>H'=H∧∀xs,SqL K H a xs→xs[i]?=some x,fun i H => ∃xs,SqL K H a xs∧xs.length≤i⟩
def Itr (lo:Int) (n:Nat):It:=⟨fun i _=>i<n,fun i H x H'=>H'=H∧x=.int (lo+i),fun i _=>n≤i⟩
theorem zal3 {P:Program}{w:World}{K:zau7}{tg:Expr} (a it:Addr):Turn P w K tg (Itl K a) [it] it (fun i h=>h.IsListIter it a i) where
 mem:=by simp
 obj:=fun i h st b hb=>by
  have e:b=it:=by simpa using hb
  subst e
  obtain⟨o,e,c,d⟩:=st
  exact⟨o,e,fun v z=>by rw [d]at z;cases z⟩
 keep:=fun i h h' st k=>st.at fun o e=>k it (by simp) o e
 item:=by
  intro X hP hw hK hc i pins s σ H E I hf st hg
  subst hP hw hK
  obtain⟨xs,x,hq,hx⟩:=hg
  obtain⟨its,rv,p,hz⟩:=I.list hq
  obtain⟨u,hu,ru⟩:=rv.get hx
  obtain⟨f0,f1,f2,f3,f4,f5⟩:=hf it (by simp)
  refine wpAny_pyNext_list_item st p.isList (x:=u) (by simpa using hu) fun h' st' sb=>?_
  have I1:Inv X pins σ H { s with heap:=h' }:=I.turned (t':=s.toks) (fun b o hb e=>(sb.2 b hb).trans e) f0 f1 f3 f4 f5
  obtain⟨o,e,c,d⟩:=id st'
  exact⟨u,rfl,go_of (s:={ s with heap:=h' }) e c d (by decide) ⟨x,H,I1,ru,⟨rfl,fun ys hy=>by rw [I.list_inj hy hq];exact hx⟩,st',fun b hb=>(hf b hb).1⟩⟩
 done:=by
  intro X hP hw hK hc i pins s σ H E I hf st hg
  subst hP hw hK
  obtain⟨xs,hq,hx⟩:=hg
  obtain⟨its,rv,p,hz⟩:=I.list hq
  obtain⟨f0,f1,f2,f3,f4,f5⟩:=hf it (by simp)
  have hl:=rv.length
  exact wpAny_pyNext_list_end (I.ok.hd hc) st p.isList (by simp;lia) fun h' eb=>⟨rfl,I.turned (t':=s.toks) (fun b o hb e=>eb b o hb e) f0 f1 f3 f4 f5⟩
 self:=fun _ _ _ _ _ st h=>wpAny_pyIter_listiter st h
theorem zaj1 {P:Program}{w:World}{K:zau7}{tg:Expr} (it:Addr) (lo:Int) (n:Nat):Turn P w K tg (Itr lo n) [it] it (fun i h=>IsRangeIter h it (lo+(i:Nat)*1) ((n:Int) - (i:Nat)) 1) where
 mem:=by simp
 obj:=fun i h st b hb=>by
  have e:b=it:=by simpa using hb
  subst e
  exact⟨_,st,fun v z=>by
   have z':Data.fields _=Data.cell v:=z
   cases z'⟩
 keep:=fun i h h' st k=>k it (by simp) _ st
 item:=by
  intro X hP hw hK hc i pins s σ H E I hf st hg
  subst hP hw hK
  obtain⟨f0,f1,f2,f3,f4,f5⟩:=hf it (by simp)
  have W:=Walks.range (prog:=X.prog) (w:=X.w) (I.ok.hd hc) it lo 1 n
  refine W.item i s _ _ hg st fun v h' tk hv st' kk=>?_
  obtain⟨t,rfl⟩:=hv
  have I1:Inv X pins σ H { s with heap:=h',toks:=tk }:=I.turned (fun b o hb e=>kk b o (by simpa using hb) e) f0 f1 f3 f4 f5
  refine⟨_,rfl,go_of (s:={ s with heap:=h',toks:=tk }) (n := "range_iterator") st' rfl rfl (by decide) ⟨.int (lo+i),H,I1,⟨t,?_⟩,⟨rfl,rfl⟩,st',fun b hb=>(hf b hb).1⟩⟩
  rw [Int.mul_one]
 done:=by
  intro X hP hw hK hc i pins s σ H E I hf st hg
  subst hP hw hK
  obtain⟨f0,f1,f2,f3,f4,f5⟩:=hf it (by simp)
  exact wpAny_pyNext_range_end (I.ok.hd hc) st (by have:n≤i:=hg;lia) fun h' eb=>⟨rfl,I.turned (t':=s.toks) (fun b o hb e=>eb b o hb e) f0 f1 f3 f4 f5⟩
 self:=fun _ _ _ _ _ st h=>wpAny_pyIter_rangeiter st h
end L2
namespace L2
open PySem.Spec
section
variable {X:Cx}{tg:Expr}
def iList (K:zau7) (tl:TE):TI:=fun σ H R=>tl σ H fun x H1 => ∃a,x=.ref a∧(∃xs,SqL K H1 a xs)∧R (Itl K a) H1
theorem zan4 {l:Expr}{tl:TE} (hl:PE X l tl):PI X tg l (iList X.K tl):=by
 intro pins s σ H R I h
 refine thn (hl pins s σ H _ I h) fun v s1 ⟨x,H1,I1,r1,q1⟩=>?_
 obtain⟨a,e,⟨xs,hq⟩,q⟩:=q1
 subst e
 cases r1
 obtain⟨its,rv,p,hz⟩:=I1.list hq
 refine wpAny_pyIter_list p.isList ?_
 refine⟨s1.heap.objs.size,[s1.heap.objs.size],_,_,H1,rfl,I1.kept (t':=s1.toks) fun b o e=>zav8 _ e,zal3 a _,⟨_,zaz9 _ rfl,rfl,rfl⟩,fun b hb=>?_,q⟩
 have e:b=s1.heap.objs.size:=by simpa using hb
 subst e
 exact I1.fpOk (zaw9 _) (I1.hok.fresh (zaw9 _))
theorem zag9 {pins:List (Addr×Obj)}{σ:St}{H:Hp}{s:zaw0}{R:It→Hp→Prop}{E:Value→zaw0→Prop}{lo hi:Int}{t u v:Tok}{tk:Nat} (I:Inv X pins σ H s) (h1 : -(2 ^ 62)≤lo) (h2:lo<2 ^ 62) (h3 : -(2 ^ 62)≤hi) (h4:hi<2 ^ 62)
  (q:R (Itr lo (hi - lo).toNat) H):wpAny (model X.prog X.w) X.A (pyIter (.ref s.heap.objs.size)) (PIE X pins σ tg R) E { s with heap:=s.heap.push { cls:=.type "range",data:=.fields #[.int lo t,.int hi u,.int 1 v] },toks:=tk }:=by
 refine wpAny_pyIter_range (IsRange.new ..) (small_one h1 h2 h3 h4) ?_
 have I1:Inv X pins σ H { s with heap:=s.heap.push { cls:=.type "range",data:=.fields #[.int lo t,.int hi u,.int 1 v] },toks:=tk }:=I.kept fun b o e=>zav8 _ e
 refine⟨(s.heap.push { cls:=.type "range",data:=.fields #[.int lo t,.int hi u,.int 1 v] }).objs.size,[(s.heap.push { cls:=.type "range",data:=.fields #[.int lo t,.int hi u,.int 1 v] }).objs.size],_,_,H,rfl,
  I1.kept (t':=tk) fun b o e=>zav8 _ e,zaj1 _ lo (hi - lo).toNat,?_,fun b hb=>?_,q⟩
 ·have e1:lo+((0:Nat):Int)*1=lo:=by simp
  have e2:(((hi - lo).toNat:Nat):Int) - ((0:Nat):Int)=Builtin.Range.rangeSize lo hi 1:=by rw [rangeSize_one];split<;>lia
  show IsRangeIter _ _ (lo+((0:Nat):Int)*1) ((((hi - lo).toNat:Nat):Int) - ((0:Nat):Int)) 1
  rw [e1,e2]
  exact zaz9 _ rfl
 ·have e:b=(s.heap.push { cls:=.type "range",data:=.fields #[.int lo t,.int hi u,.int 1 v] }).objs.size:=by simpa using hb
  subst e
  exact I1.fpOk (zaw9 _) (I1.hok.fresh (zaw9 _))
def iRng1 (ta:TA):TI:=fun σ H R=>ta σ H fun vs H1 => ∃j:Int,vs=[.int j] ∧ -(2 ^ 62)≤j∧j<2 ^ 62∧R (Itr 0 j.toNat) H1
noncomputable def iRng2 (ta:TA):TI:=fun σ H R=>ta σ H fun vs H1 => ∃i j:Int,vs=[.int i,.int j]∧(-(2 ^ 62)≤i∧i<2 ^ 62 ∧ -(2 ^ 62)≤j∧j<2 ^ 62)∧R (Itr i (j - i).toNat) H1
theorem zz8 {a:Expr}{ta:TA}{p pos:Pos} (hg:Gl X "range") (hm:X.mg "range"=none) (ha:PA X [a] ta) (hs:zaw7 [a] X.env=[(false,eval a X.env)]:=by rfl):PI X tg (.Call (.Name "range" p) [a] [] pos) (iRng1 ta):=by
 intro pins s σ H R I h
 refine Call_ (zo9 I hg hm boot_range (PyProof.Rows.callWith_type1 (thn (ha pos pins s σ H _ I h) fun us s1 ⟨vs,H1,I1,r1,q1⟩=>?_) hs rfl))
 obtain⟨j,e,q1,q2,q⟩:=q1
 subst e
 cases r1 with
 |cons r rr =>
  cases rr
  obtain⟨t,rfl⟩:=r
  exact call_range_1 (zag9 I1 (by lia) (by lia) q1 q2 (by simpa using q))
theorem zan3 {a b:Expr}{ta:TA}{p pos:Pos} (hg:Gl X "range") (hm:X.mg "range"=none) (ha:PA X [a,b] ta) (hs:zaw7 [a,b] X.env=[(false,eval a X.env),(false,eval b X.env)]:=by rfl) (hs2:zaw7 [b] X.env=[(false,eval b X.env)]:=by rfl) :
  PI X tg (.Call (.Name "range" p) [a,b] [] pos) (iRng2 ta):=by
 intro pins s σ H R I h
 refine Call_ (zo9 I hg hm boot_range (PyProof.Rows.callWith_type1 (thn (ha pos pins s σ H _ I h) fun us s1 ⟨vs,H1,I1,r1,q1⟩=>?_) (by rw [hs,hs2]) (by rw [hs2];rfl)))
 obtain⟨i,j,e,⟨q1,q2,q3,q4⟩,q⟩:=q1
 subst e
 cases r1 with
 |cons r rr =>
  cases rr with
  |cons r' rr =>
   cases rr
   obtain⟨t,rfl⟩:=r
   obtain⟨t',rfl⟩:=r'
   exact call_range_2 (zag9 I1 q1 q2 q3 q4 q)
noncomputable def tFor (wi:TI) (g:TG) (tb:TS):TS:=fun D σ H=>wi σ H fun J H1 => ∃W:Nat→Nat→St→Hp→Prop,(∃m,W 0 m σ H1)∧∀i m σ H,W i m σ H →
 (J.stop i H∧D.nx σ H)∨(J.go i H∧∃N:St→Hp→Prop,(∀σ' H',N σ' H'→∃m',m' < m∧W (i+1) m' σ' H')∧∀x H',J.yld i H x H'→g x σ H' fun σ2 H2=>tb { D with nx:=N,ct:=N,bk:=D.nx } σ2 H2)
def zk9 (fp:List Addr) (h:Heap):List (Addr×Obj):=fp.filterMap fun b=>(h.get? b).map fun o=>(b,o)
theorem zd4 {fp:List Addr}{h:Heap}{b:Addr}{o:Obj} (hb:b∈fp) (e:h.get? b=some o):(b,o)∈zk9 fp h:=zbf2.mpr ⟨b,hb,by rw [e];rfl⟩
theorem zao1 {fp:List Addr}{h:Heap}{p:Addr×Obj} (hp:p∈zk9 fp h):p.1∈fp∧h.get? p.1=some p.2:=by
 obtain⟨b,hb,e⟩:=zbf2.mp hp
 cases q:h.get? b with
 |none=>rw [q]at e;cases e
 |some o =>
  rw [q]at e
  have e':(b,o)=p:=Option.some.inj e
  subst e'
  exact⟨hb,q⟩
theorem Inv.pinned {pins:List (Addr×Obj)}{σ:St}{H:Hp}{s:zaw0}{fp:List Addr} (I:Inv X pins σ H s) (hf:∀b∈fp,FpOk X pins H b) (ho:∀b∈fp,∃o,s.heap.get? b=some o∧∀v,o.data≠.cell v):Inv X (pins++zk9 fp s.heap) σ H s :=
 I.pins_of fun p hp=>(zav2.mp hp).elim (fun z=>I.pin p (zau6 _ z)) fun z=>by
  obtain⟨hb,e⟩:=zao1 z
  obtain⟨f0,f1,f2,_⟩:=hf p.1 hb
  obtain⟨o,e',d⟩:=ho p.1 hb
  rw [e]at e';cases e'
  exact⟨e,f0,f1,f2,d⟩
theorem Inv.unpinned {pins pl:List (Addr×Obj)}{σ:St}{H:Hp}{s:zaw0} (I:Inv X (pins++pl) σ H s):Inv X pins σ H s:=I.pins_of fun p hp=>I.pin p (zau6 _ (zau9 _ hp))
theorem zan0 {iter:Expr}{body:List Stmt}{wi:TI}{g:TG}{tb:TS}{pos:Pos} (hp:PassesOwn (model X.prog X.w) X.A X.env X.xe) (hc:X.calm=true) (hi:PI X tg iter wi) (hg:PG X tg g) (hb:PSs X body tb)
  (hs:∀x,foldedSetIterable iter X.env x=pure x:=by intro _;rfl):PS X (.For tg iter body [] pos) (tFor wi g tb):=by
 intro pins s σ H D I h
 refine wpAny_For (thn (hi pins s σ H _ I h) fun v s1 h1=>thn h1 fun itv s2 h2=>?_) hs
 obtain⟨it,fp,tn,J,H2,e,I2,T,st2,f2,W,⟨m0,w0⟩,turn⟩:=h2
 subst e
 -- what stays true of the iterator's objects through the loop
 have stat:∀ {H':Hp},(∀b∈fp,H' b=none)→∀b∈fp,FpOk X pins H' b:=fun hn b hb=>⟨hn b hb,(f2 b hb).2⟩
 refine codeAny_forLoop_any (fun n s' => ∃i σ' H',Inv X pins σ' H' s'∧tn i s'.heap∧(∀b∈fp,H' b=none)∧W i n σ' H') ?_ m0 ⟨0,σ,H2,I2,st2,fun b hb=>(f2 b hb).1,w0⟩
 rintro n s3 ⟨i,σ3,H3,I3,st3,fr3,w3⟩
 rcases turn i n σ3 H3 w3 with ⟨stop,qn⟩ | ⟨go,N,hN,step⟩
 ·refine wpAny_passesOwn hp (thn (T.done X rfl rfl rfl hc i pins s3 σ3 H3 X.xe I3 (stat fr3) st3 stop) fun r s4 ⟨hr,I4⟩=>?_)
  subst hr
  exact wpAny_execs_nil ⟨σ3,H3,I4,qn⟩
 ·refine wpAny_passesOwn hp (thn (T.item X rfl rfl rfl hc i pins s3 σ3 H3 X.xe I3 (stat fr3) st3 go) fun r s4 ⟨u,hr,h4⟩=>?_)
  subst hr
  refine wpAny_passesOwn hp (thn h4 fun _ s5 ⟨x,H5,I5,r5,y5,st5,fr5⟩=>?_)
  have I5':=I5.pinned (stat fr5) (T.obj _ _ st5)
  refine wpAny_passesOwn hp (thn (hg _ s5 σ3 H5 x u _ I5' r5 (step x H5 y5)) fun _ s6 ⟨σ6,H6,I6,q6⟩=>?_)
  refine wpAny_passesOwn hp (thn (hb _ s6 σ6 H6 _ I6 q6) fun f s7 q7=>?_)
  have again:∀ {σ7:St}{H7:Hp},Inv X (pins++zk9 fp s5.heap) σ7 H7 s7→N σ7 H7→∃m,m<n∧∃i σ' H',Inv X pins σ' H' s7∧tn i s7.heap∧(∀b∈fp,H' b=none)∧W i m σ' H':=fun {σ7 H7} I7 n7=>by
   obtain⟨m',hm,w7⟩:=hN σ7 H7 n7
   refine⟨m',hm,i+1,σ7,H7,I7.unpinned,T.keep _ _ _ st5 fun b hb o e=>(I7.pin (b,o) (zau6 _ (zau6 _ (zd4 hb e)))).1,fun b hb=>?_,w7⟩
   obtain⟨o,e,d⟩:=T.obj _ _ st5 b hb
   exact (I7.pin (b,o) (zau6 _ (zau6 _ (zd4 hb e)))).2.1
  cases f with
  |next=>obtain⟨σ7,H7,I7,n7⟩:=q7;exact again I7 n7
  |cont=>obtain⟨σ7,H7,I7,n7⟩:=q7;exact again I7 n7
  |brk=>obtain⟨σ7,H7,I7,q7⟩:=q7;exact⟨σ7,H7,I7.unpinned,q7⟩
  |ret v=>obtain⟨x7,σ7,H7,I7,r7,q7⟩:=q7;exact⟨x7,σ7,H7,I7.unpinned,r7,q7⟩
end
end L2
namespace L2
open PySem.Spec
abbrev R2:=V→V→Hp→VK→Prop
noncomputable def OpR (X:Cx) (f:Value→Value→Sem Value) (r:R2):Prop :=
 ∀(pins:List (Addr×Obj)) (s:zaw0) (σ:St) (H:Hp) (x y:V) (v u:Value) (Q:VK),Inv X pins σ H s→RelV x v→RelV y u→r x y H Q →
  wpAny (model X.prog X.w) X.A (f v u) (EP X pins σ Q) X.xe s
noncomputable def UnR (X:Cx) (f:Value→Sem Value) (r:V→Hp→VK→Prop):Prop :=
 ∀(pins:List (Addr×Obj)) (s:zaw0) (σ:St) (H:Hp) (x:V) (v:Value) (Q:VK),Inv X pins σ H s→RelV x v→r x H Q →
  wpAny (model X.prog X.w) X.A (f v) (EP X pins σ Q) X.xe s
noncomputable def zq6 (X:Cx) (f:Value) (r:List V→Hp→VK→Prop):Prop :=
 ∀(pins:List (Addr×Obj)) (s:zaw0) (σ:St) (H:Hp) (xs:List V) (us:List Value) (Q:VK),Inv X pins σ H s→Vals xs us→r xs H Q →
  wpAny (model X.prog X.w) X.A (call f us) (EP X pins σ Q) X.xe s
noncomputable def TruR (X:Cx) (r:V→Hp→(Bool→Hp→Prop)→Prop):Prop :=
 ∀(pins:List (Addr×Obj)) (s:zaw0) (σ:St) (H:Hp) (x:V) (v:Value) (Q:Bool→Hp→Prop),Inv X pins σ H s→RelV x v→r x H Q →
  wpAny (model X.prog X.w) X.A (truthy v) (TP X pins σ Q) X.xe s
def tOp (r:R2) (ta tb:TE):TE:=fun σ H Q=>ta σ H fun x H1=>tb σ H1 fun y H2=>r x y H2 Q
def tUn (r:V→Hp→VK→Prop) (ta:TE):TE:=fun σ H Q=>ta σ H fun x H1=>r x H1 Q
def rI (C:Int→Int→Prop) (g:Int→Int→V):R2:=fun x y H Q => ∃i j,x=.int i∧y=.int j∧C i j∧Q (g i j) H
def rI0 (g:Int→Int→V):R2:=fun x y H Q => ∃i j,x=.int i∧y=.int j∧Q (g i j) H
def rU (g:Int→V):V→Hp→VK→Prop:=fun x H Q => ∃i,x=.int i∧Q (g i) H
section
variable {X:Cx}{a b c:Expr}{ta tb tc:TE}{pos:Pos}
theorem binT (ha:PE X a ta) (hb:PE X b tb) {pins:List (Addr×Obj)}{s:zaw0}{σ:St}{H:Hp}{R:V→V→Hp→Prop} (I:Inv X pins σ H s)
  (h:ta σ H fun x H1=>tb σ H1 fun y H2=>R x y H2) {Q:Value→zaw0→Prop}{f:Value→Value→Sem Value}
  (hf:∀v u s2 x y H2,Inv X pins σ H2 s2→RelV x v→RelV y u→R x y H2→wpAny (model X.prog X.w) X.A (f v u) Q X.xe s2) :
  wpAny (model X.prog X.w) X.A (eval a X.env) (fun v s₁=>wpAny (model X.prog X.w) X.A (eval b X.env) (fun u s₂=>wpAny (model X.prog X.w) X.A (f v u) Q X.xe s₂) X.xe s₁) X.xe s:=by
 refine thn (ha pins s σ H _ I h) fun v s1 ⟨x,H1,I1,r1,q1⟩=>?_
 refine thn (hb pins s1 σ H1 _ I1 q1) fun u s2 ⟨y,H2,I2,r2,q2⟩=>?_
 exact hf v u s2 x y H2 I2 r1 r2 q2
theorem pe_un {op:UnaryOp}{r:V→Hp→VK→Prop} (ho:UnR X (unaryOp op) r) (ha:PE X a ta):PE X (.UnaryOp op a pos) (tUn r ta):=by
 intro pins s σ H Q I h
 exact UnaryOp_ (thn (ha pins s σ H _ I h) fun v s1 ⟨x,H1,I1,r1,q1⟩=>ho pins s1 σ H1 x v Q I1 r1 q1)
theorem opI {f:Value→Value→Sem Value}{C:Int→Int→Prop}{g:Int→Int→Int}
  (rule:∀(i j:Int) (t u:Tok) (s:zaw0) (Q:Value→zaw0→Prop) (E:Value→zaw0→Prop),C i j→Q (.int (g i j) s.toks) { s with toks:=s.toks+1 }→wpAny (model X.prog X.w) X.A (f (.int i t) (.int j u)) Q E s) :
  OpR X f (rI C fun i j=>.int (g i j)):=by
 intro pins s σ H x y v u Q I rx ry h
 obtain⟨i,j,rfl,rfl,hc,q⟩:=h
 obtain⟨t,rfl⟩:=rx
 obtain⟨t',rfl⟩:=ry
 exact rule i j t t' s _ _ hc ⟨.int (g i j),H,I.tok _,⟨_,rfl⟩,q⟩
theorem opI0 {f:Value→Value→Sem Value}{g:Int→Int→Int}
  (rule:∀(i j:Int) (t u:Tok) (s:zaw0) (Q:Value→zaw0→Prop) (E:Value→zaw0→Prop),Q (.int (g i j) s.toks) { s with toks:=s.toks+1 }→wpAny (model X.prog X.w) X.A (f (.int i t) (.int j u)) Q E s) :
  OpR X f (rI0 fun i j=>.int (g i j)):=by
 intro pins s σ H x y v u Q I rx ry h
 obtain⟨i,j,rfl,rfl,q⟩:=h
 obtain⟨t,rfl⟩:=rx
 obtain⟨t',rfl⟩:=ry
 exact rule i j t t' s _ _ ⟨.int (g i j),H,I.tok _,⟨_,rfl⟩,q⟩
theorem opB0 {f:Value→Value→Sem Value}{g:Int→Int→Bool}
  (rule:∀(i j:Int) (t u:Tok) (s:zaw0) (Q:Value→zaw0→Prop) (E:Value→zaw0→Prop),Q (.bool (g i j)) s→wpAny (model X.prog X.w) X.A (f (.int i t) (.int j u)) Q E s) :
  OpR X f (rI0 fun i j=>.bl (g i j)):=by
 intro pins s σ H x y v u Q I rx ry h
 obtain⟨i,j,rfl,rfl,q⟩:=h
 obtain⟨t,rfl⟩:=rx
 obtain⟨t',rfl⟩:=ry
 exact rule i j t t' s _ _ ⟨.bl (g i j),H,I,rfl,q⟩
theorem op_add:OpR X (binaryOp .Add) (rI0 fun i j=>.int (i+j)):=opI0 fun _ _ _ _ _ _ _ q=>add_int q
theorem op_modN:OpR X (binaryOp .Mod) (rI (fun _ j=>j≠0) fun i j=>.int (i.fmod j)):=opI fun _ _ _ _ _ _ _ hc q=>mod_int' hc q
theorem unI {f:Value→Sem Value}{g:Int→Int}
  (rule:∀(i:Int) (t:Tok) (s:zaw0) (Q:Value→zaw0→Prop) (E:Value→zaw0→Prop),Q (.int (g i) s.toks) { s with toks:=s.toks+1 }→wpAny (model X.prog X.w) X.A (f (.int i t)) Q E s) :
  UnR X f (rU fun i=>.int (g i)):=by
 intro pins s σ H x v Q I rx h
 obtain⟨i,rfl,q⟩:=h
 obtain⟨t,rfl⟩:=rx
 exact rule i t s _ _ ⟨.int (g i),H,I.tok _,⟨_,rfl⟩,q⟩
theorem un_neg:UnR X (unaryOp .USub) (rU fun i=>.int (-i)):=unI fun _ _ _ _ _ q=>neg_int q
end
noncomputable def scal:V→V→Bool
 |.non,.non=>true | .non,.int _=>true | .int _,.non=>true | .non,.bl _=>true | .bl _,.non=>true | .non,.str _=>true | .str _,.non=>true
 |.int _,.int _=>true | .bl _,.bl _=>true | .str _,.str _=>true | .byt _,.byt _=>true
 |.int _,.str _=>true | .str _,.int _=>true | .bl _,.str _=>true | .str _,.bl _=>true
 |_,_=>false
def rEq:R2:=fun x y H Q=>scal x y=true∧Q (.bl (decide (x=y))) H
def rNe:R2:=fun x y H Q=>scal x y=true∧Q (.bl (!decide (x=y))) H
theorem zar5 {i j:Int}:decide (V.int i=V.int j)=(i == j):=by
 rw [zba6]
 simp
theorem dec_bl {i j:Bool}:decide (V.bl i=V.bl j)=(i == j):=by
 rw [zba6]
 simp
theorem zar4 {i j:Str}:decide (V.str i=V.str j)=(i == j):=by
 rw [zba6]
 simp
theorem zar6 {i j:Array UInt8}:decide (V.byt i=V.byt j)=(i.toList == j.toList):=by
 rw [zba6]
 cases i
 cases j
 simp
section
variable {X:Cx}{a b c:Expr}{ta tb tc:TE}{pos:Pos}
theorem zd3 {pins:List (Addr×Obj)}{σ:St}{H:Hp}{s:zaw0}{Q:VK}{k k':Bool} (I:Inv X pins σ H s) (q:Q (.bl k) H) (e:k=k'):EP X pins σ Q (.bool k') s:=by
 subst e
 exact⟨.bl k,H,I,rfl,q⟩
theorem op_eq:OpR X (compareOp .Eq) rEq:=by
 intro pins s σ H x y v u Q I rx ry h
 obtain⟨hs,q⟩:=h
 cases x with
 |non =>
  cases rx
  cases y with
  |non=>cases ry;exact PySem.EqNone.eq_none_none (zd3 I q (by simp))
  |bl j=>cases ry;exact PySem.EqNone.eq_none_bool (zd3 I q (by simp))
  |int j=>obtain⟨t',rfl⟩:=ry;exact PySem.EqNone.eq_none_int (zd3 I q (by simp))
  |str j=>obtain⟨t',rfl⟩:=ry;exact PySem.EqNone.eq_none_str (zd3 I q (by simp))
  |_=>exact absurd (show false=true from hs) zaw4
 |bl i =>
  cases rx
  cases y with
  |non=>cases ry;exact PySem.EqNone.eq_bool_none (zd3 I q (by simp))
  |bl j=>cases ry;exact eq_bool (zd3 I q dec_bl)
  |str j=>obtain⟨t',rfl⟩:=ry;exact PySem.EqMixed.eq_bool_str (zd3 I q (by simp))
  |_=>exact absurd (show false=true from hs) zaw4
 |int i =>
  obtain⟨t,rfl⟩:=rx
  cases y with
  |non=>cases ry;exact PySem.EqNone.eq_int_none (zd3 I q (by simp))
  |int j=>obtain⟨t',rfl⟩:=ry;exact eq_int (zd3 I q zar5)
  |str j=>obtain⟨t',rfl⟩:=ry;exact PySem.EqMixed.eq_int_str (zd3 I q (by simp))
  |_=>exact absurd (show false=true from hs) zaw4
 |str i =>
  obtain⟨t,rfl⟩:=rx
  cases y with
  |non=>cases ry;exact PySem.EqNone.eq_str_none (zd3 I q (by simp))
  |bl j=>cases ry;exact PySem.EqMixed.eq_str_bool (zd3 I q (by simp))
  |int j=>obtain⟨t',rfl⟩:=ry;exact PySem.EqMixed.eq_str_int (zd3 I q (by simp))
  |str j=>obtain⟨t',rfl⟩:=ry;exact eq_str (zd3 I q zar4)
  |_=>exact absurd (show false=true from hs) zaw4
 |byt i =>
  obtain⟨t,rfl⟩:=rx
  cases y with
  |byt j=>obtain⟨t',rfl⟩:=ry;exact PySem.W.eq_bytes (zd3 I q zar6)
  |_=>exact absurd (show false=true from hs) zaw4
 |_=>cases y<;>exact absurd (show false=true from hs) zaw4
theorem op_ne:OpR X (compareOp .NotEq) rNe:=by
 intro pins s σ H x y v u Q I rx ry h
 obtain⟨hs,q⟩:=h
 cases x with
 |non =>
  cases rx
  cases y with
  |non=>cases ry;exact PySem.EqNone.ne_none_none (zd3 I q (by simp))
  |bl j=>cases ry;exact PySem.EqNone.ne_none_bool (zd3 I q (by simp))
  |int j=>obtain⟨t',rfl⟩:=ry;exact PySem.EqNone.ne_none_int (zd3 I q (by simp))
  |str j=>obtain⟨t',rfl⟩:=ry;exact PySem.EqNone.ne_none_str (zd3 I q (by simp))
  |_=>exact absurd (show false=true from hs) zaw4
 |bl i =>
  cases rx
  cases y with
  |non=>cases ry;exact PySem.EqNone.ne_bool_none (zd3 I q (by simp))
  |bl j=>cases ry;exact ne_bool (zd3 I q (congrArg not dec_bl))
  |str j=>obtain⟨t',rfl⟩:=ry;exact PySem.EqMixed.ne_bool_str (zd3 I q (by simp))
  |_=>exact absurd (show false=true from hs) zaw4
 |int i =>
  obtain⟨t,rfl⟩:=rx
  cases y with
  |non=>cases ry;exact PySem.EqNone.ne_int_none (zd3 I q (by simp))
  |int j=>obtain⟨t',rfl⟩:=ry;exact ne_int (zd3 I q (congrArg not zar5))
  |str j=>obtain⟨t',rfl⟩:=ry;exact PySem.EqMixed.ne_int_str (zd3 I q (by simp))
  |_=>exact absurd (show false=true from hs) zaw4
 |str i =>
  obtain⟨t,rfl⟩:=rx
  cases y with
  |non=>cases ry;exact PySem.EqNone.ne_str_none (zd3 I q (by simp))
  |bl j=>cases ry;exact PySem.EqMixed.ne_str_bool (zd3 I q (by simp))
  |int j=>obtain⟨t',rfl⟩:=ry;exact PySem.EqMixed.ne_str_int (zd3 I q (by simp))
  |str j=>obtain⟨t',rfl⟩:=ry;exact ne_str (zd3 I q (congrArg not zar4))
  |_=>exact absurd (show false=true from hs) zaw4
 |byt i =>
  obtain⟨t,rfl⟩:=rx
  cases y with
  |byt j=>obtain⟨t',rfl⟩:=ry;exact PySem.W.ne_bytes (zd3 I q (congrArg not zar6))
  |_=>exact absurd (show false=true from hs) zaw4
 |_=>cases y<;>exact absurd (show false=true from hs) zaw4
theorem op_lt:OpR X (compareOp .Lt) (rI0 fun i j=>.bl (decide (i<j))):=opB0 fun _ _ _ _ _ _ _ q=>lt_int q
theorem op_gt:OpR X (compareOp .Gt) (rI0 fun i j=>.bl (decide (j<i))):=opB0 fun _ _ _ _ _ _ _ q=>gt_int q
theorem nomark (b:Expr) {op:CmpOp} (h:op≠.In:=by decide) (h2:op≠.NotIn:=by decide):behindInMarks op b=false:=by
 have e1:(op == CmpOp.In)=false:=by cases op<;>first | rfl | exact absurd rfl h
 have e2:(op == CmpOp.NotIn)=false:=by cases op<;>first | rfl | exact absurd rfl h2
 cases b<;>simp [behindInMarks,e1,e2]
noncomputable def TruV (K:zau7) (x:V) (H:Hp) (k:Bool):Prop :=
 match x with
 |.non=>k=false
 |.bl b=>k=b
 |.int i=>k=(i != 0)
 |.str y=>y.length≤sizeLine∧k=((y.length:Int) != 0)
 |.byt y=>y.size≤sizeLine∧k=((y.size:Int) != 0)
 |.ref p=>(∃xs,SqL K H p xs∧k=!xs.isEmpty)∨(∃xs,SqT K H p xs∧k=!xs.isEmpty)∨∃kvs,H p=some (.dK kvs)∧k=!kvs.isEmpty
 |_=>False
theorem zak7 {κ:Type}{kvs:List (κ×V)}{vs:List (κ×Value)} (r:KV kvs vs):(!vs.isEmpty)=!kvs.isEmpty:=by
 cases r<;>rfl
theorem zw0 {xs:List V}{its:List Value} (r:Vals xs its):(!its.toArray.isEmpty)=!xs.isEmpty:=by
 cases r<;>simp
theorem zv8:(sizeLine:Nat)<2 ^ 63:=by rw [sizeLine_eq];decide
theorem tru_ok:TruR X (fun x H Q => ∃k,TruV X.K x H k∧Q k H):=by
 intro pins s σ H x v Q I rx h
 obtain⟨k,e,q⟩:=h
 have hl:=zv8
 have hs:sizeLine=16777216:=sizeLine_eq
 cases x with
 |non =>
  cases rx
  have e':k=false:=e
  subst e'
  exact truthy_none ⟨H,I,q⟩
 |bl b =>
  cases rx
  have e':k=b:=e
  subst e'
  exact wpAny_truthy_bool ⟨H,I,q⟩
 |int i =>
  obtain⟨t,rfl⟩:=rx
  have e':k=(i != 0):=e
  subst e'
  exact PySem.P.truthy_int ⟨H,I,q⟩
 |str y =>
  obtain⟨t,rfl⟩:=rx
  obtain⟨hy,e'⟩:y.length≤sizeLine∧k=((y.length:Int) != 0):=e
  subst e'
  exact PySem.P.truthy_str (by lia) ⟨H,I.tok _,q⟩
 |byt y =>
  obtain⟨t,rfl⟩:=rx
  obtain⟨hy,e'⟩:y.size≤sizeLine∧k=((y.size:Int) != 0):=e
  subst e'
  exact PySem.W.truthy_bytes (by lia) ⟨H,I.tok _,q⟩
 |ref p =>
  cases rx
  have e':(∃xs,SqL X.K H p xs∧k=!xs.isEmpty)∨(∃xs,SqT X.K H p xs∧k=!xs.isEmpty)∨∃kvs,H p=some (.dK kvs)∧k=!kvs.isEmpty:=e
  rcases e' with ⟨xs,hx,e'⟩ | ⟨xs,hx,e'⟩ | ⟨kvs,hx,e'⟩
  ·subst e'
   obtain⟨its,r,pl,hz⟩:=I.list hx
   have hlen:=r.length
   exact wpAny_truthy_list pl.isList (by simp only [zax1];lia) ⟨H,I.tok _,by rw [zw0 r];exact q⟩
  ·subst e'
   obtain⟨its,r,pl,hz⟩:=I.tuple hx
   have hlen:=r.length
   exact truthy_tuple pl (by simp only [zax1];lia) ⟨H,I.tok _,by rw [zw0 r];exact q⟩
  ·subst e'
   obtain⟨hz,hS,vs,r,m⟩:kvs.length≤sizeLine∧(p == sysModules)=false∧∃vs,KV kvs vs∧s.heap.DictOf (zf8 X.prog X.w) p vs:=I.hok p _ hx
   have hlen:kvs.length=vs.length:=Paired.length r
   exact wpAny_truthy_dict hS m (by lia) ⟨H,I.tok _,by rw [zak7 r];exact q⟩
 |_=>exact (show False from e).elim
theorem pt_truth (ha:PE X a ta) (he:∀whole,isTrue a X.env whole=(do let v ← whole;standAt a.pos;holding [v] (truthy v))) :
  PT X a (fun σ H Q=>ta σ H fun x H' => ∃k,TruV X.K x H' k∧Q k H'):=by
 intro pins s σ H Q I h
 exact isTrue_plain (thn (ha pins s σ H _ I h) fun v s1 ⟨x,H1,I1,r1,q1⟩=>tru_ok pins s1 σ H1 x v Q I1 r1 q1) (he _)
theorem zad4 {x:V}{us:List Value} (r:Vals [x] us):∃u,us=[u]∧RelV x u:=by
 cases r with
 |cons r1 r2=>cases r2;exact⟨_,rfl,r1⟩
theorem vals2 {x y:V}{us:List Value} (r:Vals [x,y] us):∃u w',us=[u,w']∧RelV x u∧RelV y w':=by
 cases r with
 |cons r1 r2 =>
  cases r2 with
  |cons r3 r4=>cases r4;exact⟨_,_,rfl,r1,r3⟩
theorem call_abs:zq6 X (.builtin "abs") (fun xs H Q => ∃i,xs=[.int i]∧Q (.int (if i<0 then -i else i)) H):=by
 intro pins s σ H xs us Q I r h
 obtain⟨i,rfl,q⟩:=h
 obtain⟨u,rfl,t,rfl⟩:=zad4 r
 exact call_abs_int fun u tk=>⟨.int (if i<0 then -i else i),H,I.tok _,⟨_,rfl⟩,q⟩
theorem zat6 (hc:X.calm=true):zq6 X (.builtin "min") (fun xs H Q => ∃i j,xs=[.int i,.int j]∧Q (.int (if j<i then j else i)) H):=by
 intro pins s σ H xs us Q I r h
 obtain⟨i,j,rfl,q⟩:=h
 obtain⟨u,w',rfl,⟨t,rfl⟩,⟨t',rfl⟩⟩:=vals2 r
 refine min_two_ints (I.ok.hd hc) fun h' tk k=>⟨_,H,I.kept k,?_,q⟩
 by_cases hj:j<i
 ·rw [if_pos hj,if_pos hj];exact⟨_,rfl⟩
 ·rw [if_neg hj,if_neg hj];exact⟨_,rfl⟩
end
end L2
namespace L2
open PySem.Spec
structure ObjM (h:Heap) (x dx C:Addr) (mA:Str→Option Value):Prop where
 obj:h.get? x=some (zbh7 C dx)
 ns:h.Ns1 dx mA
 ne:dx≠x
theorem zap2 {h:Heap}{dx:Addr}{mA:Str→Option Value} (n:h.Ns1 dx mA):∃od,h.get? dx=some od∧∀name,zbi4 name od=some (mA name):=by
 obtain⟨o,es,ep,ho,hd,hk,_,hm⟩:=n
 refine⟨o,ho,fun name=>?_⟩
 have e:=hm name
 unfold nsFind findBy at e
 rw [← Array.find?_toList]at e
 unfold zbi4
 rw [hd]
 dsimp only
 split
 ·rename_i y q
  rw [q]at e
  exact congrArg some e
 ·rename_i q
  rw [q]at e
  have a:es.toList.any (·.refKey)=false:=by
   rw [List.any_eq_false]
   intro y hy
   obtain⟨z,t,hkey⟩:=hk y (Array.mem_toList_iff.mp hy)
   simp [DictEntry.refKey,hkey]
  have a' : ¬ es.toList.any (·.refKey)=true:=by rw [a];exact zaw4
  rw [if_neg a']
  exact congrArg some e
theorem ObjM.look {h:Heap}{x dx C:Addr}{mA:Str→Option Value} (I:ObjM h x dx C mA):∃od,PySem.W.InstAt h x (zbh7 C dx) C (some od)∧∀name,zbi4 name od=some (mA name) :=
 let ⟨od,ho,hl⟩:=zap2 I.ns
 ⟨od,⟨I.obj,rfl,rfl,ho⟩,hl⟩
section
variable {prog:Program}{w:World}{A:Around}{E:Value→zaw0→Prop}{s:zaw0}{K:zau7}{x dx C f:Addr}{mA:Str→Option Value}{name:Str}{v:Value}
theorem get_map {expr:Bool}{Q:Value→zaw0→Prop} (X:K.In s.heap) (I:ObjM s.heap x dx C mA) (hg:zbj6 K C name=true) (hh:zbj1 K C=true)
  (ha:zbc7 K (.ref C) name=some none) (hv:mA name=some v) (hv':PySem.W.handedIn v=true) (h:Q v { s with toks:=s.toks+1 }) :
  wpAny (model prog w) A (getAttr (.ref x) name expr) Q E s:=by
 obtain⟨od,J,hl⟩:=I.look
 exact PySem.W.get_value X J (PySem.W.plainGet_of hg).1 (PySem.W.findObj_own hh ha rfl (by rw [hl,hv])) hv' h
end
theorem RelO.some_of {v:V}{o:Option Value} (r:RelO (some v) o):∃u,o=some u∧RelV v u:=by
 cases o with
 |none=>exact (show False from r).elim
 |some u=>exact⟨u,rfl,r⟩
structure Cls (K:zau7) (C:Addr):Prop where
 pg:zbj6 K C Str.empty=true
 hd:zbj1 K C=true
 po:PySem.W.plainOver K C=true
 sa:zbc7 K (.ref C) "__setattr__"=some (some (.builtin "object.__setattr__"))
structure Con (K:zau7) (C:Addr) (f:Str) (v:V) (u:Value):Prop where
 at_:zbc7 K (.ref C) f=some (some u)
 rel:RelV v u
 get:zbj2 K u "__get__"=some none
 cp:PySem.W.copiedNames.contains f=false
structure Meth (K:zau7) (C:Addr) (m:Str) (f:Addr):Prop where
 at_:zbc7 K (.ref C) m=some (some (.ref f))
 fn:PySem.W.isFn K (.ref f)=true
 kp:zaz0 K (.ref f)=true
section
variable {X:Cx}{pins:List (Addr×Obj)}{σ:St}{H:Hp}{s:zaw0}{A:Around}{E:Value→zaw0→Prop}{Q:Value→zaw0→Prop}{c:Value}{b:Bool}
inductive TyOf (K:zau7) (H:Hp):V→Value→Prop where
 |non:TyOf K H .non (.type "NoneType")
 |bl (x:Bool):TyOf K H (.bl x) (.type "bool")
 |int (i:Int):TyOf K H (.int i) (.type "int")
 |str (x:Str):TyOf K H (.str x) (.type "str")
 |flt (x:UInt64):TyOf K H (.flt x) (.type "float")
 |lst {a:Addr}{xs:List V} (e:H a=some (.lst xs)):TyOf K H (.ref a) (.type "list")
 |frz {a:Addr}{o:Obj}{xs:List V} (e:H a=some (.frz o (.lst xs))):TyOf K H (.ref a) (.type "list")
 |tup {a:Addr}{xs:List V} (e:H a=some (.tup xs)):TyOf K H (.ref a) (.type "tuple")
 |dK {a:Addr}{kvs:List (Key×V)} (e:H a=some (.dK kvs)):TyOf K H (.ref a) (.type "dict")
 |dT {a:Addr}{kvs:List (List Key×V)} (e:H a=some (.dT kvs)):TyOf K H (.ref a) (.type "dict")
 |ins {a C dx:Addr}{fs:List (Str×V)} (e:H a=some (.ins C dx fs)) (cl:Cls K C) (ha:zbc7 K (.ref C) "__class__"=some (some (.builtin "object.__class__")))
   (hn:zbj2 K (.builtin "object.__class__") "__get__"=some (some (.builtin "getset_descriptor.__get__"))) (htk:PySem.W.takesIn K (.builtin "object.__class__")=some true)
   (hm:PySem.W.mroIn K C (.type "object")=some true):TyOf K H (.ref a) (.ref C)
end
end L2
namespace L2
open PySem.Spec
structure Room (k:Nat) (A:Around):Prop where
 hd:A.handled=none
 dp:A.depth+3*k+5<recursionLimit
 un:A.units+16*k+200<cLine
theorem Room.mono {j k:Nat}{A:Around} (r:Room k A) (h:j≤k):Room j A:=⟨r.hd,by have:=r.dp;lia,by have:=r.un;lia⟩
theorem Room.deeper {k:Nat}{A:Around} (r:Room (k+1) A) (env:Env):Room k (A.deeper env) :=
 ⟨r.hd,by have:=r.dp;show A.depth+1+3*k+5<_;lia,by have:=r.un;show A.units+3+16*k+200<_;lia⟩
theorem Room.depth {k:Nat}{A:Around} (r:Room k A):A.depth<recursionLimit:=by have:=r.dp;lia
theorem Room.units {k:Nat}{A:Around} (r:Room k A):A.units+64<cLine:=by have:=r.un;lia
def tNil:TA:=fun _ H Q=>Q [] H
def tCons (ta:TE) (tr:TA):TA:=fun σ H Q=>ta σ H fun x H1=>tr σ H1 fun xs H2=>Q (x::xs) H2
section
variable {X:Cx}{e:Expr}{es:List Expr}{te:TE}{t:TA}{pos:Pos}
theorem zo5:PA X [] tNil:=fun _ _ _ _ H Q I h=>Calls.spliced_nil ⟨[],H,I,.nil,h⟩
theorem zi7 (ha:PE X e te) (hr:PA X es t) (hs:zaw7 (e::es) X.env=(false,eval e X.env)::zaw7 es X.env:=by rfl):PA X (e::es) (tCons te t):=by
 intro pos pins s σ H Q I h
 rw [hs]
 show wpAny _ _ (spliced ((false,eval e X.env)::zbd6 pos (zaw7 es X.env))) _ _ s
 refine Calls.spliced_cons (thn (ha pins s σ H _ I h) fun u s1 ⟨x,H1,I1,r1,q1⟩=>?_)
 exact thn (hr pos pins s1 σ H1 _ I1 q1) fun us s2 ⟨xs,H2,I2,r2,q2⟩=>⟨x::xs,H2,I2,.cons r1 r2,q2⟩
def tTup (t:TA):TE:=fun σ H Q=>t σ H fun xs H1=>xs.length≤sizeLine∧∀p,H1 p=none→Q (.ref p) (upd H1 p (.tup xs))
def tLst (t:TA):TE:=fun σ H Q=>t σ H fun xs H1=>xs.length≤sizeLine∧∀p,H1 p=none→Q (.ref p) (upd H1 p (.lst xs))
theorem pe_tup {x1} (h:PA X es t):PE X (.Tuple es x1 pos) (tTup t):=by
 intro pins s σ H Q I hq
 refine wpAny_Tuple_spliced (thn (h pos pins s σ H _ I hq) fun us s1 ⟨xs,H1,I1,r,z,q⟩=>⟨by rw [← r.length];exact z,?_⟩)
 have hf:H1 s1.heap.objs.size=none:=I1.hok.fresh (zaw9 _)
 refine⟨.ref s1.heap.objs.size,upd H1 s1.heap.objs.size (.tup xs),I1.laid (t':=s1.toks) (fun b u e=>zav8 _ e) (zaw9 _) ?_,rfl,q _ hf⟩
 exact⟨z,us,r,⟨_,zaz9 _ rfl,rfl,_,rfl⟩⟩
theorem pe_lst (h:PA X es t):PE X (.List es pos) (tLst t):=by
 intro pins s σ H Q I hq
 refine wpAny_List_spliced (thn (h pos pins s σ H _ I hq) fun us s1 ⟨xs,H1,I1,r,z,q⟩=>⟨by rw [← r.length];exact z,?_⟩)
 have hf:H1 s1.heap.objs.size=none:=I1.hok.fresh (zaw9 _)
 refine⟨.ref s1.heap.objs.size,upd H1 s1.heap.objs.size (.lst xs),I1.laid (t':=s1.toks) (fun b u e=>zav8 _ e) (zaw9 _) ?_,rfl,q _ hf⟩
 exact⟨z,us,0,r,zaz9 _ rfl⟩
end
abbrev Sp:=List V→Hp→VK→XK→Prop
abbrev CXT:=List Env→Hp→zaw0→XK→Value→zaw0→Prop
structure Env0 (P:Program) (w:World) (K:zau7) (mg:Str→Option Value) (base:BHeap) (A:Around) (outer:List Env) (s:zaw0) (H:Hp):Prop where
 frames:A.frames=some outer
 mod:Mod K mg base
 bs:∀b o,base.get? b=some o→s.heap.get? b=some o∧H b=none
 bsz:base.objs.size≤s.heap.objs.size
 funs:s.heap.FunFrames base outer
 frf:∀b∈frs outer,H b=none
 hok:HOk P w H s.heap
 bare:AllBare s.gens
 tabs:∀p∈base.tabs,H p.1=some (.tbl p.2)
noncomputable def CE (outer:List Env) (P:Program) (w:World) (H:Hp) (s:zaw0) (Q:VK) (u:Value) (s':zaw0):Prop :=
 ∃v H',s'.os=s.os∧AllBare s'.gens∧Un (frs outer) [] H H' s.heap s'.heap∧HOk P w H' s'.heap∧RelV v u∧Q v H'
noncomputable def CR (CX:CXT) (outer:List Env) (P:Program) (w:World) (H:Hp) (s:zaw0) (Q:VK) (E:XK) (r:Result) (s':zaw0):Prop :=
 match r with
 |.ok (.ret u)=>CE outer P w H s Q u s'
 |.ok _=>False
 |.error e=>CX outer H s E e s'
structure FnOk (P:Program) (w:World) (K:zau7) (mg:Str→Option Value) (base:BHeap) (CX:CXT) (k:Nat) (f:Addr) (fd:FuncData) (ps:List Str) (sp:Sp):Prop where
 len:∀vs H Q E,sp vs H Q E→vs.length=ps.length
 run:∀(A:Around) (outer:List Env) (s:zaw0) (H:Hp) (args:Args) (us:List Value) (vs:List V) (Q:VK) (E:XK),Room k A→Env0 P w K mg base A outer s H→BindsTo s fd args (ps.zip us)→Vals vs us→sp vs H Q E →
  codeAny (model P w) A (.call (.ref f) args) (CR CX outer P w H s Q E) s
theorem FnOk.imp {P:Program}{w:World}{K:zau7}{mg:Str→Option Value}{base:BHeap}{CX:CXT}{k:Nat}{f:Addr}{fd:FuncData}{ps:List Str}{sp sp':Sp} (F:FnOk P w K mg base CX k f fd ps sp)
  (h:∀vs H Q E,sp' vs H Q E→sp vs H Q E):FnOk P w K mg base CX k f fd ps sp' :=
 ⟨fun vs H Q E q=>F.len vs H Q E (h _ _ _ _ q),fun A outer s H args us vs Q E hr he hb hv hs=>F.run A outer s H args us vs Q E hr he hb hv (h _ _ _ _ hs)⟩
section
variable {X:Cx}{pins:List (Addr×Obj)}{σ:St}{H:Hp}{s s':zaw0}
theorem Inv.env0 (I:Inv X pins σ H s):Env0 X.prog X.w X.K X.mg X.base X.A X.stack s H :=
 ⟨I.ok.frames,I.ok.mod,I.bs,zax3 I.ok.bsz I.sz,I.stack,I.stkFree,I.hok,I.bare,fun p hp=>I.base.tbls _ _ (I.ok.tabs p hp)⟩
theorem Inv.after {Q:VK}{u:Value} (I:Inv X pins σ H s) (h:CE X.stack X.prog X.w H s Q u s'):EP X pins σ Q u s':=by
 obtain⟨v,H',os,bare,un,hok,r,q⟩:=h
 obtain⟨hh,g,d,t,os'⟩:=s'
 obtain rfl:os'=s.os:=os
 exact⟨v,H',I.call (h':=hh) (g':=g) (d':=d) (t':=t) (ch:=[]) un hok bare (fun b z=>absurd z (by simp)),r,q⟩
end
def tCall (sp:Sp) (dvs:List V) (E:XK) (t:TA):TE:=fun σ H Q=>t σ H fun vs H1=>sp (vs++dvs) H1 Q E
noncomputable def Binds (K:zau7) (fd:FuncData) (ps:List Str) (ds:List Value):Prop :=
 ∀(s:zaw0) (us:List Value),K.In s.heap→(us++ds).length=ps.length→BindsTo s fd ⟨us,[]⟩ (ps.zip (us++ds))
theorem Binds.all {K:zau7}{fd:FuncData}{ps:List Str} (h:∀us:List Value,us.length=ps.length→bindArgs fd ⟨us,[]⟩=pure (ps.zip us)):Binds K fd ps []:=fun s us _ hl=>by
 rw [zbd4]at hl ⊢
 exact .of_eq (h us hl)
noncomputable def zau5 (CX:CXT) (X:Cx) (E:XK):Prop := ∀(pins:List (Addr×Obj)) (σ:St) (H:Hp) (s:zaw0) (e:Value) (s':zaw0),Inv X pins σ H s→CX X.stack H s E e s'→X.xe e s'
section
variable {X:Cx}{CX:CXT}{k:Nat}{f C:Addr}{fd:FuncData}{ps:List Str}{sp:Sp}{dvs:List V}{ds:List Value}{E:XK}{x m:Str}{p pos apos:Pos}{e o:Expr}{es:List Expr}{ta:TE}{t:TA}
theorem run_fn {pins:List (Addr×Obj)}{σ:St}{H:Hp}{s:zaw0}{Q:VK}{us:List Value}{vs:List V} (F:FnOk X.prog X.w X.K X.mg X.base CX k f fd ps sp) (hr:Room k X.A) (hb:Binds X.K fd ps ds) (hd:Vals dvs ds) (hx:zau5 CX X E)
  (I:Inv X pins σ H s) (r:Vals vs us) (h:sp (vs++dvs) H Q E):wpAny (model X.prog X.w) X.A (call (.ref f) us) (EP X pins σ Q) X.xe s:=by
 have r2:Vals (vs++dvs) (us++ds):=r.append hd
 have hl:(us++ds).length=ps.length:=by rw [← r2.length];exact F.len _ _ _ _ h
 refine wpAny_call (codeAny_mono (F.run X.A X.stack s H ⟨us,[]⟩ (us++ds) (vs++dvs) Q E hr I.env0 (hb s us I.kIn hl) r2 h) fun r s' hq=>?_)
 cases r with
 |error e=>exact hx pins σ H s e s' I hq
 |ok fl =>
  cases fl with
  |ret u=>exact I.after hq
  |next=>exact False.elim hq
  |brk=>exact False.elim hq
  |cont=>exact False.elim hq
theorem pe_call (F:FnOk X.prog X.w X.K X.mg X.base CX k f fd ps sp) (hr:Room k X.A) (hg:Gl X x) (hm:X.mg x=some (.ref f)) (hk:zaz0 X.K (.ref f)=true) (hb:Binds X.K fd ps ds) (hd:Vals dvs ds) (hx:zau5 CX X E)
  (ha:PA X (e::es) t) (hdb:(x ==("__debug__":Str))=false:=by decide) (he:zaw7 (e::es) X.env=(false,eval e X.env)::zaw7 es X.env:=by rfl) (hpl:(zbd6 pos (zaw7 es X.env)).any (·.1)=false:=by rfl) :
  PE X (.Call (.Name x p) (e::es) [] pos) (tCall sp dvs E t):=by
 intro pins s σ H Q I h
 refine wpAny_Call_Name_kw (ld_glob I hg hm ?_ hdb)
 refine PySem.W.callWith_K (h₀:=X.base) I.ok.mod.kin hk (thn (ha pos pins s σ H _ I h) fun us s1 ⟨vs,H1,I1,r,q⟩=>⟨I1.kIn,?_⟩) he hpl
 exact run_fn F hr hb hd hx I1 r q
structure Mk (K:zau7) (C f:Addr):Prop where
 makes:PySem.W.makesIn K C=true
 init:zbc7 K (.ref C) "__init__"=some (some (.ref f))
 fn:PySem.W.isFn K (.ref f)=true
 kp:zaz0 K (.ref C)=true
end
section
variable {X:Cx}{CX:CXT}{k:Nat}{f C:Addr}{fd:FuncData}{ps ks:List Str}{sp:Sp}{E:XK}{x m:Str}{p pos apos kpos:Pos}{e o:Expr}{es:List Expr}{kws:List Keyword}{te ta:TE}{t tk:TA}{nm:Option Str}
structure KBinds (K:zau7) (fd:FuncData) (ps ks:List Str) (g:List Value→List Value→List Value) (gV:List V→List V→List V):Prop where
 to:∀(s:zaw0) (us ws:List Value),K.In s.heap→(g us ws).length=ps.length→BindsTo s fd ⟨us,ks.zip ws⟩ (ps.zip (g us ws))
 rel:∀ {vs:List V}{us:List Value}{zs:List V}{ws:List Value},Vals vs us→Vals zs ws→Vals (gV vs zs) (g us ws)
variable {g:List Value→List Value→List Value}{gV:List V→List V→List V}
end
structure FnScope (N P:List Str) (sc:Scope):Prop where
 kind:sc.kind=.function
 co:sc.isCoroutine=false
 gen:sc.isGenerator=false
 nd:N.Nodup
 pre:N.take P.length=P
 par:∀x∈P,sc.names.lookup x=some .local∨sc.names.lookup x=some .cell
 nofree:∀y∈sc.names,y.2≠.free
theorem zac9 {kindOf:Str→Option NameKind}{x:Str}:∀ {binds:List (Str×Value)}{m:Str→Option Value},(∀v,(x,v)∉binds)→bindL kindOf binds m x=m x
 |[],_,_=>rfl
 |(n,v)::r,m,h=>by
  unfold bindL
  rw [zac9 fun w hw=>h w (zau8 _ hw)]
  split
  ·have:x≠n:=by rintro rfl;exact h v zav1
   simp [this]
  ·rfl
theorem zad1 {kindOf:Str→Option NameKind}{x:Str}:∀ {binds:List (Str×Value)}{m:Str→Option Value},(∀v,(x,v)∉binds)→bindC kindOf binds m x=m x
 |[],_,_=>rfl
 |(n,v)::r,m,h=>by
  unfold bindC
  rw [zad1 fun w hw=>h w (zau8 _ hw)]
  split
  ·rfl
  ·have:x≠n:=by rintro rfl;exact h v zav1
   simp [this]
theorem zad0 {kindOf:Str→Option NameKind}{x:Str}{v:Value}:∀ {P:List Str}{vs:List Value}{i:Nat}{m:Str→Option Value},P.Nodup→P[i]?=some x→vs[i]?=some v→kindOf x=some .local →
  bindL kindOf (P.zip vs) m x=some v
 |[],_,_,_,_,h,_,_=>by simp at h
 |_::_,[],_,_,_,_,h,_=>by simp at h
 |p::P,w::vs,0,m,nd,h1,h2,hk=>by
  simp at h1 h2;subst h1;subst h2
  show bindL kindOf ((p,w)::P.zip vs) m p=_
  unfold bindL
  rw [zac9 fun v hv=>(zaw8.mp nd).1 (zbh8 hv).1,if_pos hk]
  simp
 |p::P,w::vs,i+1,m,nd,h1,h2,hk=>by
  show bindL kindOf ((p,w)::P.zip vs) m x=_
  unfold bindL
  exact zad0 (i:=i) (zaw8.mp nd).2 (by simpa using h1) (by simpa using h2) hk
theorem zad2 {kindOf:Str→Option NameKind}{x:Str}{v:Value}:∀ {P:List Str}{vs:List Value}{i:Nat}{m:Str→Option Value},P.Nodup→P[i]?=some x→vs[i]?=some v→kindOf x≠some .local →
  bindC kindOf (P.zip vs) m x=some v
 |[],_,_,_,_,h,_,_=>by simp at h
 |_::_,[],_,_,_,_,h,_=>by simp at h
 |p::P,w::vs,0,m,nd,h1,h2,hk=>by
  simp at h1 h2;subst h1;subst h2
  show bindC kindOf ((p,w)::P.zip vs) m p=_
  unfold bindC
  rw [zad1 fun v hv=>(zaw8.mp nd).1 (zbh8 hv).1,if_neg hk]
  simp
 |p::P,w::vs,i+1,m,nd,h1,h2,hk=>by
  show bindC kindOf ((p,w)::P.zip vs) m x=_
  unfold bindC
  exact zad2 (i:=i) (zaw8.mp nd).2 (by simpa using h1) (by simpa using h2) hk
def start (N:List Str) (vs:List V):St:=vs.map some++zav7 (N.length - vs.length) none
noncomputable def cxOf (CX:CXT) (P:Program) (w:World) (K:zau7) (mg:Str→Option Value) (base:BHeap) (N:List Str) (qual:Str) (scope:Scope) (f:Addr) (cd:Value) (A:Around) (outer:List Env) (s:zaw0) (H:Hp) (E:XK):Cx where
 prog:=P
 w:=w
 K:=K
 mg:=mg
 base:=base
 A:=A.deeper (envOfC qual scope s.heap.objs.size f cd)
 N:=N
 s₀:=s
 H₀:=H
 env:=envOfC qual scope s.heap.objs.size f cd
 outer:=outer
 stack:=envOfC qual scope s.heap.objs.size f cd::outer
 ex:=[]
 calm:=true
 fn:=fun _=>true
 pn:=[]
 xe:=fun e s'=>wpAny (model P w) (A.deeper (envOfC qual scope s.heap.objs.size f cd)) (leaving (envOfC qual scope s.heap.objs.size f cd) e) (fun _ s''=>CX outer H s E e s'') (fun e' s''=>CX outer H s E e' s'') s'
theorem zaj0 {sc:Scope}{n:Nat}{x:Str} (h:sc.names.lookup x=some .cell):∃c,(cellsFrom n sc.names []).lookup x=some c:=by
 have q:=zbg8 sc.names n [] (.inl h)
 exact Option.isSome_iff_exists.mp q
theorem zaq1 {CX:CXT}{P:Program}{w:World}{K:zau7}{mg:Str→Option Value}{base:BHeap}{N ps:List Str}{qual:Str}{scope:Scope}{f:Addr}{cd:Value}{A:Around}{outer:List Env}{s s1:zaw0}{H:Hp}{E:XK}{us:List Value}{vs:List V}
  (S:FnScope N ps scope) (hd:A.handled=none) (e0:Env0 P w K mg base A outer s H) (hl:vs.length=ps.length) (r:Vals vs us)
  (x:InCallC s s.heap.objs.size (bindL (envOfC qual scope s.heap.objs.size f cd).kindOf (ps.zip us) fun _=>none) (cellsFrom (s.heap.objs.size+1) scope.names []) (bindC (envOfC qual scope s.heap.objs.size f cd).kindOf (ps.zip us) fun _=>none) s1) :
  Inv (cxOf CX P w K mg base N qual scope f cd A outer s H E) [] (start N vs) H s1:=by
 have hpl:ps.length≤N.length:=by have:=congrArg List.length S.pre;rw [List.length_take]at this;lia
 obtain⟨h1,tk,rfl,hk⟩:=x.done
 have noA:∀b:Addr,b∉(cxOf CX P w K mg base N qual scope f cd A outer s H E).ex:=fun b z=>absurd (show b∈([]:List Addr) from z) (by simp)
 refine⟨⟨e0.mod,S.kind,rfl,rfl,zaw9 _,fun y z c h1 h2=>?_,fun y hy=>?_,fun y c _ h=>?_,fun _=>hd,Around.frames_deeper e0.frames,.inr ⟨rfl,rfl⟩,fun b z=>absurd z (noA b),e0.bs,e0.bsz,fun b _ _=>noA b,fun b z=>absurd z (noA b),e0.funs,e0.frf,e0.tabs⟩,
  rfl,e0.bare,Un.kept hk,⟨_,x.toInCall.ns,fun i y v h1 h2 h3=>?_⟩,fun y c h=>⟨_,x.cell y c h⟩,e0.hok.fresh (zaw9 _),fun y c h=>?_,fun p hp=>absurd (show p∈([]:List (Addr×Obj)) from hp) (by simp),e0.hok.kept hk,?_⟩
 ·exact name_of_addr x.apart (PySem.mem_of_lookup h1) (PySem.mem_of_lookup h2)
 ·have hy:scope.names.lookup y=some .cell∨scope.names.lookup y=some .free:=hy
  rcases hy with hy | hy
  ·exact zaj0 hy
  ·exact absurd rfl (S.nofree _ (PySem.mem_of_lookup hy))
 ·exact zbf6 (x.above y c (PySem.mem_of_lookup h))
 ·have hi:i<vs.length:=by
   unfold start at h2
   by_cases hi:i<vs.length
   ·exact hi
   ·rw [zaz1 (by simpa using hi)]at h2
    rw [zaz7]at h2
    split at h2<;>cases h2
  have ha:vs[i]?=some v:=by
   unfold start at h2
   rw [zaz3 (by simpa using hi),zay1]at h2
   cases e:vs[i]? with
   |none=>rw [e]at h2;cases h2
   |some a=>rw [e]at h2;cases h2;rfl
  obtain⟨u,hu,rv⟩:=r.get ha
  have hp:ps[i]?=some y:=by
   rw [← S.pre,List.getElem?_take_of_lt (by lia)];exact h1
  have ndP:ps.Nodup:=by rw [← S.pre];exact S.nd.sublist (List.take_sublist _ _)
  refine⟨u,rv,?_⟩
  rcases S.par y (zbi0 hp) with k | k
  ·exact .inl ⟨k,zad0 ndP hp hu k⟩
  ·obtain⟨c,e⟩:=zaj0 (n:=s.heap.objs.size+1) k
   refine .inr ⟨.inl k,c,e,?_⟩
   have q:=x.cell y c e
   rw [zad2 ndP hp hu (by show scope.names.lookup y≠_;rw [k];decide)]at q
   exact q
 ·exact e0.hok.fresh (zbf6 (x.above y c (PySem.mem_of_lookup h)))
 ·unfold start
  show _=N.length
  rw [zax2,zaw6,zba8]
  lia
theorem fn_of {CX:CXT}{P:Program}{w:World}{K:zau7}{mg:Str→Option Value}{base:BHeap}{k:Nat}{f:Addr}{name qual:Str}{params:Arguments}{body:List Stmt}{scope:Scope}{dV kV doc pm cdv ct oc:Value}{an od:Option Addr}
  {osl:Array (Option Value)}{N ps:List Str}{sp:Sp} (lk:K.lookup f=some ⟨oc,od,.func (zaz5 name qual params body scope dV kV doc pm an cdv ct),osl⟩) (hcd:zbf7 K cdv qual=true) (S:FnScope N ps scope)
  (len:∀vs H Q E,sp vs H Q E→vs.length=ps.length)
  (hbody:∀(A:Around) (outer:List Env) (s:zaw0) (H:Hp) (vs:List V) (Q:VK) (E:XK),Room k (A.deeper (envOfC qual scope s.heap.objs.size f cdv))→sp vs H Q E →
   ∃t,PSs (cxOf CX P w K mg base N qual scope f cdv A outer s H E) body t∧t { nx:=fun _ H'=>Q .non H',rt:=Q } (start N vs) H) :
  FnOk P w K mg base CX (k+1) f (zaz5 name qual params body scope dV kV doc pm an cdv ct) ps sp:=by
 refine⟨len,fun A outer s H args us vs Q E hr e0 hb r hsp=>?_⟩
 have hl:=len _ _ _ _ hsp
 have KX:K.In s.heap:=e0.mod.kin.keeps fun b o e=>(e0.bs b o e).1
 have lim:s.heap.NoLimit:=e0.mod.nolimit.keeps fun b o e=>(e0.bs b o e).1
 have hkind:∀y∈ps.zip us,scope.names.lookup y.1=some .local∨(scope.names.lookup y.1=some .cell∧((cellsFrom (s.heap.objs.size+1) scope.names []).lookup y.1).isSome=true):=fun ⟨n,v⟩ hy=>by
  rcases S.par n (zbh8 hy).1 with q | q
  ·exact .inl q
  ·exact .inr ⟨q,zbg8 _ _ _ (.inl q)⟩
 refine codeAny_call_function hr.depth (KX _ _ lk) rfl S.co S.gen rfl (PySem.W.codeRec_of KX hcd) (hb _ _ _ _ ?_)
 refine wpAny_newFunctionEnv_cells S.kind hkind fun env he s1 x=>?_
 subst he
 refine⟨lim.keeps x.toInCall.keep,codeAny_func ?_⟩
 obtain⟨t,ht,hq⟩:=hbody A outer s H vs Q E (hr.deeper _) hsp
 have I:Inv (cxOf CX P w K mg base N qual scope f cdv A outer s H E) [] (start N vs) H s1:=zaq1 S hr.hd e0 hl r x
 refine wpAny_mono (ht [] s1 (start N vs) H _ I hq) (fun fl s' hs=>?_) fun e s' hs=>hs
 have fin:∀ {σ':St}{H':Hp}{v:V}{u:Value},Inv (cxOf CX P w K mg base N qual scope f cdv A outer s H E) [] σ' H' s'→RelV v u→Q v H'→CE outer P w H s Q u s' :=
  fun {σ' H' v u} J rv q=>⟨v,H',J.os,J.bare,J.base,J.hok,rv,q⟩
 cases fl with
 |ret u =>
  obtain⟨v,σ',H',J,rv,q⟩:=hs
  exact fin J rv q
 |next =>
  obtain⟨σ',H',J,q⟩:=hs
  exact fin (v:=V.non) (u:=Value.none) J rfl q
 |brk =>
  obtain⟨_,_,_,q⟩:=hs
  exact False.elim q
 |cont =>
  obtain⟨_,_,_,q⟩:=hs
  exact False.elim q
end L2
namespace L2
open PySem.Spec
section
variable {X:Cx}{x:Str}{p pos:Pos}{e:Expr}{es:List Expr}{t:TA}{id T:String}{r:List V→Hp→VK→Prop}
def tCB (r:List V→Hp→VK→Prop) (t:TA):TE:=fun σ H Q=>t σ H fun vs H1=>r vs H1 Q
theorem pe_callB (hc:zq6 X (.builtin id) r) (hg:Gl X x) (hm:X.mg x=none) (hv:bootBuiltins x=some (.builtin id)) (ha:PA X (e::es) t) (hn:x≠"__name__":=by decide) (hdb:(x ==("__debug__":Str))=false:=by decide)
  (he:zaw7 (e::es) X.env=(false,eval e X.env)::zaw7 es X.env:=by rfl) (hpl:(zbd6 pos (zaw7 es X.env)).any (·.1)=false:=by rfl):PE X (.Call (.Name x p) (e::es) [] pos) (tCB r t):=by
 intro pins s σ H Q I h
 refine wpAny_Call_Name_kw (zo9 I hg hm hv ?_ hn hdb)
 exact PyProof.Rows.callWith_builtin1 (thn (ha pos pins s σ H _ I h) fun us s1 ⟨vs,H1,I1,r1,q1⟩=>hc pins s1 σ H1 vs us Q I1 r1 q1) he hpl
end
end L2
namespace L2
open PySem.Spec
abbrev TO:=St→Hp→(Option Int→Hp→Prop)→Prop
theorem zm2 {ns:List Int}:∀ {us:List Value},Vals (ns.map V.int) us→IntsAre us ns:=by
 induction ns with
 |nil=>intro us r;rw [zbj7]at r;cases r;exact .nil
 |cons n ns ih =>
  intro us r
  rw [zav6]at r
  cases r with
  |cons r1 r2 =>
   obtain⟨t,e⟩:=r1
   subst e
   exact .cons n t (ih r2)
noncomputable def ixN (n:Nat) (i:Int):Option Nat:=if 0≤i then (if i<n then some i.toNat else none) else if -(n:Int)≤i then some (i+n).toNat else none
def atI {α:Type} (xs:List α) (i:Int):Option α:=(ixN xs.length i).bind fun j=>xs[j]?
theorem zaq0 {n:Nat}{i:Int}{j:Nat} (h:ixN n i=some j):seqIndex? i n=some j∧j<n ∧ -(n:Int)≤i∧i<n:=by
 unfold ixN at h
 by_cases h0:0≤i
 ·rw [if_pos h0]at h
  by_cases h1:i<n
  ·rw [if_pos h1]at h
   have e:i.toNat=j:=Option.some.inj h
   exact⟨by rw [seqIndex_of h0 h1,e],by lia,by lia,h1⟩
  ·rw [if_neg h1]at h;cases h
 ·rw [if_neg h0]at h
  by_cases h1 : -(n:Int)≤i
  ·rw [if_pos h1]at h
   have e:(i+n).toNat=j:=Option.some.inj h
   exact⟨by rw [seqIndex_neg (by lia) h1,e],by lia,h1,by lia⟩
  ·rw [if_neg h1]at h;cases h
theorem zaf7 {α:Type}{xs:List α}{i:Int}{v:α} (h:atI xs i=some v):∃j,seqIndex? i xs.length=some j∧xs[j]?=some v∧j<xs.length ∧ -(xs.length:Int)≤i∧i<xs.length:=by
 unfold atI at h
 cases e:ixN xs.length i with
 |none=>rw [e]at h;cases h
 |some j =>
  rw [e]at h
  obtain⟨h1,h2,h3,h4⟩:=zaq0 e
  exact⟨j,h1,h,h2,h3,h4⟩
def zau4 (b:Expr):Prop := ∀o i,subscripted b false o i=operate [o,i] (getItem o i)
noncomputable def IxR (X:Cx) (r:R2):Prop :=
 ∀(value slice:Expr) (pins:List (Addr×Obj)) (s:zaw0) (σ:St) (H:Hp) (x y:V) (v u:Value) (Q:VK),Inv X pins σ H s→RelV x v→RelV y u→r x y H Q →
  subscripted slice false v u=operate [v,u] (getItem v u)→wpAny (model X.prog X.w) X.A (subscriptTail value slice v u) (EP X pins σ Q) X.xe s
noncomputable def MtR (X:Cx) (id:String) (r:V→List V→Hp→VK→Prop):Prop :=
 ∀(pins:List (Addr×Obj)) (s:zaw0) (σ:St) (H:Hp) (x:V) (xs:List V) (v:Value) (us:List Value) (Q:VK),Inv X pins σ H s→RelV x v→Vals xs us→r x xs H Q →
  wpAny (model X.prog X.w) X.A (call (.builtin id) (v::us)) (EP X pins σ Q) X.xe s
section
variable {X:Cx}{a b:Expr}{ta tb:TE}{pos:Pos}
theorem IxR.or {r r':R2} (h:IxR X r) (h':IxR X r'):IxR X (fun x y H Q=>r x y H Q∨r' x y H Q):=by
 intro value slice pins s σ H x y v u Q I rx ry q hs
 rcases q with q | q
 ·exact h value slice pins s σ H x y v u Q I rx ry q hs
 ·exact h' value slice pins s σ H x y v u Q I rx ry q hs
theorem pe_ix {r:R2} (hr:IxR X r) (ha:PE X a ta) (hb:PE X b tb) (hs:zau4 b):PE X (.Subscript a b pos) (tOp r ta tb):=by
 intro pins s σ H Q I h
 exact Subscript_ (binT ha hb I h fun v u s2 x y H2 I2 rx ry q=>hr a b pins s2 σ H2 x y v u Q I2 rx ry q (hs _ _))
def rIxL (K:zau7):R2:=fun x y H Q => ∃p xs i v,x=.ref p∧y=.int i∧SqL K H p xs∧atI xs i=some v∧Q v H
def rIxT (K:zau7):R2:=fun x y H Q => ∃p xs i v,x=.ref p∧y=.int i∧SqT K H p xs∧atI xs i=some v∧Q v H
theorem ix_list:IxR X (rIxL X.K):=by
 intro value slice pins s σ H x y v u Q I rx ry h hs
 obtain⟨p,xs,i,z,rfl,rfl,hq,he,q⟩:=h
 cases rx
 obtain⟨t,rfl⟩:=ry
 obtain⟨its,r,pl,hz⟩:=I.list hq
 obtain⟨j,h1,h2,h3,h4,h5⟩:=zaf7 he
 obtain⟨w,ew,rw'⟩:=r.get h2
 have hl:=r.length
 have hn:=zv8
 have fin:EP X pins σ Q w s:=⟨z,H,I,rw',q⟩
 by_cases h0:0≤i
 ·have hj:i.toNat=j:=by
   rw [seqIndex_of h0 h5]at h1
   exact Option.some.inj h1
  exact item_listR pl.isList h0 (by lia) (by rw [hj];simpa using ew) fin hs
 ·have hj:(i+(its.toArray.size:Int)).toNat=j:=by
   rw [seqIndex_neg (by lia) h4]at h1
   rw [zax1, ← hl]
   exact Option.some.inj h1
  exact subscriptTail_builtinR (x:=w) pl.isList.typeIs slot_list_getitem.lookup
   (wpAny_getItem_list_neg (Q:=fun r s'=>r=w∧EP X pins σ Q r s') pl.isList (by lia) (by rw [zax1]<;>lia) (by lia) (by rw [hj];simpa using ew) ⟨rfl,fin⟩) hs
theorem ix_tup:IxR X (rIxT X.K):=by
 intro value slice pins s σ H x y v u Q I rx ry h hs
 obtain⟨p,xs,i,z,rfl,rfl,hq,he,q⟩:=h
 cases rx
 obtain⟨t,rfl⟩:=ry
 obtain⟨its,r,pl,hz⟩:=I.tuple hq
 obtain⟨j,h1,h2,h3,h4,h5⟩:=zaf7 he
 obtain⟨w,ew,rw'⟩:=r.get h2
 have hl:=r.length
 have hn:=zv8
 have fin:EP X pins σ Q w s:=⟨z,H,I,rw',q⟩
 exact subscriptTail_builtinR (x:=w) pl.typeIs slot_tuple_getitem.lookup
  (getItem_tuple (j:=j) (Q:=fun r s'=>r=w∧EP X pins σ Q r s') pl (by lia) (by lia) (by rw [zax1, ← hl];exact h1) (by simpa using ew) ⟨rfl,fin⟩) hs
theorem zak3 (its:List Value) (n j:Nat) (u:Value):Obj.mapSeq (·.setIfInBounds j u) { cls:=.type "list",data:=.seq its.toArray n }={ cls:=.type "list",data:=.seq (its.set j u).toArray n }:=by
 simp [Obj.mapSeq]
theorem Inv.lst {pins:List (Addr×Obj)}{σ:St}{H:Hp}{s:zaw0}{p:Addr}{xs:List V} (I:Inv X pins σ H s) (h:H p=some (.lst xs)) :
  ∃(its:List Value) (n:Nat),Vals xs its∧s.heap.get? p=some { cls:=.type "list",data:=.seq its.toArray n }∧xs.length≤sizeLine:=by
 obtain⟨z,its,n,r,e⟩:=I.hok p _ h
 exact⟨its,n,r,e,z⟩
theorem Inv.lstUpd {pins:List (Addr×Obj)}{σ:St}{H:Hp}{s:zaw0}{p:Addr}{xs ys:List V}{its its':List Value}{n n':Nat}{f:Obj→Obj} (I:Inv X pins σ H s) (h:H p=some (.lst xs))
  (ho:s.heap.get? p=some { cls:=.type "list",data:=.seq its.toArray n }) (hf:f { cls:=.type "list",data:=.seq its.toArray n }={ cls:=.type "list",data:=.seq its'.toArray n' }) (r:Vals ys its') (hz:ys.length≤sizeLine) (t:Nat) :
  Inv X pins σ (upd H p (.lst ys)) { s with heap:=s.heap.update p f,toks:=t }:=by
 have e:(s.heap.update p f).get? p=some { cls:=.type "list",data:=.seq its'.toArray n' }:=by
  rw [Heap.get?_update_self f ho (by rw [hf]<;>rfl),hf]
 refine I.write (x:=p) (e:=p) (by rw [h];trivial) (.inl rfl) (fun b u hb q=>(zbg9 _ _ (Ne.symm hb)).trans q) ⟨_,e⟩ ?_
 exact⟨hz,its',n',r,e⟩
noncomputable def rSetL:V→V→V→Hp→(Hp→Prop)→Prop:=fun o i v H Q => ∃p xs k j,o=.ref p∧i=.int k∧H p=some (.lst xs)∧ixN xs.length k=some j∧Q (upd H p (.lst (xs.set j v)))
theorem set_list:PSet X rSetL:=by
 intro pins s σ H o i v ov iv u Q I ro ri rv h
 obtain⟨p,xs,k,j,rfl,rfl,hp,hj,q⟩:=h
 cases ro
 obtain⟨t,rfl⟩:=ri
 obtain⟨its,n,r,ho,hz⟩:=I.lst hp
 obtain⟨h1,h2,h3,h4⟩:=zaq0 hj
 have hl:=r.length
 have hn:=zv8
 have I':Inv X pins σ (upd H p (.lst (xs.set j v))) { s with heap:=s.heap.update p (Obj.mapSeq (·.setIfInBounds j u)) } :=
  I.lstUpd hp ho (zak3 its n j u) (r.set rv j) (by rw [List.length_set];exact hz) s.toks
 by_cases h0:0≤k
 ·have hk:k.toNat=j:=by
   rw [seqIndex_of h0 h4]at h1
   exact Option.some.inj h1
  exact PySem.W.ki_setAt ho h0 (by lia) (by rw [zax1, ← hl];exact h4) (by rw [hk];exact⟨_,I',q⟩)
 ·have hk:(k+(its.toArray.size:Int)).toNat=j:=by
   rw [seqIndex_neg (by lia) h3]at h1
   rw [zax1, ← hl]
   exact Option.some.inj h1
  exact PySem.W.ki_setBack ho (by lia) (by rw [zax1, ← hl];exact h3) (by lia) (by rw [hk];exact⟨_,I',q⟩)
def zp2:V→Bool
 |.non=>true
 |.bl _=>true
 |.int _=>true
 |.str _=>true
 |_=>false
noncomputable def eqV:V→V→Bool
 |.non,.non=>true
 |.bl a,.bl b=>a == b
 |.bl a,.int b=>(if a then 1 else 0) == b
 |.int a,.bl b=>a ==(if b then 1 else 0)
 |.int a,.int b=>a == b
 |.str a,.str b=>a == b
 |_,_=>false
theorem zar2 {A:Around}{s:zaw0}{y x:V}{u v:Value} (ry:RelV y u) (rx:RelV x v) (fy:zp2 y=true) (fx:zp2 x=true):SeqAt.EqAt A s u v (eqV y x):=by
 cases y with
 |non =>
  cases ry
  cases x with
  |non=>cases rx;exact SeqAt.EqAt.same _
  |bl b=>cases rx;exact SeqAt.EqAt.none_bool b
  |int b=>obtain⟨t,rfl⟩:=rx;exact SeqAt.EqAt.none_int b t
  |str b=>obtain⟨t,rfl⟩:=rx;exact SeqAt.EqAt.none_str b t
  |_=>exact absurd (show false=true from fx) zaw4
 |bl a =>
  cases ry
  cases x with
  |non=>cases rx;exact SeqAt.EqAt.bool_none a
  |bl b=>cases rx;exact SeqAt.EqAt.bool_bool a b
  |int b=>obtain⟨t,rfl⟩:=rx;exact SeqAt.EqAt.bool_int a b t
  |str b=>obtain⟨t,rfl⟩:=rx;exact SeqAt.EqAt.bool_str a b t
  |_=>exact absurd (show false=true from fx) zaw4
 |int a =>
  obtain⟨t',rfl⟩:=ry
  cases x with
  |non=>cases rx;exact SeqAt.EqAt.int_none a t'
  |bl b=>cases rx;exact SeqAt.EqAt.int_bool a t' b
  |int b=>obtain⟨t,rfl⟩:=rx;exact SeqAt.EqAt.int_int a t' b t
  |str b=>obtain⟨t,rfl⟩:=rx;exact SeqAt.EqAt.int_str a t' b t
  |_=>exact absurd (show false=true from fx) zaw4
 |str a =>
  obtain⟨t',rfl⟩:=ry
  cases x with
  |non=>cases rx;exact SeqAt.EqAt.str_none a t'
  |bl b=>cases rx;exact SeqAt.EqAt.str_bool a t' b
  |int b=>obtain⟨t,rfl⟩:=rx;exact SeqAt.EqAt.str_int a t' b t
  |str b=>obtain⟨t,rfl⟩:=rx;exact SeqAt.EqAt.str_str a t' b t
  |_=>exact absurd (show false=true from fx) zaw4
 |_=>exact absurd (show false=true from fy) zaw4
noncomputable def eqU (x:V) (u:Value):Bool:=match u with
 |.none=>eqV .non x
 |.bool b=>eqV (.bl b) x
 |.int i _=>eqV (.int i) x
 |.str z _=>eqV (.str z) x
 |_=>false
theorem eqU_of {x y:V}{u:Value} (r:RelV y u) (f:zp2 y=true):eqU x u=eqV y x:=by
 cases y with
 |non=>cases r;rfl
 |bl b=>cases r;rfl
 |int i=>obtain⟨t,rfl⟩:=r;rfl
 |str z=>obtain⟨t,rfl⟩:=r;rfl
 |_=>exact absurd (show false=true from f) zaw4
theorem zu9 {x:V}:∀ {xs:List V}{us:List Value},Vals xs us→xs.all zp2=true→us.any (eqU x)=xs.any fun y=>eqV y x
 |_,_,.nil,_=>rfl
 |y::xs,u::us,.cons r t,f=>by
  rw [zba0,zav3]at f
  rw [zba1,zba1,eqU_of r f.1,zu9 t f.2]
theorem zo7 {A:Around}{s:zaw0}{x:V}{v:Value} (rx:RelV x v) (fx:zp2 x=true):∀ {xs:List V}{us:List Value},Vals xs us→xs.all zp2=true→∀u∈us,SeqAt.EqAt A s u v (eqU x u)
 |_,_,.nil,_=>fun u hu=>by cases hu
 |y::xs,u::us,.cons r t,f=>fun u' hu=>by
  rw [zba0,zav3]at f
  rcases zav5.mp hu with rfl | hu
  ·rw [eqU_of r f.1];exact zar2 r rx f.1 fx
  ·exact zo7 rx fx t f.2 u' hu
def inV (x:V) (xs:List V):Bool:=xs.any fun y=>eqV y x
noncomputable def rIn (K:zau7) (neg:Bool):R2:=fun x y H Q => ∃p xs,y=.ref p∧(SqL K H p xs∨SqT K H p xs)∧zp2 x=true∧xs.all zp2=true∧Q (.bl (if neg then !inV x xs else inV x xs)) H
theorem zaa0:OpR X (compareOp .In) (rIn X.K false):=by
 intro pins s σ H x y v u Q I rx ry h
 obtain⟨p,xs,rfl,hq,fx,fs,q⟩:=h
 cases ry
 rcases hq with hq | hq
 ·obtain⟨its,r,pl,hz⟩:=I.list hq
  refine SeqAt.in_listAt (eqU x) pl.isList (fun w hw=>zo7 rx fx r fs w (by simpa using hw)) ⟨.bl _,H,I,rfl,?_⟩
  rw [show its.toArray.any (eqU x)=its.any (eqU x) by simp,zu9 r fs]
  exact q
 ·obtain⟨its,r,pl,hz⟩:=I.tuple hq
  refine SeqAt.in_tupleAt (eqU x) pl (fun w hw=>zo7 rx fx r fs w (by simpa using hw)) ⟨.bl _,H,I,rfl,?_⟩
  rw [show its.toArray.any (eqU x)=its.any (eqU x) by simp,zu9 r fs]
  exact q
theorem zq9:OpR X (compareOp .NotIn) (rIn X.K true):=by
 intro pins s σ H x y v u Q I rx ry h
 obtain⟨p,xs,rfl,hq,fx,fs,q⟩:=h
 cases ry
 rcases hq with hq | hq
 ·obtain⟨its,r,pl,hz⟩:=I.list hq
  refine SeqAt.notIn_listAt (eqU x) pl.isList (fun w hw=>zo7 rx fx r fs w (by simpa using hw)) ⟨.bl _,H,I,rfl,?_⟩
  rw [show its.toArray.any (eqU x)=its.any (eqU x) by simp,zu9 r fs]
  exact q
 ·obtain⟨its,r,pl,hz⟩:=I.tuple hq
  refine SeqAt.notIn_tupleAt (eqU x) pl (fun w hw=>zo7 rx fx r fs w (by simpa using hw)) ⟨.bl _,H,I,rfl,?_⟩
  rw [show its.toArray.any (eqU x)=its.any (eqU x) by simp,zu9 r fs]
  exact q
theorem zac7:zq6 X (.builtin "len") (fun xs H Q => ∃p ys,xs=[.ref p]∧(SqL X.K H p ys∨SqT X.K H p ys)∧Q (.int ys.length) H):=by
 intro pins s σ H xs us Q I r h
 obtain⟨p,ys,rfl,hq,q⟩:=h
 obtain⟨u,rfl,rx⟩:=zad4 r
 cases rx
 have hn:=zv8
 rcases hq with hq | hq
 ·obtain⟨its,r',pl,hz⟩:=I.list hq
  have hlen:=r'.length
  exact Calls.call_len_list pl.isList (by simp only [zax1]<;>lia) ⟨.int ys.length,H,I.tok _,⟨s.toks+1,by rw [zax1,hlen]⟩,q⟩
 ·obtain⟨its,r',pl,hz⟩:=I.tuple hq
  have hlen:=r'.length
  exact len_tuple pl (by simp only [zax1]<;>lia) ⟨.int ys.length,H,I.tok _,⟨s.toks+1,by rw [zax1,hlen]⟩,q⟩
theorem zac6:zq6 X (.type "list") (fun xs H Q => ∃p ys,xs=[.ref p]∧(SqL X.K H p ys∨SqT X.K H p ys)∧∀l,H l=none→Q (.ref l) (upd H l (.lst ys))):=by
 intro pins s σ H xs us Q I r h
 obtain⟨p,ys,rfl,hq,q⟩:=h
 obtain⟨u,rfl,rx⟩:=zad4 r
 cases rx
 have fin:∀(its:List Value),Vals ys its→ys.length≤sizeLine→∀(h':Heap) (c':Nat),(∀b o',s.heap.get? b=some o'→h'.get? b=some o') →
   h'.get? s.heap.objs.size=some { cls:=.type "list",dict:=none,data:=.seq its.toArray c',slots := #[] }→EP X pins σ Q (.ref s.heap.objs.size) { s with heap:=h' }:=fun its r' hz h' c' kp e =>
  ⟨.ref s.heap.objs.size,_,I.laid (t':=s.toks) kp (zaw9 _) (show ObjOk X.prog X.w _ h' _ (.lst ys) from ⟨hz,its,c',r',e⟩),rfl,q _ (I.hok.fresh (zaw9 _))⟩
 rcases hq with hq | hq
 ·obtain⟨its,r',pl,hz⟩:=I.list hq
  have hlen:=r'.length
  obtain⟨o,ho,hc,n,hd⟩:=pl.isList
  exact call_list_seq p (.inl rfl) ho hc hd (fun h' c' kp e=>fin its r' hz h' c' kp e) (by simp only [zax1]<;>lia)
 ·obtain⟨its,r',pl,hz⟩:=I.tuple hq
  have hlen:=r'.length
  obtain⟨o,ho,hc,n,hd⟩:=pl
  exact call_list_seq p (.inr rfl) ho hc hd (fun h' c' kp e=>fin its r' hz h' c' kp e) (by simp only [zax1]<;>lia)
noncomputable def tyV (K:zau7) (T:String) (x:V) (H:Hp):Prop:=match x with
 |.str _=>T = "str"
 |.int _=>T = "int"
 |.ref p=>(T = "list"∧∃xs,SqL K H p xs)∨(T = "tuple"∧∃o,K.lookup p=some o∧o.cls=.type "tuple"∧o.dict=none) ∨
   (T = "dict"∧((∃kvs,H p=some (.dK kvs))∨∃kvs,H p=some (.dT kvs)))∨(T = "set"∧∃S n,H p=some (.set S n))
 |_=>False
theorem tyV_is {pins:List (Addr×Obj)}{σ:St}{H:Hp}{s:zaw0}{T:String}{x:V}{v:Value} (I:Inv X pins σ H s) (r:RelV x v) (ty:tyV X.K T x H) :
  s.TypeIs v T∧∀a,v=.ref a→∃ob,s.heap.get? a=some ob∧ob.dict=none:=by
 cases x with
 |str z =>
  obtain⟨t,rfl⟩:=r
  cases (show T = "str" from ty)
  exact⟨typeIs_str s z t,fun _ e=>nomatch e⟩
 |int i =>
  obtain⟨t,rfl⟩:=r
  cases (show T = "int" from ty)
  exact⟨typeIs_int s i t,fun _ e=>nomatch e⟩
 |ref p =>
  cases r
  rcases ty with ⟨rfl,xs,hq⟩ | ⟨rfl,o,hk,hc,hd⟩ | ⟨rfl,hk⟩ | ⟨rfl,S,n,hk⟩
  ·obtain⟨its,_,pl,_⟩:=I.list hq
   refine⟨pl.isList.typeIs,fun a e=>?_⟩
   cases e
   obtain⟨o,n,e,c,hd,_⟩:=pl
   exact⟨o,e,hd⟩
  ·refine⟨⟨o,I.kIn p o hk,hc⟩,fun a e=>?_⟩
   cases e
   exact⟨o,I.kIn _ o hk,hd⟩
  ·have z:∃o,s.heap.get? p=some o∧o.ExactDict:=by
    rcases hk with ⟨kvs,hk⟩ | ⟨kvs,hk⟩
    ·obtain⟨_,_,_,_,o,_,_,e,ex,_⟩:=I.hok p _ hk
     exact⟨o,e,ex⟩
    ·obtain⟨_,_,_,_,o,_,_,e,ex,_⟩:=I.hok p _ hk
     exact⟨o,e,ex⟩
   obtain⟨o,e,ex⟩:=z
   refine⟨⟨o,e,ex.1⟩,fun a e2=>?_⟩
   cases e2
   exact⟨o,e,ex.2.1⟩
  ·obtain⟨o,_,_,_,e,ex,_⟩:=I.hok p _ hk
   refine⟨⟨o,e,ex.1⟩,fun a e2=>?_⟩
   cases e2
   exact⟨o,e,ex.2.1⟩
 |_=>exact False.elim ty
noncomputable def tBM (K:zau7) (T:String) (r:V→List V→Hp→VK→Prop) (to:TE) (t:TA):TE:=fun σ H Q=>to σ H fun x H1=>tyV K T x H1∧t σ H1 fun xs H2=>r x xs H2 Q
variable {o e:Expr}{es:List Expr}{to:TE}{t:TA}{name:Str}{apos cpos:Pos}{T id:String}{r:V→List V→Hp→VK→Prop}
theorem pe_bm (pa:PlainAttrs T) (slot:Slot T name id) (hty:typeOf (.builtin id)=pure (.type "method_descriptor")) (hm:MtR X id r) (ho:PE X o to) (ha:PA X (e::es) t)
  (hbase:attributeBase o name X.env (eval o X.env)=eval o X.env:=by rfl)
  (hfew:((zbd6 cpos (zaw7 (e::es) X.env)).all (fun x=>!x.1)&&(backToKw cpos (keywordEach [] X.env)).all (fun x=>x.1.isSome)
   && decide ((e::es).length+([]:List Keyword).length+(if ([]:List Keyword).isEmpty then 0 else 1)<30))=true:=by rfl)
  (hline:(apos.endLine == cpos.line)=true:=by rfl) (hs:zaw7 (e::es) X.env=(false,eval e X.env)::zaw7 es X.env:=by rfl) (hplain:(zbd6 cpos (zaw7 es X.env)).any (·.1)=false:=by rfl) :
  PE X (.Call (.Attribute o name apos) (e::es) [] cpos) (tBM X.K T r to t):=by
 intro pins s σ H Q I h
 refine wpAny_Call_method_late hbase hfew hline rfl (thn (ho pins s σ H _ I h) fun v s1 ⟨x,H1,I1,r1,ty,q1⟩=>?_)
 obtain⟨h1,h2⟩:=tyV_is I1 r1 ty
 refine⟨T,id,pa,slot,hty,h1,h2,?_⟩
 have hA:=ha cpos pins s1 σ H1 _ I1 q1
 rw [hs]at hA ⊢
 refine Calls.callWith_builtin (by show (false||(zbd6 cpos (zaw7 es X.env)).any (·.1))=false;rw [hplain]<;>rfl) (Calls.evalArgs_plain ?_)
 exact thn hA fun us s2 ⟨vs,H2,I2,r2,q2⟩=>hm pins s2 σ H2 x vs v us Q I2 r1 r2 q2
end
end L2
namespace L2
open PySem.Spec
noncomputable def MtM (X:Cx) (id:String) (r:V→List V→Hp→VK→Prop):Prop :=
 ∀(pins:List (Addr×Obj)) (s:zaw0) (σ:St) (H:Hp) (x:V) (xs:List V) (v:Value) (us:List Value) (Q:VK),Inv X pins σ H s→RelV x v→Vals xs us→r x xs H Q →
  wpAny (model X.prog X.w) X.A (call (.builtin id) (v::us)) (EP X pins σ Q) X.xe s
theorem Vals.one:∀ {x:V}{us:List Value},Vals [x] us→∃u,us=[u]∧RelV x u
 |_,_,.cons r .nil=>⟨_,rfl,r⟩
theorem Vals.two:∀ {x y:V}{us:List Value},Vals [x,y] us→∃u v,us=[u,v]∧RelV x u∧RelV y v
 |_,_,_,.cons r (.cons q .nil)=>⟨_,_,rfl,r,q⟩
theorem Vals.rep {xs:List V}{us:List Value} (h:Vals xs us):∀k:Nat,Vals (zav7 k xs).flatten (zav7 k us).flatten
 |0=>.nil
 |k+1=>by
  rw [zay7,zay7,zbc4,zbc4]
  exact Vals.append h (Vals.rep h k)
theorem zab6 (its:List Value):∀(k:Nat) (acc:List Value),
  zbn5 (fun x1 x2=>x1++x2) acc.toArray (zav7 k its.toArray)=(acc++(zav7 k its).flatten).toArray
 |0,acc=>by simp
 |k+1,acc=>by
  have e:acc.toArray++its.toArray=(acc++its).toArray:=by simp
  have e2:(acc++its)++(zav7 k its).flatten=acc++(zav7 (k+1) its).flatten:=by
   rw [zay7,zbc4,zbj3]
  rw [← e2, ← zab6 its k (acc++its), ← e,zay7,zbe7]
section
variable {X:Cx}{pins:List (Addr×Obj)}{σ:St}{H:Hp}{s:zaw0}{l b:Addr}{xs ys zs:List V}
theorem Inv.lset {its its':List Value}{n:Nat}{f:Array Value→Array Value}{t':Nat} (I:Inv X pins σ H s) (hH:H l=some (.lst xs))
  (e:s.heap.get? l=some { cls:=.type "list",data:=.seq its.toArray n }) (hf:f its.toArray=its'.toArray) (hv:Vals ys its') (hz:ys.length≤sizeLine) :
  Inv X pins σ (upd H l (.lst ys)) { s with heap:=s.heap.update l (Obj.mapSeq f),toks:=t' }:=by
 have q:=PySem.IsL.update e f
 rw [hf]at q
 refine I.write (x:=l) (e:=l) (by rw [hH];exact trivial) (.inl rfl) (fun b' u hb hu=>(zbg9 s.heap (Obj.mapSeq f) (Ne.symm hb)).trans hu) ⟨_,q⟩ ?_
 exact⟨hz,its',_,hv,q⟩
theorem Inv.lnew {its:List Value}{t':Nat} (I:Inv X pins σ H s) (hv:Vals ys its) (hz:ys.length≤sizeLine) :
  Inv X pins σ (upd H s.heap.objs.size (.lst ys)) { s with heap:=s.heap.push { cls:=.type "list",data:=.seq its.toArray },toks:=t' } :=
 I.laid (fun _ _ q=>zav8 _ q) (zaw9 _) ⟨hz,its,0,hv,zaz9 _ rfl⟩
theorem Inv.fresh (I:Inv X pins σ H s):H s.heap.objs.size=none:=I.hok.fresh (zaw9 _)
theorem Inv.lstM (I:Inv X pins σ H s) (hH:H l=some (.lst xs)):xs.length≤sizeLine∧∃(its:List Value) (n:Nat),Vals xs its∧xs.length=its.length∧s.heap.get? l=some { cls:=.type "list",data:=.seq its.toArray n }:=by
 obtain⟨z,its,n,r,e⟩:=I.hok l _ hH
 exact⟨z,its,n,r,r.length,e⟩
theorem notLongL {n:Nat} (h:n≤sizeLine):Builtin.List.listTooLong n=false:=by
 unfold Builtin.List.listTooLong
 exact decide_eq_false (by lia)
end
section
variable {X:Cx}
noncomputable def rAppend:V→List V→Hp→VK→Prop:=fun x vs H Q => ∃l xs y,x=.ref l∧vs=[y]∧H l=some (.lst xs)∧xs.length<sizeLine∧Q .non (upd H l (.lst (xs++[y])))
theorem zt1:MtM X "list.append" rAppend:=by
 intro pins s σ H x vs v us Q I rx rv h
 obtain⟨l,xs,y,rfl,rfl,hH,hz,q⟩:=h
 cases rx
 obtain⟨u,rfl,ru⟩:=rv.one
 obtain⟨z,its,n,r,hl,e⟩:=I.lstM hH
 refine call_meets F.slot_list_append ⟨_,e,rfl⟩ F.entry_list_append (F.args_list_append_2 _ _) (PySem.list_append l its.toArray n u (by rw [zax1];lia)) ⟨e,?_⟩
 refine⟨.non,_,I.lset (its':=its++[u]) hH e (by simp) (r.append (.cons ru .nil)) ?_,rfl,q⟩
 rw [zax2,zay8]
 lia
noncomputable def rRep:R2:=fun x y H Q => ∃l k xs,x=.ref l∧y=.int k∧H l=some (.lst xs) ∧ -(2 ^ 63)≤k∧k<2 ^ 63∧xs.length*k.toNat≤sizeLine ∧
 ∀p,H p=none→Q (.ref p) (upd H p (.lst (zav7 k.toNat xs).flatten))
theorem len_rep {α:Type} (xs:List α) (k:Nat):(zav7 k xs).flatten.length=k*xs.length:=by
 induction k with
 |zero=>simp
 |succ k ih=>rw [zay7,zbc4,zax2,ih,Nat.succ_mul,Nat.add_comm]
theorem op_rep:OpR X (binaryOp .Mult) rRep:=by
 intro pins s σ H x y v u Q I rx ry h
 obtain⟨l,k,xs,rfl,rfl,hH,h1,h2,hz,q⟩:=h
 cases rx
 obtain⟨t,rfl⟩:=ry
 obtain⟨z,its,n,r,hl,e⟩:=I.lstM hH
 have hlen:its.toArray.size*k.toNat≤sizeLine:=by rw [zax1, ← hl];exact hz
 have hcap : ¬ its.toArray.size*k.toNat >(2 ^ 63 - 1) / 8:=by
  have:(sizeLine:Nat)≤(2 ^ 63 - 1) / 8:=by decide
  lia
 have hfit : ¬ (!Builtin.List.listFitsIndex k)=true:=by
  rw [fitsIndex_both h1 h2]
  exact zaw4
 have hlong : ¬ Builtin.List.listTooLong (its.toArray.size*k.toNat)=true:=by
  rw [notLongL hlen]
  exact zaw4
 have hnew:zbn5 (fun x1 x2=>x1++x2) #[] (zav7 (if its.toArray.isEmpty=true then 0 else k.toNat) its.toArray)=(zav7 k.toNat its).flatten.toArray:=by
  have f0:∀m:Nat,zbn5 (fun x1 x2=>x1++x2) #[] (zav7 m its.toArray)=(zav7 m its).flatten.toArray:=fun m=>by
   have:=zab6 its m []
   rw [List.nil_append]at this
   exact this
  rw [f0]
  cases its with
  |nil=>simp
  |cons a r'=>rw [if_neg (by simp)]
 refine wpAny_binaryOp_repeat_ref (T := "list") (U := "int") (by decide) ⟨_,e,rfl⟩ (fun s'=>typeIs_int s' k t) noFill_list_mul F.fills_int_mul F.slot_int_rmul repeat_list F.slot_int_index.lookup
  (call_meets F.slot_int_rmul (typeIs_int s k t) F.entry_int_rmul (F.args_int_rmul_2 _ _) (int___rmul___int_list k t l its.toArray n)
   ⟨e,rfl,⟨_,e,rfl⟩,call_meets F.slot_list_mul ⟨_,e,rfl⟩ F.entry_list_mul (F.args_list_mul_2 _ _) (AutoListH.list___mul___list_int_3 l its.toArray n k t hfit hcap hlong) ⟨e,?_⟩⟩)
 rw [hnew]
 exact⟨.ref _,_,I.lnew (t':=s.toks) (r.rep k.toNat) (by rw [len_rep,zbc5];exact hz),rfl,q _ I.fresh⟩
end
end L2
namespace Att
open PySem.W PySem.Calls
theorem zt5 {P:Params}{h:Heap}:∀(ns:List Int) (vs:List Value),WellAll P h vs (ns.map WData.int)→IntsAre vs ns:=by
 intro ns
 induction ns with
 |nil =>
  intro vs w
  rw [zbj7]at w
  cases w
  exact .nil
 |cons n ns ih =>
  intro vs w
  rw [zav6]at w
  cases w with
  |cons a b =>
   cases a
   exact .cons _ _ (ih _ b)
theorem script_of {l:OpenLaw}{n:Nat} (hn:l.most=some n) {P:Params}{h:Heap}{args:List WData}{vals:List Value}
  (hpre:l.row.toRowW.claim.pre args=true) (hwl:WellAll P h vals args) :
  ∃a vs ns,vals=[Value.ref a]∧args=[WData.list (ns.map WData.int)]∧h.get? a=some { cls:=.type "list",data:=.seq vs.toArray }∧IntsAre vs ns∧ns.length≤n:=by
 have hsh:WShape.hasAll [] args [.list .int]=true:=(pre_splitW hpre).1
 have hc:l.pre.holds [] { args:=args }=true:=(pre_splitW hpre).2
 obtain⟨d,r,rfl,h1,h2⟩:=hasAllW_cons hsh
 obtain rfl:=hasAllW_nil h2
 obtain⟨xs,rfl,h3⟩:=hasW_list h1
 obtain⟨ns,rfl⟩:=items_int h3
 have hlen:ns.length≤n:=by
  unfold OpenLaw.pre at hc
  have h4:(WTm.not (.lt (.lit (.int (n:Int))) (.len (.arg 0)))).holds [] { args:=[.list (ns.map .int)] }=true:=by
   have h4:=(holds_andW hc).1
   rw [hn]at h4
   exact h4
  have h5:=condW_of h4 (w_not (w_lt w_lit (w_len_list (w_arg rfl))))
  rw [zaw6]at h5
  refine Nat.le_of_not_lt fun q=>?_
  have q':(n:Int)<((ns.length:Nat):Int):=by lia
  first
   |(rw [decide_eq_true q']at h5;exact absurd h5 (by decide))
   |(simp at h5;lia)
 cases hwl with
 |cons w1 w2 =>
  cases w2
  cases w1 with
  |list ho hall=>exact⟨_,_,ns,rfl,rfl,ho,zt5 ns _ hall,hlen⟩
theorem post_true (l:OpenLaw) (args:List WData):l.row.toRowW.claim.post args (.bool true) args=true :=
 postW_of (r:=l.row.toRowW) (X:=(true == true))
  (show WShape.has [] (.bool true) .bool=true by first | rfl | decide | simp [WShape.has,WShape.arms,WShape.armsAll])
  (show (WTm.eq .res (.lit (.bool true))).value [] { args:=args,res:=some (.bool true),after:=args }=some (.bool (true == true)) from w_eq_bool (w_res rfl) w_lit) rfl
end Att
namespace L2
open PySem.Spec
theorem zs6:∀ {vs:List Value}{ns:List Int},IntsAre vs ns→Vals (ns.map V.int) vs
 |_,_,.nil=>.nil
 |_,_,.cons n t h=>.cons ⟨t,rfl⟩ (zs6 h)
noncomputable def zi8 (s:Stmt):Arguments:=match s with
 |.FunctionDef _ a _ _ _ _ _ _ _ _=>a
 |_=>{ posonlyargs:=[],args:=[],vararg:=none,kwonlyargs:=[],kw_defaults:=[],kwarg:=none,defaults:=[] }
def zh5 (s:Stmt):List Stmt:=match s with
 |.FunctionDef _ _ b _ _ _ _ _ _ _=>b
 |_=>[]
noncomputable def zb6 (s:Stmt):Scope:=match s with
 |.FunctionDef _ _ _ _ _ _ sc _ _ _=>sc
 |_=>{ kind:=.function,names:=[],isGenerator:=false,isCoroutine:=false }
abbrev CX0:CXT:=fun _ _ _ _ _ _=>False
abbrev E0:XK:=fun _ _ _=>False
theorem pass0 {X:Cx}:zau5 CX0 X E0:=fun _ _ _ _ _ _ _ h=>h.elim
structure Fun (K:zau7) (x qual:Str) (st:Stmt) (f:Addr) (fd:FuncData):Prop where
 ex:∃(oc:Value) (od:Option Addr) (kV doc pm:Value) (an:Option Addr) (cdv ct:Value) (osl:Array (Option Value)),
  fd=zaz5 x qual (zi8 st) (zh5 st) (zb6 st) .none kV doc pm an cdv ct∧K.lookup f=some ⟨oc,od,.func fd,osl⟩∧zbf7 K cdv qual=true
 kp:zaz0 K (.ref f)=true
section
variable {P:Program}{w:World}{K:zau7}{mg:Str→Option Value}{base:BHeap}
theorem Fun.ok {x qual:Str}{st:Stmt}{f:Addr}{fd:FuncData}{N ps:List Str}{k:Nat}{sp:Sp} (F:Fun K x qual st f fd) (S:FnScope N ps (zb6 st)) (len:∀vs H Q E,sp vs H Q E→vs.length=ps.length)
  (hbody:∀(cdv:Value) (A:Around) (outer:List Env) (s:zaw0) (H:Hp) (vs:List V) (Q:VK) (E:XK),Room k (A.deeper (envOfC qual (zb6 st) s.heap.objs.size f cdv))→sp vs H Q E →
   ∃t,PSs (cxOf CX0 P w K mg base N qual (zb6 st) f cdv A outer s H E).nox (zh5 st) t∧t { nx:=fun _ H'=>Q .non H',rt:=Q } (start N vs) H):FnOk P w K mg base CX0 (k+1) f fd ps sp:=by
 obtain⟨oc,od,kV,doc,pm,an,cdv,ct,osl,rfl,lk,hcd⟩:=F.ex
 refine fn_of lk hcd S len fun A outer s H vs Q E hr hsp=>?_
 obtain⟨t,h,q⟩:=hbody cdv A outer s H vs Q E hr hsp
 exact⟨t,h.nox,q⟩
theorem Fun.binds {x qual:Str}{st:Stmt}{f:Addr}{fd:FuncData}{ps:List Str} (F:Fun K x qual st f fd)
  (h:∀(kV doc pm:Value) (an:Option Addr) (cdv ct:Value) (us:List Value),us.length=ps.length→bindArgs (zaz5 x qual (zi8 st) (zh5 st) (zb6 st) .none kV doc pm an cdv ct) ⟨us,[]⟩=pure (ps.zip us)):Binds K fd ps []:=by
 obtain⟨oc,od,kV,doc,pm,an,cdv,ct,osl,rfl,lk,hcd⟩:=F.ex
 exact .all (h kV doc pm an cdv ct)
theorem fun_mk {x qual:Str}{st:Stmt}{f:Addr}{oc:Value}{od an:Option Addr}{osl:Array (Option Value)}{kV doc pm cdv ct:Value} (l:K.lookup f=some ⟨oc,od,.func (zaz5 x qual (zi8 st) (zh5 st) (zb6 st) .none kV doc pm an cdv ct),osl⟩)
  (c:zbf7 K cdv qual=true) (k:zaz0 K (.ref f)=true):Fun K x qual st f (zaz5 x qual (zi8 st) (zh5 st) (zb6 st) .none kV doc pm an cdv ct):=⟨⟨oc,od,kV,doc,pm,an,cdv,ct,osl,rfl,l,c⟩,k⟩
end
theorem iteF {A B:Prop} (h:B):if false=true then A else B:=by
 rw [if_neg zaw4]
 exact h
theorem iteT {A B:Prop} (h:A):if true=true then A else B:=by
 rw [if_pos rfl]
 exact h
def Same (H H':Hp):Prop := ∀b o,H b=some o→H' b=some o
theorem Same.refl (H:Hp):Same H H:=fun _ _ h=>h
theorem Same.trans {H H1 H2:Hp} (a:Same H H1) (b:Same H1 H2):Same H H2:=fun c o h=>b c o (a c o h)
theorem Same.free {H H':Hp} (e:Same H H') {l:Addr} (h:H' l=Option.none):H l=Option.none:=by
 cases q:H l with
 |none=>rfl
 |some o =>
  rw [e l o q]at h
  cases h
theorem Same.seq {K:zau7}{H H':Hp}{a:Addr}{xs:List V} (e:Same H H') (h:SqL K H a xs):SqL K H' a xs:=by
 rcases h with (h | ⟨o,h⟩) |h
 ·exact .inl (.inl (e _ _ h))
 ·exact .inl (.inr ⟨o,e _ _ h⟩)
 ·exact .inr h
end L2
set_option maxHeartbeats 4000000
namespace L2
open PySem.Spec
section
variable {κ:Type} [DecidableEq κ]
def valV (kvs:List (κ×V)) (k:κ):Option V:=(kvs.find? fun kv=>decide (kv.1=k)).map (·.2)
noncomputable def putK (kvs:List (κ×V)) (k:κ) (v:V):List (κ×V) :=
 if (kvs.any fun kv=>decide (kv.1=k))=true then kvs.map (fun kv=>if kv.1=k then (kv.1,v) else kv) else kvs++[(k,v)]
def dropK (kvs:List (κ×V)) (k:κ):List (κ×V):=kvs.filter fun kv=>decide (kv.1≠k)
theorem zn6 {p:κ×V}{r:List (κ×V)}{k:κ} (e:p.1=k):valV (p::r) k=some p.2:=by simp [valV,zbc1,e]
theorem zn7 {p:κ×V}{r:List (κ×V)}{k:κ} (e : ¬ p.1=k):valV (p::r) k=valV r k:=by simp [valV,zbc1,e]
theorem zw4 (k:κ):∀kvs:List (κ×V),(kvs.any fun kv=>decide (kv.1=k))=(valV kvs k).isSome
 |[]=>rfl
 |p::r=>by
  rw [zba1]
  by_cases e:p.1=k
  ·simp only [zn6 e,decide_eq_true e,Bool.true_or,zbi6]
  ·rw [zn7 e,decide_eq_false e,zbi9];exact zw4 k r
theorem zt3 (kvs:List (κ×V)) (k:κ) (v:V):(putK kvs k v).length≤kvs.length+1:=by
 unfold putK
 split
 ·rw [zaw6];lia
 ·rw [zax2,zax7,List.length_nil];lia
theorem RelO.isSome_eq {o:Option V}{u:Option Value} (r:RelO o u):o.isSome=u.isSome:=by
 cases o with
 |none=>cases u with
  |none=>rfl
  |some _=>exact (show False from r).elim
 |some _=>cases u with
  |none=>exact (show False from r).elim
  |some _=>rfl
theorem RelO.getD {o:Option V}{u:Option Value}{d:V}{d':Value} (r:RelO o u) (rd:RelV d d'):RelV (o.getD d) (u.getD d'):=by
 cases o with
 |none=>cases u with
  |none=>exact rd
  |some _=>exact (show False from r).elim
 |some _=>cases u with
  |none=>exact (show False from r).elim
  |some _=>exact r
theorem KV.val {kvs:List (κ×V)}{vs:List (κ×Value)} (r:KV kvs vs) (k:κ):RelO (valV kvs k) (valueAt vs k):=by
 unfold KV at r
 induction r with
 |nil=>exact True.intro
 |@cons p q ps qs h t ih =>
  obtain⟨h1,h2⟩:=h
  by_cases e:p.1=k
  ·have e':q.1=k:=h1.symm.trans e
   have b:valueAt (q::qs) k=some q.2:=by simp [valueAt,zbc1,e']
   rw [zn6 e,b];exact h2
  ·have e' : ¬ q.1=k:=fun z=>e (h1.trans z)
   have b:valueAt (q::qs) k=valueAt qs k:=by simp [valueAt,zbc1,e']
   rw [zn7 e,b];exact ih
theorem KV.any {kvs:List (κ×V)}{vs:List (κ×Value)} (r:KV kvs vs) (k:κ):(kvs.any fun kv=>decide (kv.1=k))=vs.any fun kv=>decide (kv.1=k):=by
 unfold KV at r
 induction r with
 |nil=>rfl
 |cons h t ih=>rw [zba1,zba1,ih,h.1]
theorem KV.repl {kvs:List (κ×V)}{vs:List (κ×Value)} (r:KV kvs vs) (k:κ) {y:V}{u:Value} (ry:RelV y u) :
  KV (kvs.map fun kv=>if kv.1=k then (kv.1,y) else kv) (vs.map fun kv=>if kv.1=k then (kv.1,u) else kv):=by
 unfold KV at r ⊢
 induction r with
 |nil=>exact .nil
 |@cons p q ps qs h t ih =>
  rw [zav6,zav6]
  refine .cons ?_ ih
  obtain⟨h1,h2⟩:=h
  by_cases e:p.1=k
  ·rw [if_pos e,if_pos (h1.symm.trans e)];exact⟨h1,ry⟩
  ·rw [if_neg e,if_neg (fun z=>e (h1.trans z))];exact⟨h1,h2⟩
theorem KV.put {kvs:List (κ×V)}{vs:List (κ×Value)} (r:KV kvs vs) (k:κ) {y:V}{u:Value} (ry:RelV y u):KV (putK kvs k y) (stored vs k u):=by
 unfold putK stored
 rw [r.any k]
 by_cases e:(vs.any fun kv=>decide (kv.1=k))=true
 ·rw [if_pos e,if_pos e];exact r.repl k ry
 ·rw [if_neg e,if_neg e];exact Paired.snoc r ⟨rfl,ry⟩
theorem KV.drop {kvs:List (κ×V)}{vs:List (κ×Value)} (r:KV kvs vs) (k:κ):KV (dropK kvs k) (without vs k):=by
 unfold KV at r ⊢
 unfold dropK without
 induction r with
 |nil=>exact .nil
 |@cons p q ps qs h t ih =>
  obtain⟨h1,h2⟩:=h
  rw [zbh0,zbh0]
  by_cases e:p.1=k
  ·have a : ¬ decide (p.1≠k)=true:=by simp [e]
   have b : ¬ decide (q.1≠k)=true:=by simp [h1.symm.trans e]
   rw [if_neg a,if_neg b];exact ih
  ·have e' : ¬ q.1=k:=fun z=>e (h1.trans z)
   have a:decide (p.1≠k)=true:=by simp [e]
   have b:decide (q.1≠k)=true:=by simp [e']
   rw [if_pos a,if_pos b];exact .cons ⟨h1,h2⟩ ih
theorem KV.length {kvs:List (κ×V)}{vs:List (κ×Value)} (r:KV kvs vs):kvs.length=vs.length:=Paired.length r
end
theorem kV_is {P:Program}{w:World}{k:Key}{u:Value} (r:RelV (kV k) u):(zf8 P w).is k u=true:=by
 cases k with
 |inl i=>obtain⟨t,e⟩:=(show ∃t,u=Value.int i t from r);subst e;exact zae8 P w i t
 |inr x=>obtain⟨t,e⟩:=(show ∃t,u=Value.str x t from r);subst e;exact zae7 P w x t
theorem zab1 {P:Program}{w:World}:∀ {ks:List Key}{us:List Value},Vals (ks.map kV) us→ItemsAre (zf8 P w) ks us
 |[],_,r=>by rw [zbj7]at r;cases r;exact .nil
 |k::ks,_,r=>by
  rw [zav6]at r
  cases r with
  |cons h t=>exact .cons (kV_is h) (zab1 t)
noncomputable abbrev KT (H:Hp):List (List Key×V)→List (List Key×Addr×Value)→Prop:=Paired fun p q=>p.1=q.1∧H q.2.1=some (.tup (p.1.map kV))∧RelV p.2 q.2.2
theorem KT.val {H:Hp}{kvs:List (List Key×V)}{xs:List (List Key×Addr×Value)} (r:KT H kvs xs) (k:List Key):RelO (valV kvs k) ((atKey xs k).map (·.2)):=by
 induction r with
 |nil=>exact True.intro
 |@cons p q ps qs h t ih =>
  obtain⟨h1,_,h2⟩:=h
  by_cases e:p.1=k
  ·have e':q.1=k:=h1.symm.trans e
   have b:atKey (q::qs) k=some q.2:=by simp [atKey,zbc1,e']
   rw [zn6 e,b];exact h2
  ·have e' : ¬ q.1=k:=fun z=>e (h1.trans z)
   have b:atKey (q::qs) k=atKey qs k:=by simp [atKey,zbc1,e']
   rw [zn7 e,b];exact ih
section
variable {P:Program}{w:World}{H:Hp}{h:Heap}{a:Addr}
theorem rd_of {u:HO} (ok:HOk P w H h) (e:Rd H a u):ObjOk P w H h a u:=e.ok ok
theorem zak8 {kvs:List (Key×V)} (ok:HOk P w H h) (e:Rd H a (.dK kvs)):kvs.length≤sizeLine∧(a == sysModules)=false∧∃vs,KV kvs vs∧h.DictOf (zf8 P w) a vs :=
 show ObjOk P w H h a (.dK kvs) from rd_of ok e
theorem dk_of {kvs:List (Key×V)} (ok:HOk P w H h) (e:H a=some (.dK kvs)):kvs.length≤sizeLine∧(a == sysModules)=false∧∃vs,KV kvs vs∧h.DictOf (zf8 P w) a vs:=zak8 ok (.inl e)
theorem key_of {ks:List Key} (ok:HOk P w H h) (e:H a=some (.tup (ks.map kV))):(tupleKind (zf8 P w)).is h ks a:=by
 obtain⟨_,its,r,o,h1,h2,n,h3⟩:=(show ObjOk P w H h a (.tup (ks.map kV)) from ok a _ e)
 exact⟨o,its.toArray,n,h1,h2,h3,by simpa using zab1 r⟩
theorem dt_rd {kvs:List (List Key×V)} (ok:HOk P w H h) (e:Rd H a (.dT kvs)):kvs.length≤sizeLine∧(a == sysModules)=false ∧
  ∃xs,KT H kvs xs∧h.DictOfH (tupleKind (zf8 P w)) a xs:=by
 obtain⟨z,y,xs,r,o,es,ep,h1,h2,h3,h4,h5⟩:=(show ObjOk P w H h a (.dT kvs) from rd_of ok e)
 refine⟨z,y,xs,r,o,es,ep,h1,h2,h3,h4,fun x hx=>?_,h5⟩
 have all:∀ {l:List (List Key×V)}{m:List (List Key×Addr×Value)},KT H l m→∀x∈m,(tupleKind (zf8 P w)).is h x.1 x.2.1:=by
  intro l m q
  induction q with
  |nil=>intro x hx;exact nomatch hx
  |@cons p q ps qs hq t ih =>
   intro x hx
   rcases zav5.mp hx with e | hx
   ·subst e
    exact key_of ok (by rw [← hq.1];exact hq.2.1)
   ·exact ih x hx
 exact all r x hx
end
noncomputable def DGet (H:Hp) (a:Addr) (y:V) (r:Option V):Prop :=
 (∃kvs k,Rd H a (.dK kvs)∧y=kV k∧r=valV kvs k)∨∃kvs k b,Rd H a (.dT kvs)∧y=.ref b∧H b=some (.tup (k.map kV))∧r=valV kvs k
theorem DGet.k {H:Hp}{a:Addr}{kvs:List (Key×V)}{k:Key} (e:H a=some (.dK kvs)):DGet H a (kV k) (valV kvs k):=.inl ⟨kvs,k,.inl e,rfl,rfl⟩
section
variable {X:Cx}{pins:List (Addr×Obj)}{σ:St}{H:Hp}{s:zaw0}{a:Addr}{y v:V}{u r:Value}{o:Option V}{A:Around}{E:Value→zaw0→Prop}
theorem Inv.big (I:Inv X pins σ H s):sysModules<s.heap.objs.size:=by
 have h:mainGlobals<s.heap.objs.size:=(I.mod.glob.keeps I.bk).lt
 exact zbe1 (by decide) h
theorem zar9 {Q:Value→zaw0→Prop} (hu:A.units+1<cLine) (I:Inv X pins σ H s) (g:DGet H a y (some v)) (ry:RelV y u) (h:∀w' s',Inv X pins σ H s'→RelV v w'→Q w' s') :
  wpAny (model X.prog X.w) A (getItem (.ref a) u) Q E s:=by
 rcases g with ⟨kvs,k,e,ey,l⟩ | ⟨kvs,k,b,e,ey,eb,l⟩
 ·subst ey
  obtain⟨z,hd,vs,rel,dd⟩:=zak8 I.hok e
  obtain⟨w',hw,rw'⟩:=RelO.some_of (v:=v) (o:=valueAt vs k) (by rw [l];exact rel.val k)
  exact wpAny_getItem_of (kV_is ry) dd.mapOf hw (h w' _ (I.tok _) rw')
 ·subst ey
  cases (show u=Value.ref b from ry)
  obtain⟨z,hd,xs,rel,dd⟩:=dt_rd I.hok e
  obtain⟨w',hw,rw'⟩:=RelO.some_of (v:=v) (o:=(atKey xs k).map (·.2)) (by rw [l];exact rel.val k)
  obtain⟨p,hp,hp2⟩:=Option.map_eq_some_iff.mp hw
  refine wpAny_getItem_heap (tupleKind_room_in1 hu) (key_of I.hok eb) dd hp ?_
  rw [hp2]
  exact h w' _ (I.tok _) rw'
theorem d_notIn {Q:Value→zaw0→Prop} (hu:A.units+1<cLine) (I:Inv X pins σ H s) (g:DGet H a y o) (ry:RelV y u) (h:∀s',Inv X pins σ H s'→Q (.bool (!o.isSome)) s') :
  wpAny (model X.prog X.w) A (compareOp .NotIn u (.ref a)) Q E s:=by
 rcases g with ⟨kvs,k,e,ey,l⟩ | ⟨kvs,k,b,e,ey,eb,l⟩
 ·subst ey
  obtain⟨z,hd,vs,rel,dd⟩:=zak8 I.hok e
  refine wpAny_notIn_of (kV_is ry) hd dd.mapOf ?_
  rw [← (rel.val k).isSome_eq, ← l]
  exact h _ (I.tok _)
 ·subst ey
  cases (show u=Value.ref b from ry)
  obtain⟨z,hd,xs,rel,dd⟩:=dt_rd I.hok e
  refine wpAny_notIn_heap (tupleKind_room_in1 hu) (key_of I.hok eb) hd dd ?_
  have q:=(rel.val k).isSome_eq
  rw [Option.isSome_map]at q
  rw [← q, ← l]
  exact h _ (I.tok _)
theorem zar8 {h':Heap}{t':Nat}{ob:HO} (I:Inv X pins σ H s) (mu:Mut (H a)) (hs:Heap.SameBut a s.heap h') (he:∃q,h'.get? a=some q) (new:ObjOk X.prog X.w (upd H a ob) h' a ob) :
  Inv X pins σ (upd H a ob) { s with heap:=h',toks:=t' } :=
 I.write (x:=a) (e:=a) mu (.inl rfl) (fun b q hb z=>(hs.2 b hb).trans z) he new
theorem dk_new {P:Program}{w:World}{H':Hp}{h':Heap}{kvs:List (Key×V)}{vs:List (Key×Value)} (z:kvs.length≤sizeLine) (hd:(a == sysModules)=false) (rel:KV kvs vs) (dd:h'.DictOf (zf8 P w) a vs) :
  ObjOk P w H' h' a (.dK kvs):=⟨z,hd,vs,rel,dd⟩
end
section
variable {X:Cx}{pins:List (Addr×Obj)}{σ:St}{H:Hp}{s:zaw0}{a:Addr}{kvs:List (Key×V)}{k:Key}{u:Value}{A:Around}{E:Value→zaw0→Prop}
theorem d_len {Q:Value→zaw0→Prop} (I:Inv X pins σ H s) (e:Rd H a (.dK kvs)) (h:∀t s',Inv X pins σ H s'→Q (.int kvs.length t) s'):wpAny (model X.prog X.w) A (call (.builtin "len") [.ref a]) Q E s:=by
 obtain⟨z,hd,vs,rel,dd⟩:=zak8 I.hok e
 refine call_len_dict hd dd (by rw [← rel.length];rw [sizeLine_eq]at z;lia) ?_
 rw [← rel.length]
 exact h _ _ (I.tok _)
end
def NoSl (i:Expr):Prop := ∀ov iv,subscripted i false ov iv=operate [ov,iv] (getItem ov iv)
theorem subD_of {prog:Program}{w:World}{A:Around}{E:Value→zaw0→Prop}{s:zaw0}{env:Env}{value slice:Expr}{pos:Pos}{T id:String}{Q:Value→zaw0→Prop}
  (hl:typeLookup (.type T) "__getitem__"=pure (some (.builtin id))) (hs:NoSl slice)
  (h:wpAny (model prog w) A (eval value env) (fun o s₁=>wpAny (model prog w) A (eval slice env) (fun i s₂=>s₂.TypeIs o T∧wpAny (model prog w) A (getItem o i) Q E s₂) E s₁) E s) :
  wpAny (model prog w) A (eval (.Subscript value slice pos) env) Q E s:=by
 refine Subscript_ (wpAny_mono h (fun o s₁ h₁=>wpAny_mono h₁ (fun i s₂ h₂=>?_) fun _ _ x=>x) fun _ _ x=>x)
 obtain⟨hT,h₂⟩:=h₂
 unfold subscriptTail
 refine zaw3 ?_
 rw [getitemInPython_of_ne hT.not_modules]
 refine zaw3 (wpAny_specialOf hT hl ?_)
 have fin:wpAny (model prog w) A (subscripted slice false o i) (fun r s₃=>wpAny (model prog w) A (letTemporaryGo value o r >>= fun _=>pure r) Q E s₃) E s₂:=by
  rw [hs o i]
  exact wpAny_operating (wpAny_mono h₂ (fun r s₃ h₃=>zaw3 (wpAny_letTemporaryGo (zax9 h₃))) fun _ _ x=>x)
 first
  |exact zax9 (zaw3 fin)
  |exact zaw3 (zax9 (zaw3 fin))
  |exact zaw3 fin
theorem zaf2 {X:Cx}{pins:List (Addr×Obj)}{σ:St}{H:Hp}{s:zaw0}{a:Addr}{y:V}{o:Option V} (I:Inv X pins σ H s) (g:DGet H a y o):s.TypeIs (.ref a) "dict":=by
 rcases g with ⟨kvs,k,e,_,_⟩ | ⟨kvs,k,b,e,_,_,_⟩
 ·obtain⟨_,_,vs,_,dd⟩:=zak8 I.hok e
  exact dd.typeIs
 ·obtain⟨_,_,xs,_,dd⟩:=dt_rd I.hok e
  exact dd.typeIs
def tDGet (td ty:TE):TE:=fun σ H Q=>td σ H fun x H1=>ty σ H1 fun y H2 => ∃a v,x=.ref a∧DGet H2 a y (some v)∧Q v H2
section
variable {X:Cx}{o i e value:Expr}{pos pos' tpos:Pos}{td ty tv:TE}
theorem pe_dget (hu:X.A.units+1<cLine) (ho:PE X o td) (hi:PE X i ty) (hs:NoSl i):PE X (.Subscript o i pos) (tDGet td ty):=by
 intro pins s σ H Q I h
 refine subD_of PySem.F.slot_dict_getitem.lookup hs (thn (ho pins s σ H _ I h) fun u s1 ⟨x,H1,I1,rx,q1⟩=>thn (hi pins s1 σ H1 _ I1 q1) fun iv s2 ⟨y,H2,I2,ry,a,v,ex,g,q2⟩=>?_)
 subst ex
 obtain rfl:u=Value.ref a:=rx
 exact⟨zaf2 I2 g,zar9 hu I2 g ry fun w' s3 I3 rw'=>⟨v,H2,I3,rw',q2⟩⟩
end
theorem zy3 {P:Program}{w:World}{H:Hp} (h:Heap) (hb:sysModules<h.objs.size):ObjOk P w H (h.push { cls:=.type "dict",data:=.dict #[] }) h.objs.size (.dK []) :=
 ⟨zbl4 _,beq_eq_false_iff_ne.mpr (Ne.symm (zax4 hb)),[],.nil,Heap.DictOf.new h⟩
def tDNewK:TE:=fun _ H Q => ∀p,H p=none→Q (.ref p) (upd H p (.dK []))
section
variable {X:Cx}{pos:Pos}
theorem pe_dnewK:PE X (.Dict [] [] pos) tDNewK:=fun pins s σ H Q I h =>
 wpAny_Dict_empty ⟨.ref s.heap.objs.size,_,I.laid (a:=s.heap.objs.size) (o:=.dK []) (t':=s.toks) (fun _ _ q=>zav8 _ q) (zaw9 _) (zy3 s.heap I.big),rfl,h _ (I.hok.fresh (zaw9 _))⟩
end
def zr1 (kvs more:List (Key×V)):List (Key×V):=more.foldl (fun acc kv=>putK acc kv.1 kv.2) kvs
theorem KV.merge:∀ {more:List (Key×V)}{rs:List (Key×Value)}{kvs:List (Key×V)}{vs:List (Key×Value)},KV more rs→KV kvs vs→KV (zr1 kvs more) (merged vs rs):=by
 intro more rs kvs vs r
 unfold KV at r
 induction r generalizing kvs vs with
 |nil=>intro q;exact q
 |@cons p q ps qs h t ih =>
  intro r0
  have e:KV (putK kvs p.1 p.2) (stored vs q.1 q.2):=by
   have:=r0.put p.1 h.2
   rw [← h.1];exact this
  exact ih e
theorem zo8:∀(more kvs:List (Key×V)),(zr1 kvs more).length≤kvs.length+more.length
 |[],kvs=>by show kvs.length≤kvs.length+0;lia
 |p::r,kvs=>by
  have h1:=zo8 r (putK kvs p.1 p.2)
  have h2:=zt3 kvs p.1 p.2
  show (zr1 (putK kvs p.1 p.2) r).length≤_
  rw [zax7];lia
structure M1 (X:Cx) (o:Expr) (m:Str) (apos:Pos) (e:Expr) (cpos:Pos):Prop where
 base:attributeBase o m X.env (eval o X.env)=eval o X.env
 few:((zbd6 cpos (zaw7 [e] X.env)).all (fun x=>!x.1)&&(backToKw cpos (keywordEach [] X.env)).all (fun x=>x.1.isSome)
  && decide (([e]:List Expr).length+([]:List Keyword).length+(if ([]:List Keyword).isEmpty then 0 else 1)<30))=true
 line:(apos.endLine == cpos.line)=true
 trees:zbd6 cpos (zaw7 [e] X.env)=[(false,eval e X.env)]
structure M2 (X:Cx) (o:Expr) (m:Str) (apos:Pos) (e f:Expr) (cpos:Pos):Prop where
 base:attributeBase o m X.env (eval o X.env)=eval o X.env
 few:((zbd6 cpos (zaw7 [e,f] X.env)).all (fun x=>!x.1)&&(backToKw cpos (keywordEach [] X.env)).all (fun x=>x.1.isSome)
  && decide (([e,f]:List Expr).length+([]:List Keyword).length+(if ([]:List Keyword).isEmpty then 0 else 1)<30))=true
 line:(apos.endLine == cpos.line)=true
 trees:zbd6 cpos (zaw7 [e,f] X.env)=[(false,eval e X.env),(false,eval f X.env)]
def IsD (H:Hp) (a:Addr):Prop:=(∃kvs,Rd H a (.dK kvs))∨∃kvs,Rd H a (.dT kvs)
theorem isD_at {X:Cx}{pins:List (Addr×Obj)}{σ:St}{H:Hp}{s:zaw0}{a:Addr} (I:Inv X pins σ H s) (d:IsD H a) :
  s.TypeIs (.ref a) "dict"∧(∀b,Value.ref a=.ref b→∃ob,s.heap.get? b=some ob∧ob.dict=none)∧(a == sysModules)=false:=by
 rcases d with ⟨kvs,e⟩ | ⟨kvs,e⟩
 ·obtain⟨_,hd,vs,_,dd⟩:=zak8 I.hok e
  refine⟨dd.typeIs,fun b q=>?_,hd⟩
  cases q
  obtain⟨ob,_,_,h1,h2,_⟩:=dd
  exact⟨ob,h1,h2.2.1⟩
 ·obtain⟨_,hd,xs,_,dd⟩:=dt_rd I.hok e
  refine⟨dd.typeIs,fun b q=>?_,hd⟩
  cases q
  obtain⟨ob,_,_,h1,h2,_⟩:=dd
  exact⟨ob,h1,h2.2.1⟩
end L2
namespace L2
open PySem.Spec
section
variable {X:Cx}
theorem zat8:zq6 X (.builtin "len") (fun xs H Q => ∃a kvs,xs=[V.ref a]∧H a=some (.dK kvs)∧Q (.int kvs.length) H):=by
 intro pins s σ H xs us Q I r h
 obtain⟨a,kvs,rfl,ha,q⟩:=h
 obtain⟨u,rfl,ru⟩:=zad4 r
 cases ru
 exact d_len I (.inl ha) fun t s' I'=>⟨.int kvs.length,H,I',⟨t,rfl⟩,q⟩
end
end L2
namespace DL
open PySem.Spec L2
inductive D where
 |non | bl (b:Bool) |int (i:Int) |str (x:Str) |tup (xs:List D) |lst (xs:List D) |dct (ks:List Key) (ds:List D) |pdc (ps:List (Int×Int))
def mkKV (ks:List Key) (vs:List V):List (Key×V):=ks.zip vs
def pkv (ps:List (Int×Int)):List (List Key×V):=ps.map fun q=>([Sum.inl q.1,Sum.inl q.2],V.bl true)
mutual
inductive Rep (K:zau7) (H:Hp):D→V→Prop
 |non:Rep K H .non .non
 |bl (b:Bool):Rep K H (.bl b) (.bl b)
 |int (i:Int):Rep K H (.int i) (.int i)
 |str (x:Str):Rep K H (.str x) (.str x)
 |tup {ds:List D}{p:Addr}{vs:List V}:SqT K H p vs→Reps K H ds vs→Rep K H (.tup ds) (.ref p)
 |lst {ds:List D}{p:Addr}{vs:List V}:SqL K H p vs→Reps K H ds vs→Rep K H (.lst ds) (.ref p)
 |dct {ks:List Key}{ds:List D}{p:Addr}{vs:List V}:ks.length=vs.length→H p=some (.dK (mkKV ks vs))→Reps K H ds vs→Rep K H (.dct ks ds) (.ref p)
 |pdc {ps:List (Int×Int)}{p:Addr}:H p=some (.dT (pkv ps))→Rep K H (.pdc ps) (.ref p)
inductive Reps (K:zau7) (H:Hp):List D→List V→Prop
 |nil:Reps K H [] []
 |cons {d:D}{v:V}{ds:List D}{vs:List V}:Rep K H d v→Reps K H ds vs→Reps K H (d::ds) (v::vs)
end
theorem SqL.mono {K:zau7}{H H':Hp}{a:Addr}{xs:List V} (e:Same H H') (h:SqL K H a xs):SqL K H' a xs:=e.seq h
theorem SqT.mono {K:zau7}{H H':Hp}{a:Addr}{xs:List V} (e:Same H H') (h:SqT K H a xs):SqT K H' a xs:=by
 rcases h with (h | ⟨o,h⟩) |h
 ·exact .inl (.inl (e _ _ h))
 ·exact .inl (.inr ⟨o,e _ _ h⟩)
 ·exact .inr h
mutual
theorem Rep.mono {K:zau7}{H H':Hp} (e:Same H H'):∀ {d:D}{v:V},Rep K H d v→Rep K H' d v
 |_,_,.non=>.non
 |_,_,.bl b=>.bl b
 |_,_,.int i=>.int i
 |_,_,.str x=>.str x
 |_,_,.tup h r=>.tup (SqT.mono e h) (Reps.mono e r)
 |_,_,.lst h r=>.lst (SqL.mono e h) (Reps.mono e r)
 |_,_,.dct l h r=>.dct l (e _ _ h) (Reps.mono e r)
 |_,_,.pdc h=>.pdc (e _ _ h)
theorem Reps.mono {K:zau7}{H H':Hp} (e:Same H H'):∀ {ds:List D}{vs:List V},Reps K H ds vs→Reps K H' ds vs
 |_,_,.nil=>.nil
 |_,_,.cons h r=>.cons (Rep.mono e h) (Reps.mono e r)
end
theorem Reps.length {K:zau7}{H:Hp}:∀ {ds:List D}{vs:List V},Reps K H ds vs→vs.length=ds.length
 |_,_,.nil=>rfl
 |_,_,.cons _ r=>by simp [Reps.length r]
theorem Reps.get {K:zau7}{H:Hp}:∀ {ds:List D}{vs:List V},Reps K H ds vs→∀ {i:Nat}{d:D},ds[i]?=some d→∃v,vs[i]?=some v∧Rep K H d v
 |_,_,.nil,i,d,e=>by simp at e
 |_,_,.cons (v:=v) h r,0,d,e=>by simp at e;subst e;exact⟨v,rfl,h⟩
 |_,_,.cons h r,i+1,d,e=>by
  obtain⟨v,a,b⟩:=Reps.get r (i:=i) (d:=d) (by simpa using e)
  exact⟨v,by simpa using a,b⟩
theorem Reps.getV {K:zau7}{H:Hp}:∀ {ds:List D}{vs:List V},Reps K H ds vs→∀ {i:Nat}{v:V},vs[i]?=some v→∃d,ds[i]?=some d∧Rep K H d v
 |_,_,.nil,i,d,e=>by simp at e
 |_,_,.cons (d:=d) h r,0,v,e=>by simp at e;subst e;exact⟨d,rfl,h⟩
 |_,_,.cons h r,i+1,v,e=>by
  obtain⟨d,a,b⟩:=Reps.getV r (i:=i) (v:=v) (by simpa using e)
  exact⟨d,by simpa using a,b⟩
theorem Reps.app {K:zau7}{H:Hp}:∀ {ds:List D}{vs:List V}{es:List D}{us:List V},Reps K H ds vs→Reps K H es us→Reps K H (ds++es) (vs++us)
 |_,_,_,_,.nil,r=>r
 |_,_,_,_,.cons h r,q=>.cons h (Reps.app r q)
theorem Reps.set {K:zau7}{H:Hp}{d:D}{v:V} (h:Rep K H d v):∀ {ds:List D}{vs:List V} (i:Nat),Reps K H ds vs→Reps K H (ds.set i d) (vs.set i v)
 |_,_,_,.nil=>.nil
 |_,_,0,.cons _ r=>.cons h r
 |_,_,i+1,.cons q r=>.cons q (Reps.set h i r)
theorem Reps.drop {K:zau7}{H:Hp}:∀ {ds:List D}{vs:List V} (n:Nat),Reps K H ds vs→Reps K H (ds.drop n) (vs.drop n)
 |_,_,0,r=>by simpa using r
 |_,_,n+1,.nil=>by simp;exact .nil
 |_,_,n+1,.cons h r=>by simpa using Reps.drop n r
theorem Reps.one {K:zau7}{H:Hp}{d:D}{v:V} (h:Rep K H d v):Reps K H [d] [v]:=.cons h .nil
theorem Reps.ints {K:zau7}{H:Hp}:∀ns:List Int,Reps K H (ns.map D.int) (ns.map V.int)
 |[]=>.nil
 |n::ns=>.cons (.int n) (Reps.ints ns)
mutual
def flat:D→Bool
 |.lst _=>false
 |.dct _ _=>false
 |.pdc _=>false
 |.tup xs=>flats xs
 |_=>true
def flats:List D→Bool
 |[]=>true
 |d::ds=>flat d&&flats ds
end
def hide (P:List Addr) (H:Hp):Hp:=fun a=>if a∈P then none else H a
theorem zb3 (P:List Addr) (H:Hp):Same (hide P H) H:=fun b o e=>by
 unfold hide at e
 split at e
 ·cases e
 ·exact e
theorem zc0 {P:List Addr}{H:Hp}{a:Addr}{o:HO} (h:H a=some o) (n:a∉P):hide P H a=some o:=by
 unfold hide;rw [if_neg n];exact h
theorem zk2 {P:List Addr}{H:Hp}{a:Addr}{o:HO} (h:hide P H a=some o):a∉P∧H a=some o:=by
 unfold hide at h
 split at h
 ·cases h
 ·exact⟨by assumption,h⟩
theorem hide_nil (H:Hp):hide [] H=H:=by funext a;simp [hide]
theorem za7 {P P':List Addr} (H:Hp) (h:∀a∈P',a∈P):Same (hide P H) (hide P' H):=fun b o e=>by
 obtain⟨n,e⟩:=zk2 e
 exact zc0 e fun z=>n (h b z)
def mutO:HO→Bool
 |.lst _=>true
 |.dK _=>true
 |.dT _=>true
 |_=>false
abbrev MO:={o:HO // mutO o=true}
def mL (vs:List V):MO:=⟨.lst vs,rfl⟩
def mD (kvs:List (Key×V)):MO:=⟨.dK kvs,rfl⟩
def mT (kvs:List (List Key×V)):MO:=⟨.dT kvs,rfl⟩
def Lists (H:Hp) (P:List Addr):Prop := ∀p∈P,∃o:MO,H p=some o.1
theorem Lists.mono {H H':Hp}{P:List Addr} (h:Lists H P) (e:Same H H'):Lists H' P:=fun p hp=>let ⟨vs,q⟩:=h p hp;⟨vs,e _ _ q⟩
theorem SqT.hid {K:zau7}{H:Hp}{P:List Addr}{a:Addr}{xs:List V} (m:Lists H P) (h:SqT K H a xs):SqT K (hide P H) a xs:=by
 rcases h with (h | ⟨o,h⟩) |h
 ·exact .inl (.inl (zc0 h fun z=>by obtain⟨⟨vs,w⟩,q⟩:=m _ z;rw [q]at h;cases h;cases w))
 ·exact .inl (.inr ⟨o,zc0 h fun z=>by obtain⟨⟨vs,w⟩,q⟩:=m _ z;rw [q]at h;cases h;cases w⟩)
 ·exact .inr h
mutual
theorem Rep.hid {K:zau7}{H:Hp}{P:List Addr} (m:Lists H P):∀ {d:D}{v:V},flat d=true→Rep K H d v→Rep K (hide P H) d v
 |_,_,_,.non=>.non
 |_,_,_,.bl b=>.bl b
 |_,_,_,.int i=>.int i
 |_,_,_,.str x=>.str x
 |_,_,f,.tup h r=>.tup (SqT.hid m h) (Reps.hid m (by simpa [flat] using f) r)
 |_,_,f,.lst h r=>by simp [flat]at f
 |_,_,f,.dct _ h r=>by simp [flat]at f
 |_,_,f,.pdc h=>by simp [flat]at f
theorem Reps.hid {K:zau7}{H:Hp}{P:List Addr} (m:Lists H P):∀ {ds:List D}{vs:List V},flats ds=true→Reps K H ds vs→Reps K (hide P H) ds vs
 |_,_,_,.nil=>.nil
 |_,_,f,.cons h r=>by
  simp [flats]at f
  exact .cons (Rep.hid m f.1 h) (Reps.hid m f.2 r)
end
mutual
inductive RepD (K:zau7) (H0 H:Hp):D→V→List Addr→Prop
 |flat {d:D}{v:V}:flat d=true→Rep K H0 d v→RepD K H0 H d v []
 |tup {ds:List D}{p:Addr}{vs:List V}{B:List Addr}:SqT K H0 p vs→RepDs K H0 H ds vs B→RepD K H0 H (.tup ds) (.ref p) B
 |lst {ds:List D}{p:Addr}{vs:List V}{B:List Addr}:H p=some (.lst vs)→RepDs K H0 H ds vs B→RepD K H0 H (.lst ds) (.ref p) (p::B)
 |dct {ks:List Key}{ds:List D}{p:Addr}{vs:List V}{B:List Addr}:ks.length=vs.length→H p=some (.dK (mkKV ks vs))→RepDs K H0 H ds vs B→RepD K H0 H (.dct ks ds) (.ref p) (p::B)
 |pdc {ps:List (Int×Int)}{p:Addr}:H p=some (.dT (pkv ps))→RepD K H0 H (.pdc ps) (.ref p) [p]
inductive RepDs (K:zau7) (H0 H:Hp):List D→List V→List Addr→Prop
 |nil:RepDs K H0 H [] [] []
 |cons {d:D}{v:V}{ds:List D}{vs:List V}{B C:List Addr}:RepD K H0 H d v B→RepDs K H0 H ds vs C→RepDs K H0 H (d::ds) (v::vs) (B++C)
end
mutual
theorem RepD.mono {K:zau7}{H0 H H0' H':Hp} (e:Same H0 H0'):∀ {d:D}{v:V}{B:List Addr},RepD K H0 H d v B→(∀p∈B,∀o,H p=some o→H' p=some o)→RepD K H0' H' d v B
 |_,_,_,.flat f r,_=>.flat f (Rep.mono e r)
 |_,_,_,.tup h r,k=>.tup (SqT.mono e h) (RepDs.mono e r k)
 |_,_,_,.lst h r,k=>.lst (k _ (zav1 ..) _ h) (RepDs.mono e r fun p hp=>k p (zau8 _ hp))
 |_,_,_,.dct l h r,k=>.dct l (k _ (zav1 ..) _ h) (RepDs.mono e r fun p hp=>k p (zau8 _ hp))
 |_,_,_,.pdc h,k=>.pdc (k _ (zav1 ..) _ h)
theorem RepDs.mono {K:zau7}{H0 H H0' H':Hp} (e:Same H0 H0'):∀ {ds:List D}{vs:List V}{B:List Addr},RepDs K H0 H ds vs B→(∀p∈B,∀o,H p=some o→H' p=some o)→RepDs K H0' H' ds vs B
 |_,_,_,.nil,_=>.nil
 |_,_,_,.cons h r,k=>.cons (RepD.mono e h fun p hp=>k p (zau9 _ hp)) (RepDs.mono e r fun p hp=>k p (zau6 _ hp))
end
mutual
theorem RepD.rep {K:zau7}{H0 H H1:Hp} (e:Same H0 H1):∀ {d:D}{v:V}{B:List Addr},RepD K H0 H d v B→(∀p∈B,∀o,H p=some o→H1 p=some o)→Rep K H1 d v
 |_,_,_,.flat f r,_=>Rep.mono e r
 |_,_,_,.tup h r,k=>.tup (SqT.mono e h) (RepDs.rep e r k)
 |_,_,_,.lst h r,k=>.lst (SqL.of (k _ (zav1 ..) _ h)) (RepDs.rep e r fun p hp=>k p (zau8 _ hp))
 |_,_,_,.dct l h r,k=>.dct l (k _ (zav1 ..) _ h) (RepDs.rep e r fun p hp=>k p (zau8 _ hp))
 |_,_,_,.pdc h,k=>.pdc (k _ (zav1 ..) _ h)
theorem RepDs.rep {K:zau7}{H0 H H1:Hp} (e:Same H0 H1):∀ {ds:List D}{vs:List V}{B:List Addr},RepDs K H0 H ds vs B→(∀p∈B,∀o,H p=some o→H1 p=some o)→Reps K H1 ds vs
 |_,_,_,.nil,_=>.nil
 |_,_,_,.cons h r,k=>.cons (RepD.rep e h fun p hp=>k p (zau9 _ hp)) (RepDs.rep e r fun p hp=>k p (zau6 _ hp))
end
mutual
theorem RepD.lists {K:zau7}{H0 H:Hp}:∀ {d:D}{v:V}{B:List Addr},RepD K H0 H d v B→Lists H B
 |_,_,_,.flat f r=>fun p hp=>by cases hp
 |_,_,_,.tup h r=>RepDs.lists r
 |_,_,_,.lst h r=>fun p hp=>by
  rcases zav5.mp hp with rfl | hp
  ·exact⟨mL _,h⟩
  ·exact RepDs.lists r p hp
 |_,_,_,.dct _ h r=>fun p hp=>by
  rcases zav5.mp hp with rfl | hp
  ·exact⟨mD _,h⟩
  ·exact RepDs.lists r p hp
 |_,_,_,.pdc h=>fun p hp=>by
  rw [zax0]at hp
  subst hp
  exact⟨mT _,h⟩
theorem RepDs.lists {K:zau7}{H0 H:Hp}:∀ {ds:List D}{vs:List V}{B:List Addr},RepDs K H0 H ds vs B→Lists H B
 |_,_,_,.nil=>fun p hp=>by cases hp
 |_,_,_,.cons h r=>fun p hp=>(zav2.mp hp).elim (RepD.lists h p) (RepDs.lists r p)
end
mutual
theorem RepD.hid {K:zau7}{H0 H:Hp}{P:List Addr} (m:Lists H P) (e:Same H0 H):∀ {d:D}{v:V}{B:List Addr},RepD K H0 H d v B→RepD K (hide P H) H d v B
 |_,_,_,.flat f r=>.flat f (Rep.hid m f (Rep.mono e r))
 |_,_,_,.tup h r=>.tup (SqT.hid m (SqT.mono e h)) (RepDs.hid m e r)
 |_,_,_,.lst h r=>.lst h (RepDs.hid m e r)
 |_,_,_,.dct l h r=>.dct l h (RepDs.hid m e r)
 |_,_,_,.pdc h=>.pdc h
theorem RepDs.hid {K:zau7}{H0 H:Hp}{P:List Addr} (m:Lists H P) (e:Same H0 H):∀ {ds:List D}{vs:List V}{B:List Addr},RepDs K H0 H ds vs B→RepDs K (hide P H) H ds vs B
 |_,_,_,.nil=>.nil
 |_,_,_,.cons h r=>.cons (RepD.hid m e h) (RepDs.hid m e r)
end
theorem RepDs.of_flat {K:zau7}{H0 H:Hp}:∀ {ds:List D}{vs:List V},flats ds=true→Reps K H0 ds vs→RepDs K H0 H ds vs []
 |_,_,_,.nil=>.nil
 |_,_,f,.cons h r=>by
  simp [flats]at f
  exact .cons (B:=[]) (C:=[]) (.flat f.1 h) (RepDs.of_flat f.2 r)
theorem Lists.app {H:Hp}{P Q:List Addr} (h:Lists H P) (k:Lists H Q):Lists H (P++Q):=fun p hp=>(zav2.mp hp).elim (h p) (k p)
inductive Ev where
 |cl (d:D) |tm (d:D) |nw (xs:List D) |dn (d:D)
def Ev.d:Ev→D
 |.cl d=>d
 |.tm d=>d
 |.nw xs=>.lst xs
 |.dn d=>d
noncomputable def RepEv (K:zau7) (F A:List Addr) (H H':Hp):Ev→V→Prop
 |.cl d,v=>Rep K (hide (A++F) H') d v
 |.tm d,v=>Rep K (hide F H') d v
 |.nw xs,v => ∃p vs,v=.ref p∧H p=none∧H' p=some (.lst vs)∧Reps K (hide (p ::(A++F)) H') xs vs
 |.dn d,v => ∃B,B.Nodup∧(∀b∈B,H b=none)∧RepD K (hide (B++(A++F)) H') H' d v B
theorem za8 {P:List Addr}{H H':Hp} (e:Same H H'):Same (hide P H) (hide P H'):=fun b o h=>by
 obtain⟨n,h⟩:=zk2 h
 exact zc0 (e _ _ h) n
theorem RepEv.mono {K:zau7}{F A:List Addr}{H H1 H2:Hp}{r:Ev}{v:V} (h:RepEv K F A H H1 r v) (e:Same H1 H2):RepEv K F A H H2 r v:=by
 cases r with
 |cl d=>exact Rep.mono (za8 e) h
 |tm d=>exact Rep.mono (za8 e) h
 |nw xs =>
  obtain⟨p,vs,rfl,h1,h2,h3⟩:=h
  exact⟨p,vs,rfl,h1,e _ _ h2,Reps.mono (za8 e) h3⟩
 |dn d =>
  obtain⟨B,h1,h2,h3⟩:=h
  exact⟨B,h1,h2,RepD.mono (za8 e) h3 fun p _ o q=>e _ _ q⟩
theorem RepEv.back {K:zau7}{F A:List Addr}{H0 H H1:Hp}{r:Ev}{v:V} (h:RepEv K F A H H1 r v) (e:Same H0 H):RepEv K F A H0 H1 r v:=by
 cases r with
 |cl d=>exact h
 |tm d=>exact h
 |nw xs =>
  obtain⟨p,vs,rfl,h1,h2,h3⟩:=h
  refine⟨p,vs,rfl,?_,h2,h3⟩
  cases q:H0 p with
  |none=>rfl
  |some o=>rw [e _ _ q]at h1;cases h1
 |dn d =>
  obtain⟨B,h1,h2,h3⟩:=h
  exact⟨B,h1,fun b hb=>Same.free e (h2 b hb),h3⟩
theorem RepEv.full {K:zau7}{F A:List Addr}{H H':Hp}{r:Ev}{v:V} (h:RepEv K F A H H' r v):Rep K H' r.d v:=by
 cases r with
 |cl d=>exact Rep.mono (zb3 _ _) h
 |tm d=>exact Rep.mono (zb3 _ _) h
 |nw xs =>
  obtain⟨p,vs,rfl,h1,h2,h3⟩:=h
  exact .lst (SqL.of h2) (Reps.mono (zb3 _ _) h3)
 |dn d =>
  obtain⟨B,h1,h2,h3⟩:=h
  exact h3.rep (zb3 _ _) fun _ _ _ q=>q
theorem zd2 {H:Hp}{P:List Addr}{p:Addr} (m:Lists H P) (h:H p=none):p∉P:=fun z=>by
 obtain⟨vs,q⟩:=m _ z
 rw [q]at h;cases h
theorem RepEv.cleanF {K:zau7}{F A:List Addr}{H H':Hp}{r:Ev}{v:V} (m:Lists H (A++F)) (h:RepEv K F A H H' r v):Rep K (hide F H') r.d v:=by
 cases r with
 |cl d=>exact Rep.mono (za7 H' fun a z=>zau6 _ z) h
 |tm d=>exact h
 |nw xs =>
  obtain⟨p,vs,rfl,h1,h2,h3⟩:=h
  have n:p∉F:=fun z=>zd2 m h1 (zau6 _ z)
  exact .lst (SqL.of (zc0 h2 n)) (Reps.mono (za7 H' fun a z=>zau8 _ (zau6 _ z)) h3)
 |dn d =>
  obtain⟨B,h1,h2,h3⟩:=h
  refine h3.rep (za7 H' fun a z=>zau6 _ (zau6 _ z)) fun b hb o q=>zc0 q fun z=>?_
  exact zd2 m (h2 b hb) (zau6 _ z)
def Ev.ok:Ev→Bool
 |.cl _=>true
 |.tm d=>flat d
 |.nw _=>true
 |.dn _=>true
theorem RepEv.clean {K:zau7}{F A:List Addr}{H H':Hp}{r:Ev}{v:V} (m:Lists H (A++F)) (e:Same H H') (h:RepEv K F A H H' r v) (c:r.ok=true):Rep K (hide (A++F) H') r.d v:=by
 cases r with
 |cl d=>exact h
 |tm d =>
  have m':Lists H' (A++F):=m.mono e
  exact Rep.hid m' c (Rep.mono (zb3 _ _) h)
 |nw xs =>
  obtain⟨p,vs,rfl,h1,h2,h3⟩:=h
  have n:p∉A++F:=zd2 m h1
  exact .lst (SqL.of (zc0 h2 n)) (Reps.mono (za7 H' fun a z=>zau8 _ z) h3)
 |dn d =>
  obtain⟨B,h1,h2,h3⟩:=h
  exact h3.rep (za7 H' fun a z=>zau6 _ z) fun b hb o q=>zc0 q fun z=>zd2 m (h2 b hb) z
inductive Sl where
 |no | val (d:D) |own (xs:List D) |dp (d:D)
abbrev Th:=List Sl
inductive RSl (K:zau7) (H0 H:Hp):Th→L2.St→List Addr→Prop
 |nil:RSl K H0 H [] [] []
 |no {x:Option V}{t:Th}{σ:L2.St}{A:List Addr}:RSl K H0 H t σ A→RSl K H0 H (.no::t) (x::σ) A
 |val {d:D}{v:V}{t:Th}{σ:L2.St}{A:List Addr}:Rep K H0 d v→RSl K H0 H t σ A→RSl K H0 H (.val d::t) (some v::σ) A
 |own {p:Addr}{vs:List V}{ds:List D}{t:Th}{σ:L2.St}{A:List Addr}:H p=some (.lst vs)→Reps K H0 ds vs→RSl K H0 H t σ A→RSl K H0 H (.own ds::t) (some (.ref p)::σ) (p::A)
 |dp {d:D}{v:V}{B:List Addr}{t:Th}{σ:L2.St}{A:List Addr}:RepD K H0 H d v B→RSl K H0 H t σ A→RSl K H0 H (.dp d::t) (some v::σ) (B++A)
structure RS (K:zau7) (F:List Addr) (H:Hp) (A:List Addr) (t:Th) (σ:L2.St):Prop where
 mu:Lists H (A++F)
 nd:A.Nodup
 dj:∀p∈A,p∉F
 rel:RSl K (hide (A++F) H) H t σ A
theorem RSl.mono {K:zau7}{H0 H H0' H':Hp} (e0:Same H0 H0'):∀ {t:Th}{σ:L2.St}{A:List Addr},RSl K H0 H t σ A→(∀p∈A,∀o,H p=some o→H' p=some o)→RSl K H0' H' t σ A:=by
 intro _ _ _ h
 induction h with
 |nil =>
  intro w0
  exact .nil
 |@no _ _ _ _ r ih =>
  intro e
  exact .no (ih e)
 |@val _ _ _ _ _ h r ih =>
  intro e
  exact .val (Rep.mono e0 h) (ih e)
 |@own _ _ _ _ _ _ h1 h2 r ih =>
  intro e
  exact .own (e _ (zav1 ..) _ h1) (Reps.mono e0 h2) (ih fun p hp=>e p (zau8 _ hp))
 |@dp _ _ _ _ _ _ h r ih =>
  intro e
  exact .dp (RepD.mono e0 h fun p hp=>e p (zau9 _ hp)) (ih fun p hp=>e p (zau6 _ hp))
theorem RS.grow {K:zau7}{F A:List Addr}{H H':Hp}{t:Th}{σ:L2.St} (h:RS K F H A t σ) (e:Same H H'):RS K F H' A t σ :=
 ⟨h.mu.mono e,h.nd,h.dj,h.rel.mono (za8 e) fun p _ o q=>e _ _ q⟩
theorem RSl.len {K:zau7}{H0 H:Hp}:∀ {t:Th}{σ:L2.St}{A:List Addr},RSl K H0 H t σ A→σ.length=t.length:=by
 intro _ _ _ h
 induction h with
 |nil =>
  exact rfl
 |@no _ _ _ _ r ih =>
  simp [ih]
 |@val _ _ _ _ _ _ r ih =>
  simp [ih]
 |@own _ _ _ _ _ _ _ _ r ih =>
  simp [ih]
 |@dp _ _ _ _ _ _ _ r ih =>
  simp [ih]
theorem RSl.getVal {K:zau7}{H0 H:Hp}:∀ {t:Th}{σ:L2.St}{A:List Addr},RSl K H0 H t σ A→∀ {i:Nat}{d:D},t[i]?=some (.val d)→∃v,σ[i]?=some (some v)∧Rep K H0 d v:=by
 intro _ _ _ h
 induction h with
 |nil =>
  intro i d e
  simp at e
 |@no _ _ _ _ r ih =>
  intro i d e
  cases i with
  |zero =>
   simp at e
  |succ i =>
   simpa using ih (i:=i) (by simpa using e)
 |@val _ v _ _ _ h r ih =>
  intro i d e
  cases i with
  |zero =>
   simp at e;subst e;exact⟨v,rfl,h⟩
  |succ i =>
   simpa using ih (i:=i) (by simpa using e)
 |@own _ _ _ _ _ _ _ _ r ih =>
  intro i d e
  cases i with
  |zero =>
   simp at e
  |succ i =>
   simpa using ih (i:=i) (by simpa using e)
 |@dp _ _ _ _ _ _ _ r ih =>
  intro i d e
  cases i with
  |zero =>
   simp at e
  |succ i =>
   simpa using ih (i:=i) (by simpa using e)
theorem RSl.getOwn {K:zau7}{H0 H:Hp}:∀ {t:Th}{σ:L2.St}{A:List Addr},RSl K H0 H t σ A→∀ {i:Nat}{ds:List D},t[i]?=some (.own ds)→∃p vs,σ[i]?=some (some (.ref p))∧p∈A∧H p=some (.lst vs)∧Reps K H0 ds vs:=by
 intro _ _ _ h
 induction h with
 |nil =>
  intro i d e
  simp at e
 |@no _ _ _ _ r ih =>
  intro i d e
  cases i with
  |zero =>
   simp at e
  |succ i =>
   simpa using ih (i:=i) (by simpa using e)
 |@val _ v _ _ _ h r ih =>
  intro i d e
  cases i with
  |zero =>
   simp at e
  |succ i =>
   simpa using ih (i:=i) (by simpa using e)
 |@own p vs _ _ _ _ h1 h2 r ih =>
  intro i d e
  cases i with
  |zero =>
   simp at e;subst e;exact⟨p,vs,rfl,zav1 ..,h1,h2⟩
  |succ i =>
   obtain⟨p,vs,a,b,c,f⟩:=ih (i:=i) (ds:=d) (by simpa using e)
   exact⟨p,vs,by simpa using a,zau8 _ b,c,f⟩
 |@dp _ _ _ _ _ _ _ r ih =>
  intro i d e
  cases i with
  |zero =>
   simp at e
  |succ i =>
   obtain⟨p,vs,a,b,c,f⟩:=ih (i:=i) (ds:=d) (by simpa using e)
   exact⟨p,vs,by simpa using a,zau6 _ b,c,f⟩
theorem RSl.getDp {K:zau7}{H0 H:Hp}:∀ {t:Th}{σ:L2.St}{A:List Addr},RSl K H0 H t σ A→A.Nodup→∀ {i:Nat}{d:D},t[i]?=some (.dp d)→∃v B,σ[i]?=some (some v)∧(∀b∈B,b∈A)∧B.Nodup∧RepD K H0 H d v B:=by
 intro _ _ _ h
 induction h with
 |nil =>
  intro n i d e
  simp at e
 |@no _ _ _ _ r ih =>
  intro n i d e
  cases i with
  |zero =>
   simp at e
  |succ i =>
   simpa using ih n (i:=i) (by simpa using e)
 |@val _ v _ _ _ h r ih =>
  intro n i d e
  cases i with
  |zero =>
   simp at e
  |succ i =>
   simpa using ih n (i:=i) (by simpa using e)
 |@own _ _ _ _ _ _ _ _ r ih =>
  intro n i d e
  cases i with
  |zero =>
   simp at e
  |succ i =>
   obtain⟨v,B,a,b,n',c⟩:=ih (zaw8.mp n).2 (i:=i) (d:=d) (by simpa using e)
   exact⟨v,B,by simpa using a,fun x hx=>zau8 _ (b x hx),n',c⟩
 |@dp _ v B _ _ _ h r ih =>
  intro n i d e
  cases i with
  |zero =>
   simp at e;subst e;exact⟨v,B,rfl,fun x hx=>zau9 _ hx,(zaw2.mp n).1,h⟩
  |succ i =>
   obtain⟨v,B,a,b,n',c⟩:=ih (zaw2.mp n).2.1 (i:=i) (d:=d) (by simpa using e)
   exact⟨v,B,by simpa using a,fun x hx=>zau6 _ (b x hx),n',c⟩
structure Gr (A:List Addr) (H:Hp) (A':List Addr) (H':Hp):Prop where
 kp:∀b o,b∉A→H b=some o→H' b=some o
 al:∀b∈A,H' b≠none
 nw:∀b∈A',b∈A∨H b=none
theorem Gr.refl {A:List Addr}{H:Hp} (m:Lists H A):Gr A H A H:=⟨fun _ _ _ h=>h,fun b hb=>by obtain⟨vs,q⟩:=m b hb;rw [q];simp,fun b h=>.inl h⟩
theorem Gr.of_same {A:List Addr}{H H':Hp} (m:Lists H A) (e:Same H H'):Gr A H A H':=⟨fun _ _ _ h=>e _ _ h,fun b hb=>by obtain⟨vs,q⟩:=m b hb;rw [e _ _ q];simp,fun b h=>.inl h⟩
theorem Gr.trans {A A1 A2:List Addr}{H H1 H2:Hp} (a:Gr A H A1 H1) (b:Gr A1 H1 A2 H2):Gr A H A2 H2 where
 kp:=fun x o n h=>b.kp x o (fun z=>by rcases a.nw x z with q | q;exact n q;rw [q]at h;cases h) (a.kp x o n h)
 al:=fun x hx=>by
  by_cases z:x∈A1
  ·exact b.al x z
  ·have:=a.al x hx
   cases q:H1 x with
   |none=>exact absurd q this
   |some o=>rw [b.kp x o z q];simp
 nw:=fun x hx=>by
  rcases b.nw x hx with q | q
  ·exact a.nw x q
  ·by_cases z:x∈A
   ·exact .inl z
   ·refine .inr ?_
    cases w:H x with
    |none=>rfl
    |some o=>rw [a.kp x o z w]at q;cases q
theorem Gr.same {F A A':List Addr}{H H':Hp} (g:Gr A H A' H'):Same (hide (A++F) H) (hide (A'++F) H'):=fun b o h=>by
 obtain⟨n,h⟩:=zk2 h
 have n1:b∉A:=fun z=>n (zau9 _ z)
 refine zc0 (g.kp b o n1 h) fun z=>?_
 rcases zav2.mp z with z | z
 ·rcases g.nw b z with q | q
  ·exact n1 q
  ·rw [q]at h;cases h
 ·exact n (zau6 _ z)
end DL
namespace DL
open PySem.Spec L2
abbrev DE:=Th→Option Ev
noncomputable def dE (K:zau7) (F:List Addr) (f:DE):TE:=fun σ H Q => ∃A t r,RS K F H A t σ∧f t=some r∧∀v H',Same H H'→RepEv K F A H H' r v→Q v H'
theorem PE.imp {X:Cx}{e:Expr}{t t':TE} (h:PE X e t) (i:∀σ H Q,t' σ H Q→t σ H Q):PE X e t':=fun pins s σ H Q I q=>h pins s σ H Q I (i σ H Q q)
section
variable {X:Cx}{F:List Addr}{a b c:Expr}{fa fb fc:DE}{pos:Pos}
noncomputable def dVar (i:Nat):DE:=fun t=>match t[i]? with
 |some (.val d)=>some (.cl d)
 |some (.own xs)=>some (.tm (.lst xs))
 |some (.dp d)=>some (.tm d)
 |_=>none
theorem za0 (i:Nat) {x:Str} (hN:X.N[i]?=some x:=by rfl) (hv:Vis X.env.scope x:=by first | exact Or.inl rfl | exact Or.inr (Or.inl rfl) |exact Or.inr (Or.inr rfl)) (hd:(x ==("__debug__":Str))=false:=by decide)
  (hcd:(x ==("__classdict__":Str))=false:=by decide):PE X (.Name x pos) (dE X.K F (dVar i)):=by
 refine PE.imp (zv7 (i:=i) hN hv hd hcd) ?_
 rintro σ H Q ⟨A,t,r,R,e,h⟩
 unfold dVar at e
 split at e
 ·rename_i d q
  cases e
  obtain⟨v,h1,h2⟩:=R.rel.getVal q
  exact⟨v,h1,h v H (Same.refl H) h2⟩
 ·rename_i ds q
  cases e
  obtain⟨p,vs,h1,h2,h3,h4⟩:=R.rel.getOwn q
  refine⟨_,h1,h _ H (Same.refl H) ?_⟩
  exact .lst (SqL.of (zc0 h3 (R.dj p h2))) (Reps.mono (za7 H fun a z=>zau6 _ z) h4)
 ·rename_i d q
  cases e
  obtain⟨v,B,h1,h2,h0,h3⟩:=R.rel.getDp R.nd q
  refine⟨_,h1,h _ H (Same.refl H) ?_⟩
  exact h3.rep (za7 H fun a z=>zau6 _ z) fun b hb o w=>zc0 w (R.dj b (h2 b hb))
 ·cases e
def dC (d:D):DE:=fun _=>some (.cl d)
theorem za6 {i j pos}:PE X (.Constant (.int i) j pos) (dE X.K F (dC (.int i))):=PE.imp pe_int fun σ H Q ⟨A,t,r,R,e,h⟩=>by cases e;exact h _ H (Same.refl H) (.int i)
theorem zah4 {b j pos}:PE X (.Constant (.bool b) j pos) (dE X.K F (dC (.bl b))):=PE.imp pe_bl fun σ H Q ⟨A,t,r,R,e,h⟩=>by cases e;exact h _ H (Same.refl H) (.bl b)
noncomputable def OpD (X:Cx) (F:List Addr) (f:Value→Value→Sem Value) (k:Ev→Ev→Option Ev):Prop :=
 ∀(pins:List (Addr×Obj)) (s:zaw0) (σ:L2.St) (H0 H:Hp) (A:List Addr) (x y:V) (v u:Value) (Q:VK) (r1 r2 r:Ev),Inv X pins σ H s→Lists H0 (A++F)→Same H0 H→RelV x v→RelV y u →
  RepEv X.K F A H0 H r1 x→RepEv X.K F A H0 H r2 y→k r1 r2=some r→(∀z H',Same H H'→RepEv X.K F A H0 H' r z→Q z H')→wpAny (model X.prog X.w) X.A (f v u) (EP X pins σ Q) X.xe s
def d2 (k:Ev→Ev→Option Ev) (fa fb:DE):DE:=fun t=>(fa t).bind fun r1=>(fb t).bind fun r2=>k r1 r2
theorem two {k:Ev→Ev→Option Ev}{σ:L2.St}{H:Hp}{Q:VK} (h:dE X.K F (d2 k fa fb) σ H Q):∃A t r1 r2 r,RS X.K F H A t σ∧fa t=some r1∧fb t=some r2∧k r1 r2=some r ∧
  (∀v H',Same H H'→RepEv X.K F A H H' r v→Q v H')∧dE X.K F fa σ H fun x H1=>dE X.K F fb σ H1 fun y H2=>Same H H2∧RepEv X.K F A H H2 r1 x∧RepEv X.K F A H H2 r2 y:=by
 obtain⟨A,t,r,R,e,h⟩:=h
 unfold d2 at e
 cases e1:fa t with
 |none=>rw [e1]at e;cases e
 |some r1 =>
  cases e2:fb t with
  |none=>rw [e1,e2]at e;cases e
  |some r2 =>
   rw [e1,e2]at e
   exact⟨A,t,r1,r2,r,R,e1,e2,e,h,A,t,r1,R,e1,fun x H1 g1 q1=>⟨A,t,r2,R.grow g1,e2,fun y H2 g2 q2=>⟨g1.trans g2,q1.mono g2,q2.back g1⟩⟩⟩
theorem zc5 {op:Operator}{k:Ev→Ev→Option Ev} (ho:OpD X F (binaryOp op) k) (ha:PE X a (dE X.K F fa)) (hb:PE X b (dE X.K F fb)):PE X (.BinOp a op b pos) (dE X.K F (d2 k fa fb)):=by
 intro pins s σ H Q I h
 obtain⟨A,t,r1,r2,r,R,e1,e2,e,h,w⟩:=two h
 refine wpAny_BinOp (bin ha hb I w fun v u s2 x y H2 I2 rx ry q=>?_)
 obtain⟨g,q1,q2⟩:=q
 exact ho pins s2 σ H H2 A x y v u Q r1 r2 r I2 R.mu g rx ry q1 q2 e fun z H' g'=>h z H' (g.trans g')
theorem ped_cmp {op:CmpOp}{k:Ev→Ev→Option Ev} (ho:OpD X F (compareOp op) k) (ha:PE X a (dE X.K F fa)) (hb:PE X b (dE X.K F fb)) (hm:behindInMarks op b=false:=by first | exact nomark _ | (with_unfolding_all rfl)) :
  PE X (.Compare a [op] [b] pos) (dE X.K F (d2 k fa fb)):=by
 intro pins s σ H Q I h
 obtain⟨A,t,r1,r2,r,R,e1,e2,e,h,w⟩:=two h
 refine wpAny_Compare1 (bin ha hb I w fun v u s2 x y H2 I2 rx ry q=>?_) hm
 obtain⟨g,q1,q2⟩:=q
 exact ho pins s2 σ H H2 A x y v u Q r1 r2 r I2 R.mu g rx ry q1 q2 e fun z H' g'=>h z H' (g.trans g')
noncomputable def kI (C:Int→Int→Bool) (g:Int→Int→D):Ev→Ev→Option Ev:=fun r1 r2=>match r1.d,r2.d with
 |.int i,.int j=>if C i j then some (.cl (g i j)) else none
 |_,_=>none
theorem ze5 {K:zau7}{H:Hp}{i:Int}{v:V} (h:Rep K H (.int i) v):v=.int i:=by cases h;rfl
theorem zaj9 {f:Value→Value→Sem Value}{C:Int→Int→Prop}{g:Int→Int→V}{C':Int→Int→Bool}{g':Int→Int→D} (h:OpR X f (rI C g)) (hc:∀i j,C' i j=true→C i j)
  (hg:∀H i j,Rep X.K H (g' i j) (g i j)):OpD X F f (kI C' g'):=by
 intro pins s σ H0 H A x y v u Q r1 r2 r I m g0 rx ry q1 q2 e hq
 have p1:=q1.full
 have p2:=q2.full
 unfold kI at e
 split at e
 ·rename_i i j d1 d2
  split at e
  ·rename_i c
   cases e
   rw [d1]at p1;rw [d2]at p2
   cases ze5 p1;cases ze5 p2
   exact h pins s σ H _ _ v u Q I rx ry ⟨i,j,rfl,rfl,hc i j c,hq _ H (Same.refl H) (hg _ i j)⟩
  ·cases e
 ·cases e
theorem rI_of {f:Value→Value→Sem Value}{g:Int→Int→V} (h:OpR X f (rI0 g)):OpR X f (rI (fun _ _=>True) g):=fun pins s σ H x y v u Q I rx ry ⟨i,j,e1,e2,_,q⟩=>h pins s σ H x y v u Q I rx ry ⟨i,j,e1,e2,q⟩
def tt2:Int→Int→Bool:=fun _ _=>true
theorem od_add:OpD X F (binaryOp .Add) (kI tt2 fun i j=>.int (i+j)):=zaj9 (rI_of op_add) (fun _ _ _=>trivial) fun _ _ _=>.int _
def bnd:Nat:=2 ^ 4096
def sm (i:Int):Bool:=decide (i.natAbs<bnd)
def cMul (i j:Int):Bool:=sm i&&sm j
def cDiv (_ j:Int):Bool:=sm j&&decide (j≠0)
theorem zap3 {n k:Nat} (h:n<2 ^ k):n.log2≤k:=by
 by_cases z:n=0
 ·subst z;simp
 ·exact zbf6 ((Nat.log2_lt z).mpr h)
theorem cMul.ok {i j:Int} (h:cMul i j=true):IntMulOk i j:=by
 simp only [cMul,sm,zav3,decide_eq_true_eq]at h
 refine mulOk_of_bits (m:=4097) (n:=4097) ?_ ?_ (by decide)
 ·exact intBits_le (zaw1 h.1 (by unfold bnd;exact zbc6 (by decide) (by decide)))
 ·exact intBits_le (zaw1 h.2 (by unfold bnd;exact zbc6 (by decide) (by decide)))
theorem od_mul:OpD X F (binaryOp .Mult) (kI cMul fun i j=>.int (i*j)):=zaj9 (C:=IntMulOk) (opI fun _ _ _ _ _ _ _ hc q=>mul_int q hc) (fun _ _ h=>cMul.ok h) fun _ _ _=>.int _
theorem cDiv.ok {i j:Int} (h:cDiv i j=true):j≠0∧j.natAbs.log2<9000:=by
 simp only [cDiv,sm,zav3,decide_eq_true_eq]at h
 have:=zap3 h.1
 exact⟨h.2,by lia⟩
theorem zao4:OpD X F (binaryOp .FloorDiv) (kI cDiv fun i j=>.int (i.fdiv j)):=zaj9 (C:=fun _ j=>j≠0∧j.natAbs.log2<9000) (opI fun _ _ _ _ _ _ _ hc q=>floordiv_int hc.1 q (.inl (PyProof.noPylong_of_log2 hc.2))) (fun _ _ h=>cDiv.ok h) fun _ _ _=>.int _
def cMod (_ j:Int):Bool:=decide (j≠0)
theorem zo6:OpD X F (binaryOp .Mod) (kI cMod fun i j=>.int (i.fmod j)):=zaj9 op_modN (fun i j h=>by simpa [cMod] using h) fun _ _ _=>.int _
theorem od_lt:OpD X F (compareOp .Lt) (kI tt2 fun i j=>.bl (decide (i<j))):=zaj9 (rI_of op_lt) (fun _ _ _=>trivial) fun _ _ _=>.bl _
theorem od_gt:OpD X F (compareOp .Gt) (kI tt2 fun i j=>.bl (decide (j<i))):=zaj9 (rI_of op_gt) (fun _ _ _=>trivial) fun _ _ _=>.bl _
def kOr (k k':Ev→Ev→Option Ev):Ev→Ev→Option Ev:=fun r1 r2=>match k r1 r2 with
 |some r=>some r
 |none=>k' r1 r2
theorem OpD.or {f:Value→Value→Sem Value}{k k':Ev→Ev→Option Ev} (h:OpD X F f k) (h':OpD X F f k'):OpD X F f (kOr k k'):=by
 intro pins s σ H0 H A x y v u Q r1 r2 r I m g0 rx ry q1 q2 e hq
 unfold kOr at e
 split at e
 ·rename_i z
  cases e
  exact h pins s σ H0 H A x y v u Q r1 r2 _ I m g0 rx ry q1 q2 z hq
 ·exact h' pins s σ H0 H A x y v u Q r1 r2 _ I m g0 rx ry q1 q2 e hq
def d1 (k:Ev→Option Ev) (fa:DE):DE:=fun t=>(fa t).bind k
def kNeg:Ev→Option Ev:=fun r=>match r.d with
 |.int i=>some (.cl (.int (-i)))
 |_=>none
theorem ped_neg (ha:PE X a (dE X.K F fa)):PE X (.UnaryOp .USub a pos) (dE X.K F (d1 kNeg fa)):=by
 refine PE.imp (pe_un un_neg ha) ?_
 rintro σ H Q ⟨A,t,r,R,e,h⟩
 unfold d1 at e
 cases e1:fa t with
 |none=>rw [e1]at e;cases e
 |some r1 =>
  rw [e1]at e
  refine⟨A,t,r1,R,e1,fun x H1 g1 q1=>?_⟩
  have e:kNeg r1=some r:=e
  unfold kNeg at e
  split at e
  ·rename_i i z
   cases e
   have p:=q1.full
   rw [z]at p
   exact⟨i,ze5 p,h _ H1 g1 (.int _)⟩
  ·cases e
end
end DL
namespace DL
open PySem.Spec L2
inductive RepEvs (K:zau7) (F A:List Addr) (H H':Hp):List Ev→List V→Prop
 |nil:RepEvs K F A H H' [] []
 |cons {r:Ev}{v:V}{rs:List Ev}{vs:List V}:RepEv K F A H H' r v→RepEvs K F A H H' rs vs→RepEvs K F A H H' (r::rs) (v::vs)
theorem RepEvs.back {K:zau7}{F A:List Addr}{H0 H H1:Hp} (e:Same H0 H):∀ {rs:List Ev}{vs:List V},RepEvs K F A H H1 rs vs→RepEvs K F A H0 H1 rs vs
 |_,_,.nil=>.nil
 |_,_,.cons h r=>.cons (h.back e) (RepEvs.back e r)
theorem RepEvs.full {K:zau7}{F A:List Addr}{H H':Hp}:∀ {rs:List Ev}{vs:List V},RepEvs K F A H H' rs vs→Reps K H' (rs.map Ev.d) vs
 |_,_,.nil=>.nil
 |_,_,.cons h r=>.cons h.full (RepEvs.full r)
theorem RepEvs.cleanF {K:zau7}{F A:List Addr}{H H':Hp} (m:Lists H (A++F)):∀ {rs:List Ev}{vs:List V},RepEvs K F A H H' rs vs→Reps K (hide F H') (rs.map Ev.d) vs
 |_,_,.nil=>.nil
 |_,_,.cons h r=>.cons (h.cleanF m) (RepEvs.cleanF m r)
theorem RepEvs.clean {K:zau7}{F A:List Addr}{H H':Hp} (m:Lists H (A++F)) (e:Same H H'):∀ {rs:List Ev}{vs:List V},RepEvs K F A H H' rs vs→rs.all Ev.ok=true→Reps K (hide (A++F) H') (rs.map Ev.d) vs
 |_,_,.nil,_=>.nil
 |_,_,.cons h r,c=>by
  simp only [zba0,zav3]at c
  exact .cons (h.clean m e c.1) (RepEvs.clean m e r c.2)
abbrev DA:=Th→Option (List Ev)
noncomputable def dA (K:zau7) (F:List Addr) (f:DA):TA:=fun σ H Q => ∃A t rs,RS K F H A t σ∧f t=some rs∧∀vs H',Same H H'→RepEvs K F A H H' rs vs→Q vs H'
theorem PA.imp {X:Cx}{e:List Expr}{t t':TA} (h:PA X e t) (i:∀σ H Q,t' σ H Q→t σ H Q):PA X e t':=fun pos pins s σ H Q I q=>h pos pins s σ H Q I (i σ H Q q)
def dNil:DA:=fun _=>some []
def za2 (f:DE) (g:DA):DA:=fun t=>(f t).bind fun r=>(g t).bind fun rs=>some (r::rs)
section
variable {X:Cx}{F:List Addr}{a b c:Expr}{es:List Expr}{fa fb fc:DE}{g:DA}{pos:Pos}
theorem za4:PA X [] (dA X.K F dNil):=PA.imp zo5 fun σ H Q ⟨A,t,rs,R,e,h⟩=>by cases e;exact h [] H (Same.refl H) .nil
theorem za1 (ha:PE X a (dE X.K F fa)) (hr:PA X es (dA X.K F g)) (hs:zaw7 (a::es) X.env=(false,eval a X.env)::zaw7 es X.env:=by rfl):PA X (a::es) (dA X.K F (za2 fa g)):=by
 refine PA.imp (zi7 ha hr hs) ?_
 rintro σ H Q ⟨A,t,rs,R,e,h⟩
 unfold za2 at e
 cases e1:fa t with
 |none=>rw [e1]at e;cases e
 |some r1 =>
  cases e2:g t with
  |none=>rw [e1,e2]at e;cases e
  |some rs2 =>
   rw [e1,e2]at e
   cases e
   exact⟨A,t,r1,R,e1,fun x H1 g1 q1=>⟨A,t,rs2,R.grow g1,e2,fun xs H2 g2 q2=>h _ _ (g1.trans g2) (.cons (q1.mono g2) (q2.back g1))⟩⟩
noncomputable def kTup:List Ev→Option Ev:=fun rs=>if rs.length≤1000 then (if rs.all Ev.ok then some (.cl (.tup (rs.map Ev.d))) else some (.tm (.tup (rs.map Ev.d)))) else none
def dT1 (k:List Ev→Option Ev) (g:DA):DE:=fun t=>(g t).bind k
theorem RepEvs.length {K:zau7}{F A:List Addr}{H H':Hp}:∀ {rs:List Ev}{vs:List V},RepEvs K F A H H' rs vs→vs.length=rs.length
 |_,_,.nil=>rfl
 |_,_,.cons _ r=>by simp [RepEvs.length r]
theorem zl3 {n:Nat} (h:n≤100000):n≤sizeLine:=zax3 h (by rw [sizeLine_eq];decide)
theorem zc4 {H:Hp}{p:Addr}{o:HO} (h:H p=none):Same H (upd H p o):=fun b u e=>by rw [zb9 (fun z=>by rw [z,h]at e;cases e)];exact e
theorem zk1 {x1} (h:PA X es (dA X.K F g)):PE X (.Tuple es x1 pos) (dE X.K F (dT1 kTup g)):=by
 refine PE.imp (pe_tup h) ?_
 rintro σ H Q ⟨A,t,r,R,e,h⟩
 unfold dT1 at e
 cases e1:g t with
 |none=>rw [e1]at e;cases e
 |some rs =>
  rw [e1]at e
  have e:kTup rs=some r:=e
  unfold kTup at e
  split at e
  case isFalse=>cases e
  rename_i hl
  refine⟨A,t,rs,R,e1,fun vs H1 g1 q1=>⟨by rw [q1.length];exact zl3 (by lia),fun p hp=>?_⟩⟩
  have s1:=zc4 (o:=HO.tup vs) hp
  refine h _ _ (g1.trans s1) ?_
  have np:p∉A++F:=zd2 (R.mu.mono g1) hp
  split at e
  ·rename_i c
   cases e
   exact .tup (SqT.of (zc0 zb4 np)) (Reps.mono (za8 s1) (q1.clean R.mu g1 c))
  ·cases e
   exact .tup (SqT.of (zc0 zb4 fun z=>np (zau6 _ z))) (Reps.mono (za8 s1) (q1.cleanF R.mu))
def kLst:List Ev→Option Ev:=fun rs=>if rs.length≤1000∧rs.all Ev.ok then some (.nw (rs.map Ev.d)) else none
theorem zi6 {P:List Addr}{H:Hp}{p:Addr}{o:HO} (h:H p=none):Same (hide P H) (hide (p::P) (upd H p o)):=fun b u e=>by
 obtain⟨n,e⟩:=zk2 e
 have nb:b≠p:=fun z=>by rw [z,h]at e;cases e
 refine zc0 (by rw [zb9 nb];exact e) fun z=>?_
 rcases zav5.mp z with z | z
 ·exact nb z
 ·exact n z
theorem zg5 (h:PA X es (dA X.K F g)):PE X (.List es pos) (dE X.K F (dT1 kLst g)):=by
 refine PE.imp (pe_lst h) ?_
 rintro σ H Q ⟨A,t,r,R,e,h⟩
 unfold dT1 at e
 cases e1:g t with
 |none=>rw [e1]at e;cases e
 |some rs =>
  rw [e1]at e
  have e:kLst rs=some r:=e
  unfold kLst at e
  split at e
  case isFalse=>cases e
  rename_i hl
  cases e
  refine⟨A,t,rs,R,e1,fun vs H1 g1 q1=>⟨by rw [q1.length];exact zl3 (by lia),fun p hp=>?_⟩⟩
  have s1:=zc4 (o:=HO.lst vs) hp
  refine h _ _ (g1.trans s1) ⟨p,vs,rfl,?_,zb4,Reps.mono (zi6 hp) (q1.clean R.mu g1 hl.2)⟩
  exact Same.free g1 hp
noncomputable def spD (K:zau7) (G:List D→Option Ev):Sp:=fun vs H Q _ => ∃Fo ds r,Lists H Fo∧Reps K (hide Fo H) ds vs∧G ds=some r∧∀v H',Same H H'→RepEv K Fo [] H H' r v→Q v H'
noncomputable def upEv (ok:Bool) (r:Ev):Ev:=if ok then (match r with
  |.cl d=>.cl d
  |.tm d=>.cl d
  |.nw xs=>.nw xs
  |.dn d=>.dn d) else match r with
  |.cl d=>if flat d then .cl d else .tm d
  |.tm d=>if flat d then .cl d else .tm d
  |.nw xs=>if flats xs then .nw xs else .tm (.lst xs)
  |.dn d=>.dn d
def zc8 (G:List D→Option Ev):List Ev→Option Ev:=fun rs=>(G (rs.map Ev.d)).map (upEv (rs.all Ev.ok))
theorem call_up {K:zau7}{A:List Addr}{G:List D→Option Ev}{H0 H:Hp}{rs:List Ev}{r:Ev}{vs:List V}{Q:VK}{E:XK} (m:Lists H0 (A++F)) (g:Same H0 H) (q:RepEvs K F A H0 H rs vs) (e:zc8 G rs=some r)
  (h:∀v H',Same H H'→RepEv K F A H0 H' r v→Q v H'):spD K G vs H Q E:=by
 unfold zc8 at e
 cases e1:G (rs.map Ev.d) with
 |none=>rw [e1]at e;cases e
 |some r0 =>
  rw [e1]at e
  have e:upEv (rs.all Ev.ok) r0=r:=by simpa using e
  have mH:=m.mono g
  by_cases c:rs.all Ev.ok=true
  ·refine⟨A++F,rs.map Ev.d,r0,mH,q.clean m g c,e1,fun v H' g' w=>h v H' g' ?_⟩
   rw [c]at e
   subst e
   cases r0 with
   |cl d=>exact w
   |tm d=>exact w
   |nw xs =>
    obtain⟨p,us,rfl,h1,h2,h3⟩:=w
    exact⟨p,us,rfl,Same.free g h1,h2,h3⟩
   |dn d =>
    obtain⟨B,h1,h2,h3⟩:=w
    exact⟨B,h1,fun b hb=>Same.free g (h2 b hb),h3⟩
  ·refine⟨F,rs.map Ev.d,r0,fun p hp=>mH p (zau6 _ hp),q.cleanF m,e1,fun v H' g' w=>h v H' g' ?_⟩
   have c:rs.all Ev.ok=false:=by simpa using c
   rw [c]at e
   subst e
   have m':=mH.mono g'
   cases r0 with
   |cl d =>
    show RepEv K F A H0 H' (if flat d then .cl d else .tm d) v
    split
    ·rename_i f;exact Rep.hid m' f (Rep.mono (zb3 _ _) w)
    ·exact w
   |tm d =>
    show RepEv K F A H0 H' (if flat d then .cl d else .tm d) v
    split
    ·rename_i f;exact Rep.hid m' f (Rep.mono (zb3 _ _) w)
    ·exact w
   |nw xs =>
    obtain⟨p,us,rfl,h1,h2,h3⟩:=w
    have np:p∉A++F:=zd2 mH h1
    show RepEv K F A H0 H' (if flats xs then .nw xs else .tm (.lst xs)) _
    split
    ·rename_i f
     refine⟨p,us,rfl,Same.free g h1,h2,Reps.hid (P:=p ::(A++F)) (fun b hb=>?_) f (Reps.mono (zb3 _ _) h3)⟩
     rcases zav5.mp hb with rfl | hb
     ·exact⟨mL us,h2⟩
     ·exact m' b hb
    ·exact .lst (SqL.of (zc0 h2 fun z=>np (zau6 _ z))) (Reps.mono (za7 H' fun b z=>zau8 _ z) h3)
   |dn d =>
    obtain⟨B,h1,h2,h3⟩:=w
    exact⟨B,h1,fun b hb=>Same.free g (h2 b hb),h3.hid (h3.lists.app m') (zb3 _ _)⟩
theorem ped_call {k:Nat}{f:Addr}{fd:FuncData}{ps:List Str}{G:List D→Option Ev}{x:Str}{p:Pos} (Fn:FnOk X.prog X.w X.K X.mg X.base CX0 k f fd ps (spD X.K G)) (hr:Room k X.A) (hg:Gl X x) (hm:X.mg x=some (.ref f)) (hk:zaz0 X.K (.ref f)=true)
  (hb:Binds X.K fd ps []) (ha:PA X (a::es) (dA X.K F g)) (hdb:(x ==("__debug__":Str))=false:=by decide) (he:zaw7 (a::es) X.env=(false,eval a X.env)::zaw7 es X.env:=by rfl)
  (hpl:(zbd6 pos (zaw7 es X.env)).any (·.1)=false:=by rfl):PE X (.Call (.Name x p) (a::es) [] pos) (dE X.K F (dT1 (zc8 G) g)):=by
 refine PE.imp (pe_call Fn hr hg hm hk hb .nil (E:=E0) pass0 ha hdb he hpl) ?_
 rintro σ H Q ⟨A,t,r,R,e,h⟩
 unfold dT1 at e
 cases e1:g t with
 |none=>rw [e1]at e;cases e
 |some rs =>
  rw [e1]at e
  refine⟨A,t,rs,R,e1,fun vs H1 g1 q1=>?_⟩
  show spD X.K G (vs++[]) H1 Q E0
  rw [zbd4]
  exact call_up R.mu g1 q1 e fun v H' g' w=>h v H' (g1.trans g') w
noncomputable def CallD (X:Cx) (F:List Addr) (f:Value) (k:List Ev→Option Ev):Prop :=
 ∀(pins:List (Addr×Obj)) (s:zaw0) (σ:L2.St) (H0 H:Hp) (A:List Addr) (xs:List V) (us:List Value) (Q:VK) (rs:List Ev) (r:Ev),Inv X pins σ H s→Lists H0 (A++F)→Same H0 H→Vals xs us→RepEvs X.K F A H0 H rs xs→k rs=some r →
  (∀z H',Same H H'→RepEv X.K F A H0 H' r z→Q z H')→wpAny (model X.prog X.w) X.A (call f us) (EP X pins σ Q) X.xe s
theorem PA.run (ha:PA X es (dA X.K F g)) {k:List Ev→Option Ev}{f:Value} (hc:CallD X F f k) {pins:List (Addr×Obj)}{s:zaw0}{σ:L2.St}{H:Hp}{Q:VK} (p:Pos) (I:Inv X pins σ H s) (h:dE X.K F (dT1 k g) σ H Q) :
  wpAny (model X.prog X.w) X.A (spliced (zbd6 p (zaw7 es X.env))) (fun us s1=>wpAny (model X.prog X.w) X.A (call f us) (EP X pins σ Q) X.xe s1) X.xe s:=by
 obtain⟨A,t,r,R,e,h⟩:=h
 unfold dT1 at e
 cases e1:g t with
 |none=>rw [e1]at e;cases e
 |some rs =>
  rw [e1]at e
  refine thn (ha p pins s σ H (fun vs H1=>Same H H1∧RepEvs X.K F A H H1 rs vs) I ⟨A,t,rs,R,e1,fun vs H1 g1 q1=>⟨g1,q1⟩⟩) fun us s1 ⟨vs,H1,I1,r1,g1,q1⟩=>?_
  exact hc pins s1 σ H H1 A vs us Q rs r I1 R.mu g1 r1 q1 e fun z H' g'=>h z H' (g1.trans g')
theorem zb8 {k:List Ev→Option Ev}{x:Str}{p:Pos}{id:String} (hc:CallD X F (.builtin id) k) (hg:Gl X x) (hm:X.mg x=none) (hv:bootBuiltins x=some (.builtin id)) (ha:PA X (a::es) (dA X.K F g)) (hn:x≠"__name__":=by decide) (hdb:(x ==("__debug__":Str))=false:=by decide)
  (he:zaw7 (a::es) X.env=(false,eval a X.env)::zaw7 es X.env:=by rfl) (hpl:(zbd6 pos (zaw7 es X.env)).any (·.1)=false:=by rfl):PE X (.Call (.Name x p) (a::es) [] pos) (dE X.K F (dT1 k g)):=by
 intro pins s σ H Q I h
 refine wpAny_Call_Name_kw (zo9 I hg hm hv ?_ hn hdb)
 exact PyProof.Rows.callWith_builtin1 (PA.run ha hc pos I h) he hpl
theorem zz9 {k:List Ev→Option Ev}{x:Str}{p:Pos}{T:String} (hc:CallD X F (.type T) k) (hg:Gl X x) (hm:X.mg x=none) (hv:bootBuiltins x=some (.type T)) (ha:PA X (a::es) (dA X.K F g)) (hn:x≠"__name__":=by decide) (hdb:(x ==("__debug__":Str))=false:=by decide)
  (he:zaw7 (a::es) X.env=(false,eval a X.env)::zaw7 es X.env:=by rfl) (hpl:(zbd6 pos (zaw7 es X.env)).any (·.1)=false:=by rfl):PE X (.Call (.Name x p) (a::es) [] pos) (dE X.K F (dT1 k g)):=by
 intro pins s σ H Q I h
 refine wpAny_Call_Name_kw (zo9 I hg hm hv ?_ hn hdb)
 exact PyProof.Rows.callWith_type1 (PA.run ha hc pos I h) he hpl
theorem CallD.of {f:Value}{r:List V→Hp→VK→Prop}{k:List Ev→Option Ev} (h:zq6 X f r)
  (i:∀(H0 H:Hp) (A:List Addr) (xs:List V) (rs:List Ev) (e:Ev) (Q:VK),Lists H0 (A++F)→Same H0 H→RepEvs X.K F A H0 H rs xs→k rs=some e→(∀z H',Same H H'→RepEv X.K F A H0 H' e z→Q z H')→r xs H Q):CallD X F f k :=
 fun pins s σ H0 H A xs us Q rs e I m g v q ek hq=>h pins s σ H xs us Q I v (i H0 H A xs rs e Q m g q ek hq)
noncomputable def kAbs:List Ev→Option Ev:=fun rs=>match rs with
 |[r]=>(match r.d with
  |.int i=>some (.cl (.int (if i<0 then -i else i)))
  |_=>none)
 |_=>none
theorem cd_abs:CallD X F (.builtin "abs") kAbs:=CallD.of call_abs fun H0 H A xs rs e Q m g q ek hq=>by
 unfold kAbs at ek
 split at ek
 ·rename_i r
  split at ek
  ·rename_i i z
   cases ek
   cases q with
   |cons q1 q2 =>
    cases q2
    have p:=q1.full
    rw [z]at p
    cases ze5 p
    exact⟨i,rfl,hq _ H (Same.refl H) (.int _)⟩
  ·cases ek
 ·cases ek
noncomputable def kLen:List Ev→Option Ev:=fun rs=>match rs with
 |[r]=>(match r.d with
  |.lst xs=>some (.cl (.int xs.length))
  |.tup xs=>some (.cl (.int xs.length))
  |_=>none)
 |_=>none
theorem zj6:CallD X F (.builtin "len") kLen:=CallD.of zac7 fun H0 H A xs rs e Q m g q ek hq=>by
 unfold kLen at ek
 split at ek
 ·rename_i r
  cases q with
  |cons q1 q2 =>
   cases q2
   have p:=q1.full
   split at ek
   ·rename_i ds z
    cases ek
    rw [z]at p
    cases p with
    |lst h1 h2=>exact⟨_,_,rfl,.inl h1,by rw [h2.length];exact hq _ H (Same.refl H) (.int _)⟩
   ·rename_i ds z
    cases ek
    rw [z]at p
    cases p with
    |tup h1 h2=>exact⟨_,_,rfl,.inr h1,by rw [h2.length];exact hq _ H (Same.refl H) (.int _)⟩
   ·cases ek
 ·cases ek
end
end DL
namespace DL
open PySem.Spec L2
abbrev DT:=Th→Option Bool
def dT (K:zau7) (F:List Addr) (f:DT):TT:=fun σ H Q => ∃A t b,RS K F H A t σ∧f t=some b∧∀H',Same H H'→Q b H'
theorem PT.imp {X:Cx}{e:Expr}{t t':TT} (h:PT X e t) (i:∀σ H Q,t' σ H Q→t σ H Q):PT X e t':=fun pins s σ H Q I q=>h pins s σ H Q I (i σ H Q q)
theorem PW.imp {X:Cx}{e:Expr}{t t':TT} (h:PW X e t) (i:∀σ H Q,t' σ H Q→t σ H Q):PW X e t':=fun w pins s σ H Q I q=>h w pins s σ H Q I (i σ H Q q)
noncomputable def truD:D→Option Bool
 |.non=>some false
 |.bl b=>some b
 |.int i=>some (i != 0)
 |.tup xs=>some (!xs.isEmpty)
 |.lst xs=>some (!xs.isEmpty)
 |.dct ks _=>some (!ks.isEmpty)
 |.pdc _=>none
 |.str y=>if y.length≤100000 then some ((y.length:Int) != 0) else none
theorem zn3 {α β:Type}{xs:List α}{ys:List β} (h:xs.length=ys.length):xs.isEmpty=ys.isEmpty:=by
 cases xs<;>cases ys<;>simp_all
theorem truV_of {K:zau7}{H:Hp}{d:D}{v:V}{b:Bool} (r:Rep K H d v) (e:truD d=some b):TruV K v H b:=by
 cases r with
 |non=>cases e;rfl
 |bl b=>cases e;rfl
 |int i=>cases e;rfl
 |str x =>
  simp only [truD]at e
  split at e
  ·cases e;exact⟨zl3 (by assumption),rfl⟩
  ·cases e
 |tup h1 h2=>cases e;exact .inr (.inl ⟨_,h1,by rw [zn3 h2.length]⟩)
 |lst h1 h2=>cases e;exact .inl ⟨_,h1,by rw [zn3 h2.length]⟩
 |@dct ks ds p vs l h1 h2 =>
  cases e
  have e1:(mkKV ks vs).length=ks.length:=by unfold mkKV;rw [zbc2];lia
  exact .inr (.inr ⟨_,h1,by rw [zn3 e1]⟩)
 |pdc h=>cases e
def dTr (f:DE):DT:=fun t=>(f t).bind fun r=>truD r.d
def dBo (f:DE):DT:=fun t=>(f t).bind fun r=>match r.d with
 |.bl b=>some b
 |_=>none
def dAnd (f g:DT):DT:=fun t=>(f t).bind fun b=>if b then g t else some false
def dOr (f g:DT):DT:=fun t=>(f t).bind fun b=>if b then some true else g t
section
variable {X:Cx}{F:List Addr}{a b c:Expr}{es:List Expr}{fa fb fc:DE}{g g':DA}{ft fu:DT}{pos:Pos}{rest:List Expr}
theorem zam5 (ha:PE X a (dE X.K F fa)) (he:∀whole,isTrue a X.env whole=(do let v ← whole;standAt a.pos;holding [v] (truthy v)):=by intro _;rfl):PT X a (dT X.K F (dTr fa)):=by
 refine PT.imp (pt_truth ha he) ?_
 rintro σ H Q ⟨A,t,r,R,e,h⟩
 unfold dTr at e
 cases e1:fa t with
 |none=>rw [e1]at e;cases e
 |some r1 =>
  rw [e1]at e
  exact⟨A,t,r1,R,e1,fun v H' g' q=>⟨r,truV_of q.full e,h H' g'⟩⟩
theorem zc7 {op:CmpOp}{k:Ev→Ev→Option Ev} (ho:OpD X F (compareOp op) k) (ha:PE X a (dE X.K F fa)) (hb:PE X b (dE X.K F fb)) (hm:behindInMarks op b=false:=by first | exact nomark _ | (with_unfolding_all rfl)) :
  PT X (.Compare a [op] [b] pos) (dT X.K F (dBo (d2 k fa fb))):=by
 intro pins s σ H Q I h
 obtain⟨A,t,b',R,e,h⟩:=h
 unfold dBo at e
 cases e1:d2 k fa fb t with
 |none=>rw [e1]at e;cases e
 |some r0 =>
  rw [e1]at e
  have w0:dE X.K F (d2 k fa fb) σ H (fun z H'=>Same H H'∧Rep X.K H' r0.d z):=⟨A,t,r0,R,e1,fun v H' g q=>⟨g,q.full⟩⟩
  obtain⟨A2,t2,r1,r2,r,R2,e1',e2',e3,h3,w⟩:=two w0
  refine wpAny_isTrue_Compare1 (bin ha hb I w fun v u s2 x y H2 I2 rx ry q=>?_) hm
  obtain⟨g,q1,q2⟩:=q
  refine thn (ho pins s2 σ H H2 A2 x y v u (fun z H'=>Same H H'∧Rep X.K H' r0.d z) r1 r2 r I2 R2.mu g rx ry q1 q2 e3 fun z H' g'=>h3 z H' (g.trans g')) fun cc s3 ⟨z,H3,I3,r3,g3,q3⟩=>?_
  have e:(match r0.d with | .bl b=>some b | _=>none)=some b':=e
  split at e
  ·rename_i b2 z2
   cases e
   rw [z2]at q3
   cases q3
   cases r3
   exact wpAny_truthy_bool ⟨H3,I3,h H3 g3⟩
  ·cases e
theorem zw8 (ha:PT X a (dT X.K F ft)):PW X (.BoolOp .And [a] pos) (dT X.K F ft):=pw_and1 ha
theorem zam3 (ha:PT X a (dT X.K F ft)):PW X (.BoolOp .Or [a] pos) (dT X.K F ft):=pw_or1 ha
theorem zae0 (ha:PT X a (dT X.K F ft)) (hb:PW X (.BoolOp .And (b::rest) pos) (dT X.K F fu)):PW X (.BoolOp .And (a::b::rest) pos) (dT X.K F (dAnd ft fu)):=by
 refine PW.imp (pw_and ha hb) ?_
 rintro σ H Q ⟨A,t,r,R,e,h⟩
 unfold dAnd at e
 cases e1:ft t with
 |none=>rw [e1]at e;cases e
 |some r1 =>
  rw [e1]at e
  refine⟨A,t,r1,R,e1,fun H1 g1=>?_⟩
  cases r1 with
  |true=>exact⟨A,t,r,R.grow g1,e,fun H2 g2=>h H2 (g1.trans g2)⟩
  |false=>cases e;exact h H1 g1
theorem pwd_or (ha:PT X a (dT X.K F ft)) (hb:PW X (.BoolOp .Or (b::rest) pos) (dT X.K F fu)):PW X (.BoolOp .Or (a::b::rest) pos) (dT X.K F (dOr ft fu)):=by
 refine PW.imp (pw_or ha hb) ?_
 rintro σ H Q ⟨A,t,r,R,e,h⟩
 unfold dOr at e
 cases e1:ft t with
 |none=>rw [e1]at e;cases e
 |some r1 =>
  rw [e1]at e
  refine⟨A,t,r1,R,e1,fun H1 g1=>?_⟩
  cases r1 with
  |true=>cases e;exact h H1 g1
  |false=>exact⟨A,t,r,R.grow g1,e,fun H2 g2=>h H2 (g1.trans g2)⟩
end
inductive Out where
 |nx (t:Th) |rt (r:Ev) |bk (t:Th) |ct (t:Th)
abbrev DS:=Th→Option Out
def After (K:zau7) (F A:List Addr) (H:Hp) (N:L2.St→Hp→Prop) (t:Th):Prop := ∀σ' H' A',Gr A H A' H'→RS K F H' A' t σ'→N σ' H'
noncomputable def RetEv (K:zau7) (F A:List Addr) (H H':Hp):Ev→V→Prop
 |.cl d,v=>Rep K (hide F H') d v
 |.tm d,v=>Rep K (hide F H') d v
 |.nw xs,v => ∃p vs,v=.ref p∧(p∈A∨H p=none)∧p∉F∧H' p=some (.lst vs)∧Reps K (hide (p::F) H') xs vs
 |.dn d,v => ∃B,B.Nodup∧(∀b∈B,(b∈A∨H b=none)∧b∉F)∧RepD K (hide (B++F) H') H' d v B
def Back (K:zau7) (F A:List Addr) (H:Hp) (N:VK) (r:Ev):Prop := ∀v H' A',Gr A H A' H'→RetEv K F A H H' r v→N v H'
noncomputable def dS (K:zau7) (F:List Addr) (g:DS):TS:=fun E σ H => ∃A t o,RS K F H A t σ∧g t=some o∧match o with
 |.nx t'=>After K F A H E.nx t'
 |.bk t'=>After K F A H E.bk t'
 |.ct t'=>After K F A H E.ct t'
 |.rt r=>Back K F A H E.rt r
end DL
namespace DL
open PySem.Spec L2
theorem RetEv.back {K:zau7}{F A A1:List Addr}{H H1 H':Hp}{r:Ev}{v:V} (g:Gr A H A1 H1) (h:RetEv K F A1 H1 H' r v):RetEv K F A H H' r v:=by
 cases r with
 |cl d=>exact h
 |tm d=>exact h
 |nw xs =>
  obtain⟨p,vs,rfl,h1,h2,h3,h4⟩:=h
  refine⟨p,vs,rfl,?_,h2,h3,h4⟩
  rcases h1 with h1 | h1
  ·exact g.nw p h1
  ·by_cases z:p∈A
   ·exact .inl z
   ·refine .inr ?_
    cases w:H p with
    |none=>rfl
    |some o=>rw [g.kp p o z w]at h1;cases h1
 |dn d =>
  obtain⟨B,h0,h1,h2⟩:=h
  refine⟨B,h0,fun p hp=>⟨?_,(h1 p hp).2⟩,h2⟩
  rcases (h1 p hp).1 with h1 | h1
  ·exact g.nw p h1
  ·by_cases z:p∈A
   ·exact .inl z
   ·refine .inr ?_
    cases w:H p with
    |none=>rfl
    |some o=>rw [g.kp p o z w]at h1;cases h1
theorem After.back {K:zau7}{F A A1:List Addr}{H H1:Hp}{N:L2.St→Hp→Prop}{t:Th} (h:After K F A H N t) (g:Gr A H A1 H1):After K F A1 H1 N t:=fun σ' H' A' g' R=>h σ' H' A' (g.trans g') R
theorem Back.back {K:zau7}{F A A1:List Addr}{H H1:Hp}{N:VK}{r:Ev} (h:Back K F A H N r) (g:Gr A H A1 H1):Back K F A1 H1 N r:=fun v H' A' g' R=>h v H' A' (g.trans g') (R.back g)
theorem PS.imp {X:Cx}{e:Stmt}{t t':TS} (h:PS X e t) (i:∀E σ H,t' E σ H→t E σ H):PS X e t':=fun pins s σ H D I q=>h pins s σ H D I (i D σ H q)
theorem PSs.imp {X:Cx}{e:List Stmt}{t t':TS} (h:PSs X e t) (i:∀E σ H,t' E σ H→t E σ H):PSs X e t':=fun pins s σ H D I q=>h pins s σ H D I (i D σ H q)
theorem Lists.left {H:Hp}{A F:List Addr} (h:Lists H (A++F)):Lists H A:=fun p hp=>h p (zau9 _ hp)
def zl8:DS:=fun t=>some (.nx t)
noncomputable def dSeq (g1 g2:DS):DS:=fun t=>(g1 t).bind fun o=>match o with
 |.nx t'=>g2 t'
 |.rt r=>some (.rt r)
 |.bk t'=>some (.bk t')
 |.ct t'=>some (.ct t')
section
variable {X:Cx}{F:List Addr}{a b c:Expr}{es:List Expr}{fa fb fc:DE}{g g1 g2:DS}{ft fu:DT}{pos:Pos}{st:Stmt}{rest:List Stmt}
theorem zk8:PSs X [] (dS X.K F zl8):=PSs.imp pss_nil fun E σ H ⟨A,t,o,R,e,h⟩=>by cases e;exact h σ H A (Gr.refl R.mu.left) R
theorem za5 (h1:PS X st (dS X.K F g1)) (h2:PSs X rest (dS X.K F g2)):PSs X (st::rest) (dS X.K F (dSeq g1 g2)):=by
 refine PSs.imp (pss_cons h1 h2) ?_
 rintro E σ H ⟨A,t,o,R,e,h⟩
 unfold dSeq at e
 cases e1:g1 t with
 |none=>rw [e1]at e;cases e
 |some o1 =>
  rw [e1]at e
  refine⟨A,t,o1,R,e1,?_⟩
  cases o1 with
  |nx t' =>
   intro σ' H' A' g' R'
   refine⟨A',t',o,R',e,?_⟩
   cases o with
   |nx t2=>exact After.back h g'
   |bk t2=>exact After.back h g'
   |ct t2=>exact After.back h g'
   |rt r=>exact Back.back h g'
  |rt r=>cases e;exact h
  |bk t2=>cases e;exact h
  |ct t2=>cases e;exact h
theorem zb7 (h1:PS X st (dS X.K F g1)):PSs X [st] (dS X.K F g1):=pss_one h1
def dIfS (c:DT) (g1 g2:DS):DS:=fun t=>(c t).bind fun b=>if b then g1 t else g2 t
theorem zo4 {s1 s2:List Stmt} (hc:PT X c (dT X.K F ft)) (ha:PSs X s1 (dS X.K F g1)) (hb:PSs X s2 (dS X.K F g2)):PS X (.If c s1 s2 pos) (dS X.K F (dIfS ft g1 g2)):=by
 refine PS.imp (ps_if hc ha hb) ?_
 rintro E σ H ⟨A,t,o,R,e,h⟩
 unfold dIfS at e
 cases e1:ft t with
 |none=>rw [e1]at e;cases e
 |some r1 =>
  rw [e1]at e
  refine⟨A,t,r1,R,e1,fun H1 gs=>?_⟩
  have gr:Gr A H A H1:=Gr.of_same R.mu.left gs
  cases r1 with
  |true =>
   refine⟨A,t,o,R.grow gs,e,?_⟩
   cases o with
   |nx t2=>exact After.back h gr
   |bk t2=>exact After.back h gr
   |ct t2=>exact After.back h gr
   |rt r=>exact Back.back h gr
  |false =>
   refine⟨A,t,o,R.grow gs,e,?_⟩
   cases o with
   |nx t2=>exact After.back h gr
   |bk t2=>exact After.back h gr
   |ct t2=>exact After.back h gr
   |rt r=>exact Back.back h gr
def dRet (f:DE):DS:=fun t=>(f t).bind fun r=>some (.rt r)
theorem RetEv.of {K:zau7}{F A:List Addr}{H H':Hp}{r:Ev}{v:V} (m:Lists H (A++F)) (h:RepEv K F A H H' r v):RetEv K F A H H' r v:=by
 cases r with
 |cl d=>exact Rep.mono (za7 H' fun a z=>zau6 _ z) h
 |tm d=>exact h
 |nw xs =>
  obtain⟨p,vs,rfl,h1,h2,h3⟩:=h
  have np:p∉A++F:=zd2 m h1
  refine⟨p,vs,rfl,.inr h1,fun z=>np (zau6 _ z),h2,Reps.mono (za7 H' fun a z=>?_) h3⟩
  rcases zav5.mp z with z | z
  ·rw [z];exact zav1 ..
  ·exact zau8 _ (zau6 _ z)
 |dn d =>
  obtain⟨B,h1,h2,h3⟩:=h
  refine⟨B,h1,fun b hb=>⟨.inr (h2 b hb),fun z=>zd2 m (h2 b hb) (zau6 _ z)⟩,RepD.mono (za7 H' fun a z=>?_) h3 fun _ _ _ q=>q⟩
  rcases zav2.mp z with z | z
  ·exact zau9 _ z
  ·exact zau6 _ (zau6 _ z)
theorem zf7 (ha:PE X a (dE X.K F fa)):PS X (.Return (some a) pos) (dS X.K F (dRet fa)):=by
 refine PS.imp (zam9 ha) ?_
 rintro E σ H ⟨A,t,o,R,e,h⟩
 unfold dRet at e
 cases e1:fa t with
 |none=>rw [e1]at e;cases e
 |some r1 =>
  rw [e1]at e
  cases e
  exact⟨A,t,r1,R,e1,fun v H' gs q=>h v H' A (Gr.of_same R.mu.left gs) (RetEv.of R.mu q)⟩
noncomputable def dRetO (i:Nat):DS:=fun t=>match t[i]? with
 |some (.own xs)=>some (.rt (.nw xs))
 |some (.val d)=>some (.rt (.cl d))
 |some (.dp d)=>some (.rt (.dn d))
 |_=>none
theorem psd_retO (i:Nat) {x:Str}{pos':Pos} (hN:X.N[i]?=some x:=by rfl) (hv:Vis X.env.scope x:=by first | exact Or.inl rfl | exact Or.inr (Or.inl rfl) |exact Or.inr (Or.inr rfl)) (hd:(x ==("__debug__":Str))=false:=by decide)
  (hcd:(x ==("__classdict__":Str))=false:=by decide):PS X (.Return (some (.Name x pos')) pos) (dS X.K F (dRetO i)):=by
 refine PS.imp (zam9 (zv7 (i:=i) hN hv hd hcd)) ?_
 rintro E σ H ⟨A,t,o,R,e,h⟩
 unfold dRetO at e
 split at e
 ·rename_i ds q
  cases e
  obtain⟨p,vs,h1,h2,h3,h4⟩:=R.rel.getOwn q
  refine⟨_,h1,h _ H A (Gr.refl R.mu.left) ⟨p,vs,rfl,.inl h2,R.dj p h2,h3,Reps.mono (za7 H fun a z=>?_) h4⟩⟩
  rcases zav5.mp z with z | z
  ·rw [z];exact zau9 _ h2
  ·exact zau6 _ z
 ·rename_i d q
  cases e
  obtain⟨v,h1,h2⟩:=R.rel.getVal q
  exact⟨v,h1,h v H A (Gr.refl R.mu.left) (Rep.mono (za7 H fun a z=>zau6 _ z) h2)⟩
 ·rename_i d q
  cases e
  obtain⟨v,B,h1,h2,h0,h3⟩:=R.rel.getDp R.nd q
  refine⟨v,h1,h v H A (Gr.refl R.mu.left) ⟨B,h0,fun b hb=>⟨.inl (h2 b hb),R.dj b (h2 b hb)⟩,RepD.mono (za7 H fun a z=>?_) h3 fun _ _ _ q=>q⟩⟩
  rcases zav2.mp z with z | z
  ·exact zau9 _ (h2 a z)
  ·exact zau6 _ z
 ·cases e
end
theorem RSl.setVal {K:zau7}{H0 H:Hp}{d:D}{v:V} (h:Rep K H0 d v):∀ {t:Th}{σ:L2.St}{A:List Addr} (i:Nat),RSl K H0 H t σ A→i<t.length→∃A',RSl K H0 H (t.set i (.val d)) (σ.set i (some v)) A'∧List.Sublist A' A
 |_,_,_,_,.nil,l=>by simp at l
 |_,_,_,0,.no r,_=>⟨_,.val h r,List.Sublist.refl _⟩
 |_,_,_,0,.val _ r,_=>⟨_,.val h r,List.Sublist.refl _⟩
 |_,_,_,0,.own _ _ r,_=>⟨_,.val h r,List.sublist_cons_self _ _⟩
 |_,_,_,0,.dp _ r,_=>⟨_,.val h r,List.sublist_append_right _ _⟩
 |_,_,_,i+1,.no r,l=>let ⟨A',a,b⟩:=RSl.setVal h i r (by simpa using l);⟨A',.no a,b⟩
 |_,_,_,i+1,.val q r,l=>let ⟨A',a,b⟩:=RSl.setVal h i r (by simpa using l);⟨A',.val q a,b⟩
 |_,_,_,i+1,.own q1 q2 r,l=>let ⟨A',a,b⟩:=RSl.setVal h i r (by simpa using l);⟨_,.own q1 q2 a,b.cons₂ _⟩
 |_,_,_,i+1,.dp q r,l=>let ⟨A',a,b⟩:=RSl.setVal h i r (by simpa using l);⟨_,.dp q a,List.Sublist.append (List.Sublist.refl _) b⟩
theorem RSl.setAny {K:zau7}{H0 H:Hp}{s:Sl}{v:V}{B:List Addr} (h:∀ {t:Th}{σ:L2.St}{A:List Addr},RSl K H0 H t σ A→RSl K H0 H (s::t) (some v::σ) (B++A)):∀ {t:Th}{σ:L2.St}{A:List Addr} (i:Nat),RSl K H0 H t σ A→i<t.length →
  ∃A',RSl K H0 H (t.set i s) (σ.set i (some v)) A'∧(∀x∈A',x∈B∨x∈A)∧(A.Nodup→B.Nodup→(∀b∈B,b∉A)→A'.Nodup)
 |_,_,_,_,.nil,l=>by simp at l
 |_,_,A,0,.no r,_=>⟨_,h r,fun x hx=>zav2.mp hx,fun n1 n2 d=>zaw2.mpr ⟨n2,n1,fun a ha b hb e=>d a ha (e ▸ hb)⟩⟩
 |_,_,A,0,.val _ r,_=>⟨_,h r,fun x hx=>zav2.mp hx,fun n1 n2 d=>zaw2.mpr ⟨n2,n1,fun a ha b hb e=>d a ha (e ▸ hb)⟩⟩
 |_,_,_,0,.own _ _ r,_=>⟨_,h r,fun x hx=>(zav2.mp hx).imp id (zau8 _),fun n1 n2 d=>zaw2.mpr ⟨n2,(zaw8.mp n1).2,fun a ha b hb e=>d a ha (e ▸ zau8 _ hb)⟩⟩
 |_,_,_,0,.dp _ r,_=>⟨_,h r,fun x hx=>(zav2.mp hx).imp id (zau6 _),fun n1 n2 d=>zaw2.mpr ⟨n2,(zaw2.mp n1).2.1,fun a ha b hb e=>d a ha (e ▸ zau6 _ hb)⟩⟩
 |_,_,_,i+1,.no r,l=>let ⟨A',a,b,c⟩:=RSl.setAny h i r (by simpa using l);⟨A',.no a,b,c⟩
 |_,_,_,i+1,.val q r,l=>let ⟨A',a,b,c⟩:=RSl.setAny h i r (by simpa using l);⟨A',.val q a,b,c⟩
 |_,_,_,i+1,.own (p:=p2) q1 q2 r,l=>by
  obtain⟨A',a,b,c⟩:=RSl.setAny h i r (by simpa using l)
  refine⟨_,.own q1 q2 a,fun x hx=>?_,fun nd nb np=>?_⟩
  ·rcases zav5.mp hx with z | z
   ·exact .inr (z ▸ zav1 ..)
   ·exact (b x z).imp id (zau8 _)
  ·have n1:=zaw8.mp nd
   refine zaw8.mpr ⟨fun z=>?_,c n1.2 nb fun x hx z=>np x hx (zau8 _ z)⟩
   rcases b _ z with z | z
   ·exact np _ z (zav1 ..)
   ·exact n1.1 z
 |_,_,_,i+1,.dp (B:=C) q r,l=>by
  obtain⟨A',a,b,c⟩:=RSl.setAny h i r (by simpa using l)
  refine⟨_,.dp q a,fun x hx=>?_,fun nd nb np=>?_⟩
  ·rcases zav2.mp hx with z | z
   ·exact .inr (zau9 _ z)
   ·exact (b x z).imp id (zau6 _)
  ·have n1:=zaw2.mp nd
   refine zaw2.mpr ⟨n1.1,c n1.2.1 nb fun x hx z=>np x hx (zau6 _ z),fun x hx y hy e=>?_⟩
   subst e
   rcases b _ hy with z | z
   ·exact np _ z (zau9 _ hx)
   ·exact n1.2.2 _ hx _ z rfl
theorem RS.putAny {K:zau7}{F A:List Addr}{H H':Hp}{t:Th}{σ:L2.St}{i:Nat}{s:Sl}{v:V}{B:List Addr} (R:RS K F H A t σ) (g:Same H H') (fr:∀b∈B,H b=none) (nb:B.Nodup) (lb:Lists H' B)
  (mk:∀ {t:Th}{σ:L2.St}{A':List Addr},RSl K (hide (B++(A++F)) H') H' t σ A'→RSl K (hide (B++(A++F)) H') H' (s::t) (some v::σ) (B++A')) (hi:i<t.length) :
  ∃A',Gr A H A' H'∧RS K F H' A' (t.set i s) (σ.set i (some v)):=by
 have R':=R.grow g
 have np:∀b∈B,b∉A++F:=fun b hb=>zd2 R.mu (fr b hb)
 have r0:RSl K (hide (B++(A++F)) H') H' t σ A:=RSl.mono (fun b o h=>by
  obtain⟨n,h⟩:=zk2 h
  refine zc0 (g _ _ h) fun z=>?_
  rcases zav2.mp z with z | z
  ·rw [fr b z]at h;cases h
  ·exact n z) R.rel fun b _ o h=>g _ _ h
 obtain⟨A',r1,sub,nd⟩:=RSl.setAny mk i r0 hi
 refine⟨A',⟨fun b o _ h=>g b o h,fun b hb=>by obtain⟨ws,z⟩:=R.mu b (zau9 _ hb);rw [g _ _ z];simp,fun b hb=>?_⟩,?_,nd R.nd nb fun b hb z=>np b hb (zau9 _ z),fun b hb=>?_,?_⟩
 ·rcases sub b hb with z | z
  ·exact .inr (fr b z)
  ·exact .inl z
 ·intro b hb
  rcases zav2.mp hb with z | z
  ·rcases sub b z with z | z
   ·exact lb b z
   ·exact R'.mu b (zau9 _ z)
  ·exact R'.mu b (zau6 _ z)
 ·rcases sub b hb with z | z
  ·exact fun w=>np b z (zau6 _ w)
  ·exact R.dj b z
 ·refine RSl.mono (za7 H' fun b z=>?_) r1 fun _ _ _ h=>h
  rcases zav2.mp z with z | z
  ·rcases sub b z with z | z
   ·exact zau9 _ z
   ·exact zau6 _ (zau9 _ z)
  ·exact zau6 _ (zau6 _ z)
noncomputable def zm6 (t:Th) (i:Nat) (r:Ev):Option Th:=if i<t.length then (match r with
 |.cl d=>some (t.set i (.val d))
 |.tm d=>if flat d then some (t.set i (.val d)) else none
 |.nw xs=>some (t.set i (.own xs))
 |.dn d=>some (t.set i (.dp d))) else none
theorem RS.put {K:zau7}{F A:List Addr}{H H':Hp}{t t':Th}{σ:L2.St}{i:Nat}{r:Ev}{v:V} (R:RS K F H A t σ) (g:Same H H') (q:RepEv K F A H H' r v) (e:zm6 t i r=some t') :
  ∃A',Gr A H A' H'∧RS K F H' A' t' (σ.set i (some v)):=by
 have R':=R.grow g
 have val:∀d,Rep K (hide (A++F) H') d v→i<t.length→∃A',Gr A H A' H'∧RS K F H' A' (t.set i (.val d)) (σ.set i (some v)):=fun d hd hi=>by
  obtain⟨A',r1,sub⟩:=RSl.setVal hd i R'.rel hi
  have sub':∀x∈A',x∈A:=fun x hx=>sub.subset hx
  refine⟨A',⟨fun b o _ h=>g b o h,fun b hb=>by obtain⟨vs,z⟩:=R.mu b (zau9 _ hb);rw [g _ _ z];simp,fun b hb=>.inl (sub' b hb)⟩,?_,R.nd.sublist sub,fun p hp=>R.dj p (sub' p hp),?_⟩
  ·intro p hp
   rcases zav2.mp hp with z | z
   ·exact R'.mu p (zau9 _ (sub' p z))
   ·exact R'.mu p (zau6 _ z)
  ·refine RSl.mono (za7 H' fun a z=>?_) r1 fun _ _ _ h=>h
   rcases zav2.mp z with z | z
   ·exact zau9 _ (sub' a z)
   ·exact zau6 _ z
 unfold zm6 at e
 split at e
 case isFalse=>cases e
 rename_i hi
 cases r with
 |cl d=>cases e;exact val d q hi
 |tm d =>
  simp only at e
  split at e
  ·rename_i f
   cases e
   exact val d (Rep.hid R'.mu f (Rep.mono (zb3 _ _) q)) hi
  ·cases e
 |nw xs =>
  cases e
  obtain⟨p,vs,rfl,h1,h2,h3⟩:=q
  exact R.putAny (B:=[p]) g (fun b hb=>by simp at hb;subst hb;exact h1) (by simp) (fun b hb=>by simp at hb;subst hb;exact⟨mL vs,h2⟩) (fun r=>.own h2 h3 r) hi
 |dn d =>
  cases e
  obtain⟨B,h1,h2,h3⟩:=q
  exact R.putAny (B:=B) g h2 h1 h3.lists (fun r=>.dp h3 r) hi
section
variable {X:Cx}{F:List Addr}{a b c:Expr}{es:List Expr}{fa fb fc:DE}{g g1 g2:DS}{ft fu:DT}{pos:Pos}{st:Stmt}{rest:List Stmt}
def dAsg (i:Nat) (f:DE):DS:=fun t=>(f t).bind fun r=>(zm6 t i r).map Out.nx
theorem zd0 {i:Nat}{x:Str}{pos':Pos} (hN:X.N.Nodup) (hi:X.N[i]?=some x) (hx:Loc X.env.scope x) (he:PE X a (dE X.K F fa)) (hs:swapsWith a (some (.Name x pos')) pos.line X.env=pure false:=by rfl) (hf:X.fn x=true∨X.env.scope.names.lookup x=some .local:=by first | exact .inl rfl | exact .inr rfl | assumption) :
  PS X (.Assign [.Name x pos'] a pos) (dS X.K F (dAsg i fa)):=by
 refine PS.imp (ps_set hN hi hx he hs hf) ?_
 rintro E σ H ⟨A,t,o,R,e,h⟩
 unfold dAsg at e
 cases e1:fa t with
 |none=>rw [e1]at e;cases e
 |some r1 =>
  rw [e1]at e
  have e:(zm6 t i r1).map Out.nx=some o:=e
  cases e2:zm6 t i r1 with
  |none=>rw [e2]at e;cases e
  |some t' =>
   rw [e2]at e
   cases e
   refine⟨A,t,r1,R,e1,fun v H' gs q=>?_⟩
   obtain⟨A',g',R'⟩:=R.put gs q e2
   exact h _ _ _ g' R'
end
end DL
namespace DL
open PySem.Spec L2
noncomputable def TgOk (K:zau7) (F:List Addr) (g:TG) (k:D→Th→Option Th):Prop :=
 ∀σ H A t t' d x (Q:L2.St→Hp→Prop),RS K F H A t σ→Rep K (hide (A++F) H) d x→k d t=some t'→(∀σ2 A2,Gr A H A2 H→RS K F H A2 t' σ2→Q σ2 H)→g x σ H Q
noncomputable def TgsOk (K:zau7) (F:List Addr) (g:TGs) (k:List D→Th→Option Th):Prop :=
 ∀σ H A t t' ds xs (Q:L2.St→Hp→Prop),RS K F H A t σ→Reps K (hide (A++F) H) ds xs→k ds t=some t'→(∀σ2 A2,Gr A H A2 H→RS K F H A2 t' σ2→Q σ2 H)→g xs σ H Q
def za3 (i:Nat):D→Th→Option Th:=fun d t=>zm6 t i (.cl d)
def zk3:List D→Th→Option Th:=fun ds t=>match ds with
 |[]=>some t
 |_=>none
noncomputable def zc3 (k:D→Th→Option Th) (k':List D→Th→Option Th):List D→Th→Option Th:=fun ds t=>match ds with
 |d::r=>(k d t).bind (k' r)
 |[]=>none
noncomputable def zj4 (n:Nat) (k:List D→Th→Option Th):D→Th→Option Th:=fun d t=>match d with
 |.tup ds=>if ds.length=n then k ds t else none
 |_=>none
theorem zb1 {K:zau7}{F:List Addr} (i:Nat):TgOk K F (gName i) (za3 i):=by
 intro σ H A t t' d x Q R r e h
 obtain⟨A',g,R'⟩:=R.put (i:=i) (r:=.cl d) (Same.refl H) r e
 exact h _ _ g R'
theorem zk7 {K:zau7}{F:List Addr}:TgsOk K F gNil zk3:=by
 intro σ H A t t' ds xs Q R r e h
 cases r with
 |nil=>cases e;exact⟨rfl,h σ A (Gr.refl R.mu.left) R⟩
 |cons _ _=>cases e
theorem zd8 {K:zau7}{F:List Addr}{g:TG}{g':TGs}{k:D→Th→Option Th}{k':List D→Th→Option Th} (h1:TgOk K F g k) (h2:TgsOk K F g' k'):TgsOk K F (gCons g g') (zc3 k k'):=by
 intro σ H A t t' ds xs Q R r e h
 cases r with
 |nil=>cases e
 |@cons d v ds vs r1 r2 =>
  unfold zc3 at e
  cases e1:k d t with
  |none=>simp only [e1]at e;cases e
  |some t1 =>
   simp only [e1]at e
   refine⟨v,vs,rfl,h1 σ H A t t1 d v _ R r1 e1 fun σ2 A2 g2 R2=>?_⟩
   exact h2 σ2 H A2 t1 t' ds vs Q R2 (Reps.mono g2.same r2) e fun σ3 A3 g3 R3=>h σ3 A3 (g2.trans g3) R3
theorem zq7 {K:zau7}{F:List Addr}{n:Nat}{g':TGs}{k':List D→Th→Option Th} (h2:TgsOk K F g' k'):TgOk K F (gTup K n g') (zj4 n k'):=by
 intro σ H A t t' d x Q R r e h
 unfold zj4 at e
 split at e
 ·rename_i ds
  split at e
  ·rename_i hl
   cases r with
   |@tup _ p vs h1 hr=>exact⟨p,vs,rfl,SqT.mono (zb3 _ _) h1,by rw [hr.length];exact hl,h2 σ H A t t' ds vs Q R hr e h⟩
  ·cases e
 ·cases e
def zp3 (k:D→Th→Option Th) (f:DE):DS:=fun t=>(f t).bind fun r=>if r.ok then (k r.d t).map Out.nx else none
section
variable {X:Cx}{F:List Addr}{a b c:Expr}{es:List Expr}{fa fb fc:DE}{g g1 g2:DS}{ft fu:DT}{pos:Pos}{st:Stmt}{rest:List Stmt}{tg:Expr}{gt:TG}{kt:D→Th→Option Th}
theorem zs9 (he:PE X a (dE X.K F fa)) (hg:PG X tg gt) (ht:TgOk X.K F gt kt) (hs:swapsWithSole [tg] a pos.line X.env=pure false:=by rfl) (hw:swappedStores [tg] a X.env=pure none:=by rfl)
  (h1:(assignEach [tg] X.env).map (·.2)=[assign tg X.env]:=by rfl):PS X (.Assign [tg] a pos) (dS X.K F (zp3 kt fa)):=by
 refine PS.imp (ps_asg he hg hs hw h1) ?_
 rintro E σ H ⟨A,t,o,R,e,h⟩
 unfold zp3 at e
 cases e1:fa t with
 |none=>rw [e1]at e;cases e
 |some r1 =>
  rw [e1]at e
  have e:(if r1.ok then (kt r1.d t).map Out.nx else none)=some o:=e
  split at e
  case isFalse=>cases e
  rename_i ok
  cases e2:kt r1.d t with
  |none=>rw [e2]at e;cases e
  |some t' =>
   rw [e2]at e
   cases e
   refine⟨A,t,r1,R,e1,fun v H' gs q=>?_⟩
   exact ht σ H' A t t' r1.d v E.nx (R.grow gs) (q.clean R.mu gs ok) e2 fun σ2 A2 g2 R2=>h σ2 H' A2 ((Gr.of_same R.mu.left gs).trans g2) R2
noncomputable def kPar (t:Th) (i j:Nat):List Ev→Option Out
 |[r1,r2]=>if r1.ok&&r2.ok then ((zm6 t i (.cl r1.d)).bind fun t1=>zm6 t1 j (.cl r2.d)).map Out.nx else none
 |_=>none
def dPar (i j:Nat) (f:DA):DS:=fun t=>(f t).bind (kPar t i j)
theorem zam7 {i j:Nat}{x y:Str}{ga:DA}{px py pt:Pos}{kt k2 pt2} (hc:X.calm=true) (hN:X.N.Nodup) (hi:X.N[i]?=some x) (hj:X.N[j]?=some y) (hij:i≠j)
  (hx:X.env.scope.names.lookup x=some .local) (hy:X.env.scope.names.lookup y=some .local) (ha:PA X [a,b] (dA X.K F ga))
  (hw:swappedStores [.Tuple [.Name x px,.Name y py] kt pt] (.Tuple [a,b] k2 pt2) X.env=pure (some [x,y]))
  (hs:swapsWithSole [.Tuple [.Name x px,.Name y py] kt pt] (.Tuple [a,b] k2 pt2) pos.line X.env=pure false:=by rfl) :
  PS X (.Assign [.Tuple [.Name x px,.Name y py] kt pt] (.Tuple [a,b] k2 pt2) pos) (dS X.K F (dPar i j ga)):=by
 refine PS.imp (ps_par hc hN hi hj hij hx hy ha hw hs) ?_
 rintro E σ H ⟨A,t,o,R,e,h⟩
 unfold dPar at e
 cases e1:ga t with
 |none=>rw [e1]at e;cases e
 |some rs =>
  rw [e1]at e
  refine⟨A,t,rs,R,e1,fun vs H' gs q=>?_⟩
  have e:kPar t i j rs=some o:=e
  cases q with
  |nil=>cases e
  |@cons r1 _ _ _ q1 q' =>
   cases q' with
   |nil=>cases e
   |@cons r2 _ _ _ q2 q3 =>
   cases q3 with
   |cons _ _=>cases e
   |nil =>
    simp only [kPar]at e
    split at e
    case isFalse=>cases e
    rename_i ok
    simp only [zav3]at ok
    refine⟨_,_,rfl,?_⟩
    cases e2:zm6 t i (.cl r1.d) with
    |none=>rw [e2]at e;cases e
    |some t1 =>
     rw [e2]at e
     have e:(zm6 t1 j (.cl r2.d)).map Out.nx=some o:=e
     cases e3:zm6 t1 j (.cl r2.d) with
     |none=>rw [e3]at e;cases e
     |some t2 =>
      rw [e3]at e
      cases e
      have c2:=q2.clean R.mu gs ok.2
      obtain⟨A1,g1,R1⟩:=(R.grow gs).put (i:=i) (r:=.cl r1.d) (Same.refl H') (q1.clean R.mu gs ok.1) e2
      obtain⟨A2,g2,R2⟩:=R1.put (i:=j) (r:=.cl r2.d) (Same.refl H') (Rep.mono g1.same c2) e3
      exact h _ _ _ (((Gr.of_same R.mu.left gs).trans g1).trans g2) R2
end
noncomputable def forD (k:D→Th→Option Th) (body:DS):List D→Th→Option Out
 |[],t=>some (.nx t)
 |d::ds,t=>(k d t).bind fun t1=>(body t1).bind fun o=>match o with
  |.nx t'=>forD k body ds t'
  |.ct t'=>forD k body ds t'
  |.bk t'=>some (.nx t')
  |.rt r=>some (.rt r)
noncomputable def whD (c:DT) (body:DS):Nat→Th→Option Out
 |0,_=>none
 |n+1,t=>(c t).bind fun b=>if b then (body t).bind fun o=>match o with
  |.nx t'=>whD c body n t'
  |.ct t'=>whD c body n t'
  |.bk t'=>some (.nx t')
  |.rt r=>some (.rt r) else some (.nx t)
def zw1 (fu:Th→Nat) (c:DT) (body:DS):DS:=fun t=>whD c body (fu t) t
noncomputable def Post (K:zau7) (F A:List Addr) (H:Hp) (E:Ends):Out→Prop
 |.nx t'=>After K F A H E.nx t'
 |.bk t'=>After K F A H E.bk t'
 |.ct t'=>After K F A H E.ct t'
 |.rt r=>Back K F A H E.rt r
theorem Post.back {K:zau7}{F A A1:List Addr}{H H1:Hp}{E:Ends}{o:Out} (h:Post K F A H E o) (g:Gr A H A1 H1):Post K F A1 H1 E o:=by
 cases o with
 |nx t2=>exact After.back h g
 |bk t2=>exact After.back h g
 |ct t2=>exact After.back h g
 |rt r=>exact Back.back h g
theorem dS_mk {K:zau7}{F A:List Addr}{g:DS}{E:Ends}{σ:L2.St}{H:Hp}{t:Th}{o:Out} (R:RS K F H A t σ) (e:g t=some o) (p:Post K F A H E o):dS K F g E σ H:=⟨A,t,o,R,e,by cases o<;>exact p⟩
theorem dS_of {K:zau7}{F:List Addr}{g:DS}{E:Ends}{σ:L2.St}{H:Hp} (h:dS K F g E σ H):∃A t o,RS K F H A t σ∧g t=some o∧Post K F A H E o:=by
 obtain⟨A,t,o,R,e,h⟩:=h
 exact⟨A,t,o,R,e,by cases o<;>exact h⟩
section
variable {X:Cx}{F:List Addr}{a b c:Expr}{es:List Expr}{fa fb fc:DE}{g g1 g2:DS}{ft fu:DT}{pos:Pos}{st:Stmt}{rest:List Stmt}{tg:Expr}{gt:TG}{kt:D→Th→Option Th}
theorem zz7 {body:List Stmt} (m:Th→Nat) (hp:PassesOwn (model X.prog X.w) X.A X.env X.xe) (hc:PT X c (dT X.K F ft)) (hb:PSs X body (dS X.K F g)):PS X (.While c body [] pos) (dS X.K F (zw1 m ft g)):=by
 refine PS.imp (ps_while hp hc hb) ?_
 intro E σ H hh
 obtain⟨A,t,o,R,e,h⟩:=dS_of hh
 refine⟨fun n σ H => ∃A t o,whD ft g n t=some o∧RS X.K F H A t σ∧Post X.K F A H E o,⟨m t,A,t,o,e,R,h⟩,?_⟩
 rintro n σ H ⟨A,t,o,e,R,h⟩
 cases n with
 |zero=>cases e
 |succ n =>
  simp only [whD]at e
  cases e1:ft t with
  |none=>rw [e1]at e;cases e
  |some b =>
   rw [e1]at e
   refine⟨A,t,b,R,e1,fun H1 gs=>?_⟩
   have gr:Gr A H A H1:=Gr.of_same R.mu.left gs
   cases b with
   |false =>
    have e:some (Out.nx t)=some o:=e
    cases e
    exact iteF (h σ H1 A gr (R.grow gs))
   |true =>
    have e:((g t).bind fun o=>match o with
     |.nx t'=>whD ft g n t'
     |.ct t'=>whD ft g n t'
     |.bk t'=>some (.nx t')
     |.rt r=>some (.rt r))=some o:=e
    refine iteT ⟨fun σ' H' => ∃A t o,whD ft g n t=some o∧RS X.K F H' A t σ'∧Post X.K F A H' E o,fun σ' H' q=>⟨n,zaz6 n,q⟩,?_⟩
    cases e2:g t with
    |none=>rw [e2]at e;cases e
    |some o2 =>
     rw [e2]at e
     refine dS_mk (R.grow gs) e2 ?_
     cases o2 with
     |nx t'=>exact fun σ' H' A' g' R'=>⟨A',t',o,e,R',h.back (gr.trans g')⟩
     |ct t'=>exact fun σ' H' A' g' R'=>⟨A',t',o,e,R',h.back (gr.trans g')⟩
     |bk t'=>cases e;exact fun σ' H' A' g' R'=>h σ' H' A' (gr.trans g') R'
     |rt r=>cases e;exact Back.back h gr
theorem zai3 {K:zau7}{J:It}{ds:List D}{E:Ends}{σ:L2.St}{H:Hp}{A:List Addr}{t:Th}{o:Out} (Good:List Addr→Hp→Prop) (ht:TgOk K F gt kt) (R:RS K F H A t σ) (e:forD kt g ds t=some o) (h:Post K F A H E o) (g0:Good A H)
  (keep:∀A H A' H',Good A H→Gr A H A' H'→Good A' H') (stop:∀A H,Good A H→J.stop ds.length H) (go:∀A H i,Good A H→i<ds.length→J.go i H)
  (yld:∀A H i x H',Good A H→Lists H (A++F)→J.yld i H x H'→i<ds.length→Same H H'∧∃d,ds[i]?=some d∧Rep K (hide (A++F) H') d x) :
  ∃W:Nat→Nat→L2.St→Hp→Prop,(∃m,W 0 m σ H)∧∀i m σ H,W i m σ H →
   (J.stop i H∧E.nx σ H)∨(J.go i H∧∃N:L2.St→Hp→Prop,(∀σ' H',N σ' H'→∃m',m' < m∧W (i+1) m' σ' H')∧∀x H',J.yld i H x H'→gt x σ H' fun σ2 H2=>dS K F g { E with nx:=N,ct:=N,bk:=E.nx } σ2 H2):=by
 refine⟨fun i m σ H=>i+m=ds.length∧∃A t o,forD kt g (ds.drop i) t=some o∧RS K F H A t σ∧Post K F A H E o∧Good A H,⟨ds.length,by lia,A,t,o,by simpa using e,R,h,g0⟩,?_⟩
 rintro i m σ H ⟨hm,A,t,o,e,R,h,gd⟩
 cases m with
 |zero =>
  have z:i=ds.length:=by lia
  subst z
  rw [zbb6]at e
  cases e
  exact .inl ⟨stop A H gd,h σ H A (Gr.refl R.mu.left) R⟩
 |succ m =>
  have hi:i<ds.length:=by lia
  refine .inr ⟨go A H i gd hi,fun σ' H'=>i+1+m=ds.length∧∃A t o,forD kt g (ds.drop (i+1)) t=some o∧RS K F H' A t σ'∧Post K F A H' E o∧Good A H',fun σ' H' q=>⟨m,zaz6 m,q⟩,fun x H' y=>?_⟩
  obtain⟨gs,d,hd,rd⟩:=yld A H i x H' gd R.mu y hi
  have ed:ds.drop i=d::ds.drop (i+1):=by
   have hd':ds[i]=d:=by
    rw [zav4 hi]at hd
    exact Option.some.inj hd
   rw [← hd']
   exact zay3 hi
  rw [ed]at e
  simp only [forD]at e
  cases e1:kt d t with
  |none=>rw [e1]at e;cases e
  |some t1 =>
   rw [e1]at e
   refine ht σ H' A t t1 d x _ (R.grow gs) rd e1 fun σ2 A2 gr3 R2=>?_
   have gr2:Gr A H A2 H':=(Gr.of_same R.mu.left gs).trans gr3
   have e:((g t1).bind fun o=>match o with
     |.nx t'=>forD kt g (ds.drop (i+1)) t'
     |.ct t'=>forD kt g (ds.drop (i+1)) t'
     |.bk t'=>some (.nx t')
     |.rt r=>some (.rt r))=some o:=e
   cases e2:g t1 with
   |none=>rw [e2]at e;cases e
   |some o2 =>
    rw [e2]at e
    refine dS_mk R2 e2 ?_
    cases o2 with
    |nx t'=>exact fun σ' H' A' g' R'=>⟨by lia,A',t',o,e,R',h.back (gr2.trans g'),keep _ _ _ _ gd (gr2.trans g')⟩
    |ct t'=>exact fun σ' H' A' g' R'=>⟨by lia,A',t',o,e,R',h.back (gr2.trans g'),keep _ _ _ _ gd (gr2.trans g')⟩
    |bk t'=>cases e;exact fun σ' H' A' g' R'=>h σ' H' A' (gr2.trans g') R'
    |rt r=>cases e;exact Back.back h gr2
noncomputable def dFor (k:D→Th→Option Th) (f:DE) (body:DS):DS:=fun t=>(f t).bind fun r=>match r.d with
 |.lst ds=>if r.ok then forD k body ds t else none
 |_=>none
theorem zae1 {body:List Stmt} (hp:PassesOwn (model X.prog X.w) X.A X.env X.xe) (hc:X.calm=true) (hl:PE X a (dE X.K F fa)) (hg:PG X tg gt) (ht:TgOk X.K F gt kt) (hb:PSs X body (dS X.K F g))
  (hs:∀x,foldedSetIterable a X.env x=pure x:=by intro _;rfl):PS X (.For tg a body [] pos) (dS X.K F (dFor kt fa g)):=by
 refine PS.imp (zan0 hp hc (zan4 hl) hg hb hs) ?_
 intro E σ H hh
 obtain⟨A,t,o,R,e,h⟩:=dS_of hh
 unfold dFor at e
 cases e1:fa t with
 |none=>rw [e1]at e;cases e
 |some r =>
  rw [e1]at e
  refine⟨A,t,r,R,e1,fun v H1 gs q=>?_⟩
  have e:(match r.d with
   |.lst ds=>if r.ok then forD kt g ds t else none
   |_=>none)=some o:=e
  split at e
  case h_2=>cases e
  rename_i ds z
  split at e
  case isFalse=>cases e
  rename_i ok
  have cl:=q.clean R.mu gs ok
  rw [z]at cl
  cases cl with
  |@lst _ p vs h1 h2 =>
   refine⟨p,rfl,⟨vs,SqL.mono (zb3 _ _) h1⟩,?_⟩
   refine zai3 (fun A H=>SqL X.K (hide (A++F) H) p vs∧Reps X.K (hide (A++F) H) ds vs) ht (R.grow gs) e (h.back (Gr.of_same R.mu.left gs)) ⟨h1,h2⟩ (fun A H A' H' q gr=>⟨SqL.mono gr.same q.1,Reps.mono gr.same q.2⟩)
    (fun A H q=>⟨vs,SqL.mono (zb3 _ _) q.1,by rw [h2.length];exact zaw9 _⟩) (fun A H i q hi=>?_) (fun A H i x H' q _ y hi=>?_)
   ·have hi':i<vs.length:=by rw [h2.length];exact hi
    exact⟨vs,vs[i],SqL.mono (zb3 _ _) q.1,zav4 hi'⟩
   ·obtain⟨e1,e2⟩:=y
    have z:=e2 vs (SqL.mono (zb3 _ _) q.1)
    subst e1
    exact⟨Same.refl _,q.2.getV z⟩
def rngD (lo:Int) (n:Nat):List D:=(zay0 n).map fun (i:Nat)=>D.int (lo+(i:Int))
def bigI (i:Int):Bool:=decide (-1000000000000≤i∧i≤1000000000000)
noncomputable def zv2 (k:D→Th→Option Th) (f:DE) (body:DS):DS:=fun t=>(f t).bind fun r=>match r.d with
 |.int n=>if bigI n then forD k body (rngD 0 n.toNat) t else none
 |_=>none
noncomputable def zaf3 (k:D→Th→Option Th) (f f':DE) (body:DS):DS:=fun t=>(f t).bind fun r=>(f' t).bind fun r'=>match r.d,r'.d with
 |.int lo,.int n=>if bigI n&&bigI lo then forD k body (rngD lo (n - lo).toNat) t else none
 |_,_=>none
theorem zq0 (lo:Int) (n:Nat):(rngD lo n).length=n:=by simp [rngD]
theorem zag6 {K:zau7}{lo:Int}{n:Nat}{E:Ends}{σ:L2.St}{H:Hp}{A:List Addr}{t:Th}{o:Out} (ht:TgOk K F gt kt) (R:RS K F H A t σ) (e:forD kt g (rngD lo n) t=some o) (h:Post K F A H E o) :
  ∃W:Nat→Nat→L2.St→Hp→Prop,(∃m,W 0 m σ H)∧∀i m σ H,W i m σ H →
   ((Itr lo n).stop i H∧E.nx σ H)∨((Itr lo n).go i H∧∃N:L2.St→Hp→Prop,(∀σ' H',N σ' H'→∃m',m' < m∧W (i+1) m' σ' H')∧∀x H',(Itr lo n).yld i H x H'→gt x σ H' fun σ2 H2=>dS K F g { E with nx:=N,ct:=N,bk:=E.nx } σ2 H2):=by
 refine zai3 (fun _ _=>True) ht R e h trivial (fun _ _ _ _ _ _=>trivial) (fun A H _=>?_) (fun A H i _ hi=>?_) (fun A H i x H' _ _ y hi=>?_)
 ·rw [zq0];exact zaw9 n
 ·rw [zq0]at hi;exact hi
 ·rw [zq0]at hi
  obtain⟨e1,e2⟩:=y
  subst e1
  refine⟨Same.refl _,.int (lo+i),by simp [rngD,hi],?_⟩
  rw [e2];exact .int _
theorem zw9 {body:List Stmt}{p1 p2:Pos} (hp:PassesOwn (model X.prog X.w) X.A X.env X.xe) (hc:X.calm=true) (hgr:Gl X "range") (hm:X.mg "range"=none) (ha:PE X a (dE X.K F fa)) (hg:PG X tg gt) (ht:TgOk X.K F gt kt) (hb:PSs X body (dS X.K F g))
  (hst:zaw7 [a] X.env=[(false,eval a X.env)]:=by rfl) (hs:∀x,foldedSetIterable (.Call (.Name "range" p1) [a] [] p2) X.env x=pure x:=by intro _;rfl):PS X (.For tg (.Call (.Name "range" p1) [a] [] p2) body [] pos) (dS X.K F (zv2 kt fa g)):=by
 refine PS.imp (zan0 hp hc (zz8 hgr hm (zi7 ha zo5 hst) hst) hg hb hs) ?_
 intro E σ H hh
 obtain⟨A,t,o,R,e,h⟩:=dS_of hh
 unfold zv2 at e
 cases e1:fa t with
 |none=>rw [e1]at e;cases e
 |some r =>
  rw [e1]at e
  refine⟨A,t,r,R,e1,fun v H1 gs q=>?_⟩
  have e:(match r.d with
   |.int n=>if bigI n then forD kt g (rngD 0 n.toNat) t else none
   |_=>none)=some o:=e
  split at e
  case h_2=>cases e
  rename_i n z
  split at e
  case isFalse=>cases e
  rename_i ok
  simp only [bigI,decide_eq_true_eq]at ok
  have p:=q.full
  rw [z]at p
  cases ze5 p
  exact⟨n,rfl,by lia,by lia,zag6 ht (R.grow gs) e (h.back (Gr.of_same R.mu.left gs))⟩
theorem zah1 {body:List Stmt}{p1 p2:Pos} (hp:PassesOwn (model X.prog X.w) X.A X.env X.xe) (hc:X.calm=true) (hgr:Gl X "range") (hm:X.mg "range"=none) (ha:PE X a (dE X.K F fa)) (hb':PE X b (dE X.K F fb)) (hg:PG X tg gt) (ht:TgOk X.K F gt kt) (hb:PSs X body (dS X.K F g))
  (hst:zaw7 [a,b] X.env=[(false,eval a X.env),(false,eval b X.env)]:=by rfl) (hst2:zaw7 [b] X.env=[(false,eval b X.env)]:=by rfl) (hs:∀x,foldedSetIterable (.Call (.Name "range" p1) [a,b] [] p2) X.env x=pure x:=by intro _;rfl) :
  PS X (.For tg (.Call (.Name "range" p1) [a,b] [] p2) body [] pos) (dS X.K F (zaf3 kt fa fb g)):=by
 refine PS.imp (zan0 hp hc (zan3 hgr hm (zi7 ha (zi7 hb' zo5 hst2) (by rw [hst,hst2])) hst hst2) hg hb hs) ?_
 intro E σ H hh
 obtain⟨A,t,o,R,e,h⟩:=dS_of hh
 unfold zaf3 at e
 cases e1:fa t with
 |none=>rw [e1]at e;cases e
 |some r =>
  cases e2:fb t with
  |none=>rw [e1,e2]at e;cases e
  |some r' =>
   rw [e1,e2]at e
   refine⟨A,t,r,R,e1,fun v H1 gs q=>⟨A,t,r',R.grow gs,e2,fun v2 H2 gs2 q2=>?_⟩⟩
   have e:(match r.d,r'.d with
    |.int lo,.int n=>if bigI n&&bigI lo then forD kt g (rngD lo (n - lo).toNat) t else none
    |_,_=>none)=some o:=e
   split at e
   case h_2=>cases e
   rename_i lo n z1 z2
   split at e
   case isFalse=>cases e
   rename_i ok
   simp only [bigI,zav3,decide_eq_true_eq]at ok
   have p:=q.full
   rw [z1]at p
   cases ze5 p
   have p':=q2.full
   rw [z2]at p'
   cases ze5 p'
   exact⟨lo,n,rfl,⟨by lia,by lia,by lia,by lia⟩,zag6 ht (R.grow (gs.trans gs2)) e (h.back (Gr.of_same R.mu.left (gs.trans gs2)))⟩
end
end DL
namespace DL
open PySem.Spec L2
theorem RSl.upd {K:zau7}{H0 H H':Hp}{ds es:List D}{ws:List V}{p:Addr} (hp:H' p=some (.lst ws)) (he:Reps K H0 es ws):∀ {t:Th}{σ:L2.St}{A:List Addr} (i:Nat),RSl K H0 H t σ A→A.Nodup→t[i]?=some (.own ds)→σ[i]?=some (some (.ref p)) →
  (∀q∈A,q≠p→H' q=H q)→RSl K H0 H' (t.set i (.own es)) σ A
 |_,_,_,i,.nil,_,e,_,_=>by simp at e
 |_,_,_,0,.no r,_,e,_,_=>by simp at e
 |_,_,_,0,.val _ r,_,e,_,_=>by simp at e
 |_,_,_,0,.dp _ r,_,e,_,_=>by simp at e
 |_,_,_,i+1,.dp (B:=B) h1 r,nd,e,e2,k=>by
  have n:=zaw2.mp nd
  obtain⟨p3,vs3,a1,a2,_⟩:=RSl.getOwn r (i:=i) (ds:=ds) (by simpa using e)
  have:p3=p:=by simpa [a1] using e2
  subst this
  refine .dp (RepD.mono (Same.refl _) h1 fun q hq o w=>?_) (RSl.upd hp he i r n.2.1 (by simpa using e) (by simpa using e2) fun q hq=>k q (zau6 _ hq))
  rw [k q (zau9 _ hq) (fun z=>n.2.2 q hq p3 a2 z)];exact w
 |_,_,_,0,.own (p:=p2) (A:=A) h1 h2 r,nd,e,e2,k=>by
  simp at e2
  subst e2
  exact .own hp he (RSl.mono (Same.refl _) r fun q hq o h=>by
   have n:q≠p2:=fun z=>(zaw8.mp nd).1 (z ▸ hq)
   rw [k q (zau8 _ hq) n];exact h)
 |_,_,_,i+1,.no r,nd,e,e2,k=>.no (RSl.upd hp he i r nd (by simpa using e) (by simpa using e2) k)
 |_,_,_,i+1,.val h r,nd,e,e2,k=>.val h (RSl.upd hp he i r nd (by simpa using e) (by simpa using e2) k)
 |_,_,_,i+1,.own (p:=p2) h1 h2 r,nd,e,e2,k=>by
  have n:=zaw8.mp nd
  have e2':=(show _ from e2)
  obtain⟨p3,vs3,a1,a2,_⟩:=RSl.getOwn r (i:=i) (ds:=ds) (by simpa using e)
  have:p3=p:=by simpa [a1] using e2
  subst this
  have np:p2≠p3:=fun z=>n.1 (z ▸ a2)
  refine .own (by rw [k p2 (zav1 ..) np];exact h1) h2 (RSl.upd hp he i r n.2 (by simpa using e) (by simpa using e2) fun q hq=>k q (zau8 _ hq))
theorem RS.write {K:zau7}{F A:List Addr}{H:Hp}{t:Th}{σ:L2.St}{i:Nat}{ds es:List D}{ws:List V}{p:Addr} (R:RS K F H A t σ) (e:t[i]?=some (.own ds)) (e2:σ[i]?=some (some (.ref p))) (h:Reps K (hide (A++F) H) es ws) :
  RS K F (L2.upd H p (.lst ws)) A (t.set i (.own es)) σ∧Gr A H A (L2.upd H p (.lst ws)):=by
 obtain⟨p',vs,a1,a2,a3,a4⟩:=R.rel.getOwn e
 have:p'=p:=by simpa [a1] using e2
 subst this
 have hh:Same (hide (A++F) H) (hide (A++F) (L2.upd H p' (.lst ws))):=fun b o q=>by
  obtain⟨n,q⟩:=zk2 q
  have nb:b≠p':=fun z=>n (zau9 _ (z ▸ a2))
  exact zc0 (by rw [zb9 nb];exact q) n
 have mu:Lists (L2.upd H p' (.lst ws)) (A++F):=fun q hq=>by
  by_cases z:q=p'
  ·exact⟨mL ws,by rw [z];exact zb4⟩
  ·obtain⟨us,w⟩:=R.mu q hq
   exact⟨us,by rw [zb9 z];exact w⟩
 refine⟨⟨mu,R.nd,R.dj,RSl.upd zb4 (Reps.mono hh h) i (RSl.mono hh R.rel (H':=H) fun _ _ _ h=>h) R.nd e e2 fun q _ n=>zb9 n⟩,?_⟩
 refine⟨fun b o n q=>?_,fun b hb=>?_,fun b hb=>.inl hb⟩
 ·rw [zb9 (fun z=>n (by rw [z];exact a2))];exact q
 ·obtain⟨us,w⟩:=mu b (zau9 _ hb)
  rw [w];simp
noncomputable def kApp (t:Th) (i:Nat) (r:Ev):Option Out:=match t[i]? with
 |some (.own xs)=>if r.ok&&decide (xs.length<100000) then some (.nx (t.set i (.own (xs++[r.d])))) else none
 |_=>none
def dApp (i:Nat) (f:DE):DS:=fun t=>(f t).bind (kApp t i)
section
variable {X:Cx}{F:List Addr}{a b c:Expr}{es:List Expr}{fa fb fc:DE}{g g1 g2:DS}{ft fu:DT}{pos:Pos}{st:Stmt}{rest:List Stmt}{tg:Expr}{gt:TG}{kt:D→Th→Option Th}
theorem zn2 (i:Nat) {x:Str}{p0 apos cpos:Pos} (he:PE X a (dE X.K F fa)) (hN:X.N[i]?=some x:=by rfl) (hv:Vis X.env.scope x:=by first | exact Or.inl rfl | exact Or.inr (Or.inl rfl) |exact Or.inr (Or.inr rfl)) (hd:(x ==("__debug__":Str))=false:=by decide)
  (hcd:(x ==("__classdict__":Str))=false:=by decide) (hst:zaw7 [a] X.env=[(false,eval a X.env)]:=by rfl)
  (hbase:attributeBase (.Name x p0) "append" X.env (eval (.Name x p0) X.env)=eval (.Name x p0) X.env:=by rfl)
  (hfew:((zbd6 cpos (zaw7 [a] X.env)).all (fun x=>!x.1)&&(backToKw cpos (keywordEach [] X.env)).all (fun x=>x.1.isSome)
   && decide ([a].length+([]:List Keyword).length+(if ([]:List Keyword).isEmpty then 0 else 1)<30))=true:=by rfl)
  (hline:(apos.endLine == cpos.line)=true:=by rfl) (hplain:(zbd6 cpos (zaw7 [] X.env)).any (·.1)=false:=by rfl)
  (hsw:swapsWith (.Call (.Attribute (.Name x p0) "append" apos) [a] [] cpos) none pos.line X.env=pure false:=by rfl) :
  PS X (.Expr (.Call (.Attribute (.Name x p0) "append" apos) [a] [] cpos) pos) (dS X.K F (dApp i fa)):=by
 refine PS.imp (zan1 (pe_bm zbg4 PySem.F.slot_list_append PySem.F.type_list_append zt1 (zv7 (i:=i) hN hv hd hcd) (zi7 he zo5 hst) hbase hfew hline hst hplain) hsw) ?_
 rintro E σ H ⟨A,t,o,R,e,h⟩
 unfold dApp at e
 cases e1:fa t with
 |none=>rw [e1]at e;cases e
 |some r =>
  rw [e1]at e
  have e:kApp t i r=some o:=e
  unfold kApp at e
  split at e
  case h_2=>cases e
  rename_i xs z
  split at e
  case isFalse=>cases e
  rename_i ok
  simp only [zav3,decide_eq_true_eq]at ok
  cases e
  obtain⟨p,vs,a1,a2,a3,a4⟩:=R.rel.getOwn z
  refine⟨_,a1,.inl ⟨rfl,vs,SqL.of a3⟩,A,t,r,R,e1,fun y H1 gs q=>⟨p,vs,y,rfl,rfl,gs _ _ a3,?_,?_⟩⟩
  ·have:vs.length<100000:=by rw [a4.length];exact ok.2
   exact zaw1 this (by rw [sizeLine_eq];decide)
  ·obtain⟨R',g'⟩:=(R.grow gs).write (es:=xs++[r.d]) (ws:=vs++[y]) z a1 ((Reps.mono (za8 gs) a4).app (Reps.one (q.clean R.mu gs ok.1)))
   exact h _ _ _ ((Gr.of_same R.mu.left gs).trans g') R'
noncomputable def kIx:Ev→Ev→Option Ev:=fun r1 r2=>match r1.d,r2.d with
 |.lst ds,.int i=>(atI ds i).map fun d=>if r1.ok||flat d then .cl d else .tm d
 |.tup ds,.int i=>(atI ds i).map fun d=>if r1.ok||flat d then .cl d else .tm d
 |_,_=>none
theorem Reps.atI {K:zau7}{H:Hp}{ds:List D}{vs:List V} (r:Reps K H ds vs) {i:Int}{d:D} (e:L2.atI ds i=some d):∃v,L2.atI vs i=some v∧Rep K H d v:=by
 unfold L2.atI at e ⊢
 rw [r.length]
 cases e1:ixN ds.length i with
 |none=>rw [e1]at e;cases e
 |some j=>rw [e1]at e;exact r.get e
theorem ze0 (ha:PE X a (dE X.K F fa)) (hb:PE X b (dE X.K F fb)) (hs:zau4 b:=by intro _ _;rfl):PE X (.Subscript a b pos) (dE X.K F (d2 kIx fa fb)):=by
 refine PE.imp (pe_ix (ix_list.or ix_tup) ha hb hs) ?_
 intro σ H Q h
 obtain⟨A,t,r1,r2,r,R,e1,e2,e,h,w⟩:=two h
 refine⟨A,t,r1,R,e1,fun x H1 gs1 q1=>⟨A,t,r2,R.grow gs1,e2,fun y H2 gs2 q2=>?_⟩⟩
 have q1:=q1.mono gs2
 have gs:=gs1.trans gs2
 have p2:=q2.full
 have m2:=R.mu.mono gs
 have key:∀(P:List Addr),Rep X.K (hide P H2) r1.d x→(∀d v,Rep X.K (hide P H2) d v→RepEv X.K F A H H2 (if r1.ok||flat d then Ev.cl d else Ev.tm d) v)→rIxL X.K x y H2 Q∨rIxT X.K x y H2 Q:=fun P hP fin=>by
  unfold kIx at e
  split at e
  ·rename_i ds i z1 z2
   rw [z2]at p2
   cases ze5 p2
   rw [z1]at hP
   cases hP with
   |@lst _ p vs h1 h2 =>
    cases e4:atI ds i with
    |none=>rw [e4]at e;cases e
    |some d =>
     rw [e4]at e
     have e:(if r1.ok||flat d then Ev.cl d else Ev.tm d)=r:=by simpa using e
     obtain⟨v,e5,rv⟩:=Reps.atI h2 e4
     exact .inl ⟨p,vs,i,v,rfl,rfl,SqL.mono (zb3 _ _) h1,e5,h v H2 gs (e ▸ fin d v rv)⟩
  ·rename_i ds i z1 z2
   rw [z2]at p2
   cases ze5 p2
   rw [z1]at hP
   cases hP with
   |@tup _ p vs h1 h2 =>
    cases e4:atI ds i with
    |none=>rw [e4]at e;cases e
    |some d =>
     rw [e4]at e
     have e:(if r1.ok||flat d then Ev.cl d else Ev.tm d)=r:=by simpa using e
     obtain⟨v,e5,rv⟩:=Reps.atI h2 e4
     exact .inr ⟨p,vs,i,v,rfl,rfl,SqT.mono (zb3 _ _) h1,e5,h v H2 gs (e ▸ fin d v rv)⟩
  ·cases e
 by_cases c:r1.ok=true
 ·refine key (A++F) (q1.clean R.mu gs c) fun d v rv=>?_
  rw [c,Bool.true_or,if_pos rfl]
  exact rv
 ·refine key F (q1.cleanF R.mu) fun d v rv=>?_
  have c:r1.ok=false:=by simpa using c
  rw [c,zbi9]
  split
  ·rename_i f;exact Rep.hid m2 f (Rep.mono (zb3 _ _) rv)
  ·exact rv
noncomputable def kCat:Ev→Ev→Option Ev:=fun r1 r2=>match r1.d,r2.d with
 |.lst ds,.lst es=>if (r1.ok||flats ds)&&(r2.ok||flats es)&&decide (ds.length+es.length≤100000) then some (.nw (ds++es)) else none
 |_,_=>none
theorem RepEv.items {K:zau7}{F A:List Addr}{H H':Hp}{r:Ev}{v:V}{ds:List D} (m:Lists H (A++F)) (gs:Same H H') (q:RepEv K F A H H' r v) (z:r.d=.lst ds) (c:(r.ok||flats ds)=true) :
  ∃p vs,v=.ref p∧SqL K H' p vs∧Reps K (hide (A++F) H') ds vs:=by
 rcases zbe8 _ _ ▸ c with c | c
 ·have w:=q.clean m gs c
  rw [z]at w
  cases w with
  |@lst _ p vs h1 h2=>exact⟨p,vs,rfl,SqL.mono (zb3 _ _) h1,h2⟩
 ·have w:=q.full
  rw [z]at w
  cases w with
  |@lst _ p vs h1 h2=>exact⟨p,vs,rfl,h1,Reps.hid (m.mono gs) c h2⟩
theorem cat_any {E:Value→zaw0→Prop}{A:Around}{prog:Program}{w:World}{s:zaw0}{l b:Addr}{vs ws:List Value}{Q:Value→zaw0→Prop} (hl:PlainL s.heap l vs.toArray) (hb:PlainL s.heap b ws.toArray)
  (h:Q (.ref s.heap.objs.size) { s with heap:=s.heap.push { cls:=.type "list",data:=.seq (vs++ws).toArray } }) (hsz:vs.length+ws.length≤sizeLine) :
  wpAny (model prog w) A (binaryOp .Add (.ref l) (.ref b)) Q E s:=by
 obtain⟨⟨cls,dd,data,sl⟩,n,ho,hc,hdd,hd⟩:=id hl
 obtain⟨⟨cls2,dd2,data2,sl2⟩,n2,ho2,hc2,hdd2,hd2⟩:=id hb
 simp only at hc hd hc2 hd2
 subst hc hd hc2 hd2
 have e:vs.toArray++ws.toArray=(vs++ws).toArray:=by simp
 refine concat_meets ⟨_,ho,rfl⟩ ⟨_,ho2,rfl⟩ noFill_list_add seq_list_add PySem.F.slot_list_add PySem.F.entry_list_add (PySem.F.args_list_add_2 _ _) (list_addW l b vs.toArray ws.toArray n n2 dd dd2 sl sl2 (by simpa using hsz)) ⟨ho,ho2,?_⟩
 rw [e]
 exact h
theorem zj1:OpD X F (binaryOp .Add) kCat:=by
 intro pins s σ H0 H A x y v u Q r1 r2 r I m g0 rx ry q1 q2 e hq
 unfold kCat at e
 split at e
 case h_2=>cases e
 rename_i ds es' z1 z2
 split at e
 case isFalse=>cases e
 rename_i c
 simp only [zav3,decide_eq_true_eq]at c
 cases e
 obtain⟨p,vs,rfl,h1,h2⟩:=q1.items m g0 z1 c.1.1
 obtain⟨p',ws,rfl,h1',h2'⟩:=q2.items m g0 z2 c.1.2
 cases rx
 cases ry
 obtain⟨its,w1,w2,w3⟩:=I.list h1
 obtain⟨its',w1',w2',w3'⟩:=I.list h1'
 have l1:=h2.length
 have l2:=h2'.length
 have l3:=w1.length
 have l4:=w1'.length
 have hz:vs.length+ws.length≤sizeLine:=zl3 (by lia)
 refine cat_any w2 w2' ⟨.ref _,_,I.lnew (t':=s.toks) (w1.append w1') (by rw [zax2];exact hz),rfl,?_⟩ (by lia)
 refine hq _ _ (zc4 I.fresh) ⟨_,_,rfl,Same.free g0 I.fresh,zb4,Reps.mono (zi6 I.fresh) (h2.app h2')⟩
mutual
def eqD:D→D→Bool
 |.non,.non=>true
 |.bl a,.bl b=>decide (a=b)
 |.int a,.int b=>decide (a=b)
 |.str a,.str b=>decide (a=b)
 |.tup a,.tup b=>eqDs a b
 |.lst a,.lst b=>eqDs a b
 |.dct ks a,.dct ks' b=>decide (ks=ks')&&eqDs a b
 |.pdc a,.pdc b=>decide (a=b)
 |_,_=>false
def eqDs:List D→List D→Bool
 |[],[]=>true
 |a::as,b::bs=>eqD a b&&eqDs as bs
 |_,_=>false
end
noncomputable def eqOk:Nat→D→D→Bool
 |_,.non,.non=>true
 |_,.bl _,.bl _=>true
 |_,.int _,.int _=>true
 |_,.str _,.str _=>true
 |_,.non,.int _=>true
 |_,.int _,.non=>true
 |_,.non,.str _=>true
 |_,.str _,.non=>true
 |_,.non,.bl _=>true
 |_,.bl _,.non=>true
 |_,.int _,.str _=>true
 |_,.str _,.int _=>true
 |n+1,.tup xs,.tup ys=>(xs.zip ys).all fun p=>eqOk n p.1 p.2
 |n+1,.lst xs,.lst ys=>(xs.zip ys).all fun p=>eqOk n p.1 p.2
 |_,_,_=>false
theorem zu1 {pins:List (Addr×Obj)}{s:zaw0}{σ:L2.St}{H:Hp}{p:Addr}{kvs:List (Key×V)} (I:Inv X pins σ H s) (h:H p=some (.dK kvs)):∃o,s.heap.get? p=some o∧o.cls=.type "dict":=by
 obtain⟨_,_,vs,_,m⟩:kvs.length≤sizeLine∧(p == sysModules)=false∧∃vs,KV kvs vs∧s.heap.DictOf (zf8 X.prog X.w) p vs:=I.hok p _ h
 exact m.typeIs
theorem zt0 {pins:List (Addr×Obj)}{s:zaw0}{σ:L2.St}{H:Hp}{p:Addr}{kvs:List (List Key×V)} (I:Inv X pins σ H s) (h:H p=some (.dT kvs)):∃o,s.heap.get? p=some o∧o.cls=.type "dict":=by
 obtain⟨_,_,xs,_,o,es,ep,h1,h2,_⟩:=(show ObjOk X.prog X.w H s.heap p (.dT kvs) from I.hok p _ h)
 exact⟨o,h1,h2.1⟩
theorem zan2:∀ {a b:List (Int×Int)},pkv a=pkv b→a=b
 |[],[],_=>rfl
 |[],_::_,h=>by simp [pkv]at h
 |_::_,[],h=>by simp [pkv]at h
 |(x,y)::a,(z,w)::b,h=>by
  simp only [pkv,zav6,List.cons.injEq,Prod.mk.injEq,Sum.inl.injEq,and_true]at h
  rw [h.1.1,h.1.2,zan2 (a:=a) (b:=b) h.2]
theorem zip_inj {ks ks':List Key}{vs vs':List V} (l:ks.length=vs.length) (l':ks'.length=vs'.length) (h:mkKV ks vs=mkKV ks' vs'):ks=ks'∧vs=vs':=by
 unfold mkKV at h
 have h1:=congrArg (List.map Prod.fst) h
 have h2:=congrArg (List.map Prod.snd) h
 rw [zbj9 (by lia),zbj9 (by lia)]at h1
 rw [zbk0 (by lia),zbk0 (by lia)]at h2
 exact⟨h1,h2⟩
theorem Rep.injR {pins:List (Addr×Obj)}{s:zaw0}{σ:L2.St}{H:Hp} (I:Inv X pins σ H s):(∀ {d:D}{v:V},Rep X.K H d v→∀e,Rep X.K H e v→d=e)∧∀ {ds:List D}{vs:List V},Reps X.K H ds vs→∀es,Reps X.K H es vs→ds=es:=by
 have cl:∀ {p:Addr}{A B:String},(∃o,s.heap.get? p=some o∧o.cls=.type A)→(∃o,s.heap.get? p=some o∧o.cls=.type B)→A≠B→False:=fun ⟨o,e,c⟩ ⟨o',e',c'⟩ n=>by
  rw [e]at e';cases e'
  rw [c]at c';injection c' with c';exact n c'
 have ct:∀ {p:Addr}{vs:List V},SqT X.K H p vs→∃o,s.heap.get? p=some o∧o.cls=.type "tuple":=fun h=>by
  obtain⟨its,_,⟨o,e,c,_⟩,_⟩:=I.tuple h
  exact⟨o,e,c⟩
 have cL:∀ {p:Addr}{vs:List V},SqL X.K H p vs→∃o,s.heap.get? p=some o∧o.cls=.type "list":=fun h=>by
  obtain⟨its,_,⟨o,n,e,c,_⟩,_⟩:=I.list h
  exact⟨o,e,c⟩
 have key:∀ {d:D}{v:V},Rep X.K H d v→∀e,Rep X.K H e v→d=e:=fun h=>by
  refine Rep.rec (motive_1:=fun d v _ => ∀e,Rep X.K H e v→d=e) (motive_2:=fun ds vs _ => ∀es,Reps X.K H es vs→ds=es) ?_ ?_ ?_ ?_ ?_ ?_ ?_ ?_ ?_ ?_ h
  ·intro e h';cases h';rfl
  ·intro b e h';cases h';rfl
  ·intro b e h';cases h';rfl
  ·intro b e h';cases h';rfl
  ·intro ds p vs h1 r1 ih e h'
   cases h' with
   |tup h2 r2 =>
    have ev:=I.tuple_inj h1 h2
    subst ev
    rw [ih _ r2]
   |lst h2 r2=>exact (cl (ct h1) (cL h2) (by decide +kernel)).elim
   |dct _ h2 r2=>exact (cl (ct h1) (zu1 I h2) (by decide +kernel)).elim
   |pdc h2=>exact (cl (ct h1) (zt0 I h2) (by decide +kernel)).elim
  ·intro ds p vs h1 r1 ih e h'
   cases h' with
   |tup h2 r2=>exact (cl (cL h1) (ct h2) (by decide +kernel)).elim
   |lst h2 r2 =>
    have ev:=I.list_inj h1 h2
    subst ev
    rw [ih _ r2]
   |dct _ h2 r2=>exact (cl (cL h1) (zu1 I h2) (by decide +kernel)).elim
   |pdc h2=>exact (cl (cL h1) (zt0 I h2) (by decide +kernel)).elim
  ·intro ks ds p vs l1 h1 r1 ih e h'
   cases h' with
   |tup h2 r2=>exact (cl (zu1 I h1) (ct h2) (by decide +kernel)).elim
   |lst h2 r2=>exact (cl (zu1 I h1) (cL h2) (by decide +kernel)).elim
   |dct l2 h2 r2 =>
    rw [h1]at h2
    obtain⟨e1,e2⟩:=zip_inj l1 l2 (by injection h2 with h2;injection h2)
    subst e1 e2
    rw [ih _ r2]
   |pdc h2=>rw [h1]at h2;cases h2
  ·intro ps p h1 e h'
   cases h' with
   |tup h2 r2=>exact (cl (zt0 I h1) (ct h2) (by decide +kernel)).elim
   |lst h2 r2=>exact (cl (zt0 I h1) (cL h2) (by decide +kernel)).elim
   |dct _ h2 r2=>rw [h1]at h2;cases h2
   |pdc h2 =>
    rw [h1]at h2
    injection h2 with h2
    injection h2 with h2
    rw [zan2 h2]
  ·intro es h';cases h';rfl
  ·intro d v ds vs h r ih1 ih2 es h'
   cases h' with
   |cons h' r'=>rw [ih1 _ h',ih2 _ r']
 refine⟨key,fun {ds vs} h=>?_⟩
 induction ds generalizing vs with
 |nil=>intro es h';cases h;cases h';rfl
 |cons d ds ih =>
  intro es h'
  cases h with
  |cons h r =>
   cases h' with
   |cons h' r'=>rw [key h _ h',ih r _ r']
theorem Rep.inj {pins:List (Addr×Obj)}{s:zaw0}{σ:L2.St}{H:Hp} (I:Inv X pins σ H s) {d e:D}{v:V} (h:Rep X.K H d v) (h':Rep X.K H e v):d=e:=(Rep.injR I).1 h e h'
mutual
theorem zar1:∀ {a b:D},eqD a b=true↔a=b
 |.non,b=>by cases b<;>simp [eqD]
 |.bl _,b=>by cases b<;>simp [eqD]
 |.int _,b=>by cases b<;>simp [eqD]
 |.str _,b=>by cases b<;>simp [eqD]
 |.tup xs,b=>by
  cases b with
  |tup ys=>simp only [eqD,D.tup.injEq];exact eqDs_iff
  |_=>simp [eqD]
 |.lst xs,b=>by
  cases b with
  |lst ys=>simp only [eqD,D.lst.injEq];exact eqDs_iff
  |_=>simp [eqD]
 |.dct ks xs,b=>by
  cases b with
  |dct ks' ys=>simp only [eqD,D.dct.injEq,zav3,decide_eq_true_eq];rw [eqDs_iff (a:=xs) (b:=ys)]
  |_=>simp [eqD]
 |.pdc a,b=>by cases b<;>simp [eqD]
theorem eqDs_iff:∀ {a b:List D},eqDs a b=true↔a=b
 |[],b=>by cases b<;>simp [eqDs]
 |x::xs,b=>by
  cases b with
  |nil=>simp [eqDs]
  |cons y ys =>
   simp only [eqDs,zav3,List.cons.injEq]
   rw [zar1 (a:=x) (b:=y),eqDs_iff (a:=xs) (b:=ys)]
end
theorem eqD_true {a b:D}:eqD a b=true↔a=b:=zar1
theorem eqD_false {a b:D}:eqD a b=false↔¬ a=b:=by rw [← eqD_true];simp
def eAt (xs ys:List D) (j:Nat):Bool:=match xs[j]?,ys[j]? with
 |some a,some b=>eqD a b
 |_,_=>true
end
end DL
namespace DL
open PySem.Spec L2
theorem PlainL.isL {h:Heap}{a:Addr}{its:Array Value} (p:PlainL h a its):h.IsList a its:=by
 obtain⟨o,n,e,c,_,d⟩:=p
 exact⟨o,e,c,n,d⟩
section
variable {X:Cx}{F:List Addr}{a b c:Expr}{es:List Expr}{fa fb fc:DE}{g g1 g2:DS}{ft fu:DT}{pos:Pos}{st:Stmt}{rest:List Stmt}{tg:Expr}{gt:TG}{kt:D→Th→Option Th}
def scD:D→Bool
 |.tup _=>false
 |.lst _=>false
 |.dct _ _=>false
 |.pdc _=>false
 |_=>true
theorem eqV_D {K:zau7}{H:Hp}{n:Nat}{d e:D}{v u:V} (r:Rep K H d v) (q:Rep K H e u) (s1:scD d=true) (s2:scD e=true) (ok:eqOk n d e=true):zp2 v=true∧zp2 u=true∧eqV v u=eqD d e:=by
 cases r<;>cases q<;>simp_all [scD,eqOk,zp2,eqV,eqD]
 all_goals (rw [zba6];simp)
theorem zz1 {xs ys:List D} (h:xs.length=ys.length):(zay0 xs.length).all (eAt xs ys)=eqD (.lst xs) (.lst ys):=by
 rw [zba6,eqD_true,zbe2]
 constructor
 ·intro hh
  congr 1
  apply List.ext_getElem h
  intro i h1 h2
  have:=hh i (zbd9.mpr h1)
  simp only [eAt,zav4 h1,zav4 h2]at this
  exact eqD_true.mp this
 ·intro hh i hi
  injection hh with hh
  subst hh
  simp only [eAt]
  split
  ·rename_i a b z1 z2
   rw [z1]at z2;cases z2
   exact eqD_true.mpr rfl
  ·rfl
theorem zz0 {xs ys:List D}:((zay0 (min xs.length ys.length)).all (eAt xs ys)&&xs.length == ys.length)=eqD (.tup xs) (.tup ys):=by
 by_cases h:xs.length=ys.length
 ·have e:min xs.length ys.length=xs.length:=by lia
  rw [e,zz1 h,beq_iff_eq.mpr h,zbj0]
  rw [zba6,eqD_true,eqD_true]
  simp
 ·have e:(xs.length == ys.length)=false:=by simpa using h
  rw [e,zbi5]
  symm
  rw [eqD_false]
  intro z
  injection z with z
  exact h (by rw [z])
theorem zad3 {n:Nat}{xs ys:List D} (h:((xs.zip ys).all fun p=>eqOk n p.1 p.2)=true) {j:Nat}{x y:D} (hx:xs[j]?=some x) (hy:ys[j]?=some y):eqOk n x y=true:=by
 rw [zbe2]at h
 refine h (x,y) (zbi0 (i:=j) ?_)
 rw [List.getElem?_zip_eq_some]
 exact⟨hx,hy⟩
theorem zab2 {A:Around}:A.in1.units=A.units+1:=rfl
theorem Vals.getL {vs:List V}{us:List Value} (h:Vals vs us) {j:Nat} (hj:j<us.toArray.size):∃v,vs[j]?=some v∧RelV v us.toArray[j]:=by
 have hj':j<vs.length:=by rw [h.length];simpa using hj
 obtain⟨u,e,r⟩:=Vals.get h (zav4 hj')
 refine⟨_,zav4 hj',?_⟩
 have:us.toArray[j]=u:=by
  have hj2:j<us.length:=by simpa using hj
  have:=zav4 hj2
  rw [e]at this
  simpa using (Option.some.inj this).symm
 rw [this];exact r
theorem eqAt_D {pins:List (Addr×Obj)}{s:zaw0}{σ:L2.St}{H:Hp} (I:Inv X pins σ H s):∀(n:Nat) (A:Around) (d e:D) (v u:V) (y z:Value),A.units+n<cLine→eqOk n d e=true→Rep X.K H d v→Rep X.K H e u→RelV v y→RelV u z→SeqAt.EqAt A s y z (eqD d e):=by
 intro n
 induction n with
 |zero =>
  intro A d e v u y z hu ok r q ry rz
  have s1:scD d=true:=by cases d<;>cases e<;>simp_all [scD,eqOk]
  have s2:scD e=true:=by cases d<;>cases e<;>simp_all [scD,eqOk]
  obtain⟨f1,f2,ee⟩:=eqV_D r q s1 s2 ok
  rw [← ee]
  exact zar2 ry rz f1 f2
 |succ n ih =>
  intro A d e v u y z hu ok r q ry rz
  by_cases s1:scD d=true
  ·have s2:scD e=true:=by cases d<;>cases e<;>simp_all [scD,eqOk]
   obtain⟨f1,f2,ee⟩:=eqV_D r q s1 s2 ok
   rw [← ee]
   exact zar2 ry rz f1 f2
  ·have hu':A.in1.units+n<cLine:=by rw [zab2];lia
   have hu0:A.units<cLine:=by lia
   cases r with
   |@tup xs p vs h1 h2 =>
    cases q with
    |@tup ys p' ws h1' h2' =>
     cases ry;cases rz
     by_cases z:p=p'
     ·subst z
      have e:=Rep.inj I (.tup h1 h2) (.tup h1' h2')
      rw [eqD_true.mpr e]
      exact SeqAt.EqAt.same _
     ·obtain⟨its,w1,w2,_⟩:=I.tuple h1
      obtain⟨its',w1',w2',_⟩:=I.tuple h1'
      refine SeqAt.EqAt.of_refs z ?_
      have k:=SeqAt.RcAt.tuples (A:=A) (e:=eAt xs ys) w2 w2' hu0 (fun j g1 g2=>by
       obtain⟨v1,a1,a2⟩:=Vals.getL w1 g1
       obtain⟨v2,b1,b2⟩:=Vals.getL w1' g2
       obtain⟨x1,c1,c2⟩:=h2.getV a1
       obtain⟨x2,d1,d2⟩:=h2'.getV b1
       have:=ih A.in1 x1 x2 v1 v2 _ _ hu' (zad3 (by simpa [eqOk] using ok) c1 d1) c2 d2 a2 b2
       have ee:eAt xs ys j=eqD x1 x2:=by simp only [eAt,c1,d1]
       rw [ee];exact this)
      have l1:its.toArray.size=xs.length:=by have:=w1.length;have:=h2.length;simp;lia
      have l2:its'.toArray.size=ys.length:=by have:=w1'.length;have:=h2'.length;simp;lia
      rw [l1,l2,zz0]at k
      exact k
    |_=>simp_all [eqOk]
   |@lst xs p vs h1 h2 =>
    cases q with
    |@lst ys p' ws h1' h2' =>
     cases ry;cases rz
     by_cases z:p=p'
     ·subst z
      have e:=Rep.inj I (.lst h1 h2) (.lst h1' h2')
      rw [eqD_true.mpr e]
      exact SeqAt.EqAt.same _
     ·obtain⟨its,w1,w2,_⟩:=I.list h1
      obtain⟨its',w1',w2',_⟩:=I.list h1'
      refine SeqAt.EqAt.of_refs z ?_
      have l1:its.toArray.size=xs.length:=by have:=w1.length;have:=h2.length;simp;lia
      have l2:its'.toArray.size=ys.length:=by have:=w1'.length;have:=h2'.length;simp;lia
      by_cases hl:xs.length=ys.length
      ·have k:=SeqAt.RcAt.lists (A:=A) (e:=eAt xs ys) (PlainL.isL w2) (PlainL.isL w2') (by rw [l1,l2];exact hl) hu0 (fun j g1 g2=>by
        obtain⟨v1,a1,a2⟩:=Vals.getL w1 g1
        obtain⟨v2,b1,b2⟩:=Vals.getL w1' g2
        obtain⟨x1,c1,c2⟩:=h2.getV a1
        obtain⟨x2,d1,d2⟩:=h2'.getV b1
        have:=ih A.in1 x1 x2 v1 v2 _ _ hu' (zad3 (by simpa [eqOk] using ok) c1 d1) c2 d2 a2 b2
        have ee:eAt xs ys j=eqD x1 x2:=by simp only [eAt,c1,d1]
        rw [ee];exact this)
       rw [l1,zz1 hl]at k
       exact k
      ·have ee:eqD (.lst xs) (.lst ys)=false:=eqD_false.mpr fun z=>hl (by injection z with z;rw [z])
       rw [ee]
       exact SeqAt.RcAt.lists_lengths (PlainL.isL w2) (PlainL.isL w2') (by rw [l1,l2];simpa using hl) hu0
    |_=>simp_all [eqOk]
   |dct=>exact absurd ok (by cases e<;>simp [eqOk])
   |pdc=>exact absurd ok (by cases e<;>simp [eqOk])
   |_=>simp_all [scD]
theorem zag3 {pins:List (Addr×Obj)}{s:zaw0}{σ:L2.St}{H:Hp} (I:Inv X pins σ H s) {n:Nat}{A:Around}{xs ys:List D}{vs ws:List V}{its its':List Value} (hu:A.units+n+1<cLine) (ok:((xs.zip ys).all fun p=>eqOk n p.1 p.2)=true)
  (h2:Reps X.K H xs vs) (h2':Reps X.K H ys ws) (w1:Vals vs its) (w1':Vals ws its'):∀j (g1:j<its.toArray.size) (g2:j<its'.toArray.size),SeqAt.EqAt A.in1 s its.toArray[j] its'.toArray[j] (eAt xs ys j):=fun j g1 g2=>by
 obtain⟨v1,a1,a2⟩:=Vals.getL w1 g1
 obtain⟨v2,b1,b2⟩:=Vals.getL w1' g2
 obtain⟨x1,c1,c2⟩:=h2.getV a1
 obtain⟨x2,d1,d2⟩:=h2'.getV b1
 have:=eqAt_D I n A.in1 x1 x2 v1 v2 _ _ (by rw [zab2];lia) (zad3 ok c1 d1) c2 d2 a2 b2
 have ee:eAt xs ys j=eqD x1 x2:=by simp only [eAt,c1,d1]
 rw [ee];exact this
def kEq:Ev→Ev→Option Ev:=fun r1 r2=>if eqOk 6 r1.d r2.d then some (.cl (.bl (eqD r1.d r2.d))) else none
def kNe:Ev→Ev→Option Ev:=fun r1 r2=>if eqOk 6 r1.d r2.d then some (.cl (.bl (!eqD r1.d r2.d))) else none
theorem scal_D {K:zau7}{H:Hp}{n:Nat}{d e:D}{v u:V} (r:Rep K H d v) (q:Rep K H e u) (s1:scD d=true) (ok:eqOk n d e=true):scal v u=true∧decide (v=u)=eqD d e:=by
 cases r<;>cases q<;>simp_all [scD,eqOk,scal,eqD]
theorem zae6 (hu:X.A.units+64<cLine):OpD X F (compareOp .Eq) kEq:=by
 intro pins s σ H0 H A x y v u Q r1 r2 r I m g0 rx ry q1 q2 e hq
 unfold kEq at e
 split at e
 case isFalse=>cases e
 rename_i ok
 cases e
 have p1:=q1.full
 have p2:=q2.full
 by_cases s1:scD r1.d=true
 ·obtain⟨a1,a2⟩:=scal_D p1 p2 s1 ok
  exact op_eq pins s σ H x y v u Q I rx ry ⟨a1,by rw [a2];exact hq _ H (Same.refl H) (.bl _)⟩
 ·generalize r1.d=d1 at *
  generalize r2.d=d2 at *
  have hu0:X.A.units<cLine:=by lia
  cases p1 with
  |@tup xs p vs h1 h2 =>
   cases p2 with
   |@tup ys p' ws h1' h2' =>
    cases rx;cases ry
    obtain⟨its,w1,w2,_⟩:=I.tuple h1
    obtain⟨its',w1',w2',_⟩:=I.tuple h1'
    have l1:its.toArray.size=xs.length:=by have:=w1.length;have:=h2.length;simp;lia
    have l2:its'.toArray.size=ys.length:=by have:=w1'.length;have:=h2'.length;simp;lia
    refine SeqAt.eq_tupleAt w2 w2' hu0 (zag3 I (n:=5) (by lia) (by simpa [eqOk] using ok) h2 h2' w1 w1') ?_
    rw [l1,l2,zz0]
    exact⟨.bl _,H,I,rfl,hq _ H (Same.refl H) (.bl _)⟩
   |_=>simp_all [eqOk]
  |@lst xs p vs h1 h2 =>
   cases p2 with
   |@lst ys p' ws h1' h2' =>
    cases rx;cases ry
    obtain⟨its,w1,w2,_⟩:=I.list h1
    obtain⟨its',w1',w2',_⟩:=I.list h1'
    have l1:its.toArray.size=xs.length:=by have:=w1.length;have:=h2.length;simp;lia
    have l2:its'.toArray.size=ys.length:=by have:=w1'.length;have:=h2'.length;simp;lia
    by_cases hl:xs.length=ys.length
    ·refine SeqAt.eq_listAt (PlainL.isL w2) (PlainL.isL w2') (by rw [l1,l2];exact hl) hu0 (zag3 I (n:=5) (by lia) (by simpa [eqOk] using ok) h2 h2' w1 w1') ?_
     rw [l1,zz1 hl]
     exact⟨.bl _,H,I,rfl,hq _ H (Same.refl H) (.bl _)⟩
    ·have ee:eqD (.lst xs) (.lst ys)=false:=eqD_false.mpr fun z=>hl (by injection z with z;rw [z])
     rw [ee]at hq
     exact SeqAt.eq_list_lengthsAt (PlainL.isL w2) (PlainL.isL w2') (by rw [l1,l2];simpa using hl) hu0 ⟨.bl _,H,I,rfl,hq _ H (Same.refl H) (.bl _)⟩
   |_=>simp_all [eqOk]
  |dct=>exact absurd ok (by cases d2<;>simp [eqOk])
  |pdc=>exact absurd ok (by cases d2<;>simp [eqOk])
  |_=>simp_all [scD]
theorem zao3 (hu:X.A.units+64<cLine):OpD X F (compareOp .NotEq) kNe:=by
 intro pins s σ H0 H A x y v u Q r1 r2 r I m g0 rx ry q1 q2 e hq
 unfold kNe at e
 split at e
 case isFalse=>cases e
 rename_i ok
 cases e
 have p1:=q1.full
 have p2:=q2.full
 by_cases s1:scD r1.d=true
 ·obtain⟨a1,a2⟩:=scal_D p1 p2 s1 ok
  exact op_ne pins s σ H x y v u Q I rx ry ⟨a1,by rw [a2];exact hq _ H (Same.refl H) (.bl _)⟩
 ·generalize r1.d=d1 at *
  generalize r2.d=d2 at *
  have hu0:X.A.units<cLine:=by lia
  cases p1 with
  |@tup xs p vs h1 h2 =>
   cases p2 with
   |@tup ys p' ws h1' h2' =>
    cases rx;cases ry
    obtain⟨its,w1,w2,_⟩:=I.tuple h1
    obtain⟨its',w1',w2',_⟩:=I.tuple h1'
    have l1:its.toArray.size=xs.length:=by have:=w1.length;have:=h2.length;simp;lia
    have l2:its'.toArray.size=ys.length:=by have:=w1'.length;have:=h2'.length;simp;lia
    have k:=SeqAt.RcNeAt.tuples (A:=X.A) w2 w2' hu0 (zag3 I (n:=5) (by lia) (by simpa [eqOk] using ok) h2 h2' w1 w1')
    rw [l1,l2,zz0]at k
    exact k _ _ _ _ ⟨.bl _,H,I,rfl,hq _ H (Same.refl H) (.bl _)⟩
   |_=>simp_all [eqOk]
  |@lst xs p vs h1 h2 =>
   cases p2 with
   |@lst ys p' ws h1' h2' =>
    cases rx;cases ry
    obtain⟨its,w1,w2,_⟩:=I.list h1
    obtain⟨its',w1',w2',_⟩:=I.list h1'
    have l1:its.toArray.size=xs.length:=by have:=w1.length;have:=h2.length;simp;lia
    have l2:its'.toArray.size=ys.length:=by have:=w1'.length;have:=h2'.length;simp;lia
    by_cases hl:xs.length=ys.length
    ·have k:=SeqAt.RcNeAt.lists (A:=X.A) (PlainL.isL w2) (PlainL.isL w2') (by rw [l1,l2];exact hl) hu0 (zag3 I (n:=5) (by lia) (by simpa [eqOk] using ok) h2 h2' w1 w1')
     rw [l1,zz1 hl]at k
     exact k _ _ _ _ ⟨.bl _,H,I,rfl,hq _ H (Same.refl H) (.bl _)⟩
    ·have ee:eqD (.lst xs) (.lst ys)=false:=eqD_false.mpr fun z=>hl (by injection z with z;rw [z])
     rw [ee]at hq
     exact SeqAt.RcNeAt.lists_lengths (A:=X.A) (PlainL.isL w2) (PlainL.isL w2') (by rw [l1,l2];simpa using hl) hu0 _ _ _ _ ⟨.bl _,H,I,rfl,hq _ H (Same.refl H) (.bl _)⟩
   |_=>simp_all [eqOk]
  |dct=>exact absurd ok (by cases d2<;>simp [eqOk])
  |pdc=>exact absurd ok (by cases d2<;>simp [eqOk])
  |_=>simp_all [scD]
noncomputable def tyD:D→String
 |.non => "NoneType"
 |.bl _ => "bool"
 |.int _ => "int"
 |.str _ => "str"
 |.tup _ => "tuple"
 |.lst _ => "list"
 |.dct _ _ => "dict"
 |.pdc _ => "dict"
def isiT (d:D) (T:String):Bool:=tyD d == T||(tyD d == "bool"&&T == "int")
def dIsi (T:String) (f:DE):DE:=fun t=>(f t).bind fun r=>some (.cl (.bl (isiT r.d T)))
def IsiOk (K:zau7) (T:String):Prop := ∀d:D,PySem.W.kitOne K (.type (tyD d)) (.type T)=some (isiT d T)
theorem ped_isi {T:String}{x:Str}{p p2:Pos} (ok:IsiOk X.K T) (ha:PE X a (dE X.K F fa)) (hg:Gl X "isinstance") (hm:X.mg "isinstance"=none) (hgT:Gl X x) (hmT:X.mg x=none) (hvT:bootBuiltins x=some (.type T)) (hnT:x≠"__name__":=by decide) (hdT:(x ==("__debug__":Str))=false:=by decide)
  (he:zaw7 (a::[Expr.Name x p2]) X.env=(false,eval a X.env)::zaw7 [.Name x p2] X.env:=by rfl) (he2:zaw7 [Expr.Name x p2] X.env=[(false,eval (.Name x p2) X.env)]:=by rfl) (hpl:(zbd6 pos (zaw7 [Expr.Name x p2] X.env)).any (·.1)=false:=by rfl) :
  PE X (.Call (.Name "isinstance" p) [a,.Name x p2] [] pos) (dE X.K F (dIsi T fa)):=by
 have rule:zq6 X (.builtin "isinstance") (fun xs H Q => ∃v d,xs=[v,.ty T]∧Rep X.K H d v∧Q (.bl (isiT d T)) H):=by
  intro pins s σ H xs us Q I r h
  obtain⟨v,d,rfl,rp,hq⟩:=h
  obtain⟨u,w',rfl,r1,r2⟩:=vals2 r
  cases (show w'=Value.type T from r2)
  have fin:∀tk,EP X pins σ Q (.bool (isiT d T)) { s with toks:=tk }:=fun tk=>⟨.bl _,H,I.tok tk,rfl,hq⟩
  have e:=ok d
  cases rp with
  |non=>cases (show u=Value.none from r1);exact zba7 PySem.W.kitx_none I.kIn True.intro e (fun z=>nomatch z) fin
  |bl y=>cases (show u=Value.bool y from r1);exact zba7 PySem.W.kitx_bool I.kIn True.intro e (fun z=>nomatch z) fin
  |int i=>obtain⟨t,q⟩:=(show ∃t,u=Value.int i t from r1);cases q;exact zba7 PySem.W.kitx_int I.kIn True.intro e (fun z=>nomatch z) fin
  |str y=>obtain⟨t,q⟩:=(show ∃t,u=Value.str y t from r1);cases q;exact zba7 PySem.W.kitx_str I.kIn True.intro e (fun z=>nomatch z) fin
  |@tup _ p _ h1 h2 =>
   cases (show u=Value.ref p from r1)
   obtain⟨its,_,⟨o,e1,c1,_⟩,_⟩:=I.tuple h1
   exact zba7 PySem.W.kitx_tuple I.kIn ⟨o,e1,c1⟩ e (fun z=>nomatch z) fin
  |@lst _ p _ h1 h2 =>
   cases (show u=Value.ref p from r1)
   obtain⟨its,_,⟨o,n,e1,c1,_⟩,_⟩:=I.list h1
   exact zba7 PySem.W.kitx_list I.kIn ⟨o,e1,c1⟩ e (fun z=>nomatch z) fin
  |@dct _ _ p _ _ h1 h2 =>
   cases (show u=Value.ref p from r1)
   exact zba7 zbj4 I.kIn (zu1 I h1) e (fun z=>nomatch z) fin
  |@pdc _ p h1 =>
   cases (show u=Value.ref p from r1)
   exact zba7 zbj4 I.kIn (zt0 I h1) e (fun z=>nomatch z) fin
 refine PE.imp (pe_callB rule hg hm boot_isinstance (zi7 ha (zi7 (pe_bltn (v:=.ty T) hgT hmT hvT rfl hnT hdT) zo5 he2) he) (by decide) (by decide) he hpl) ?_
 rintro σ H Q ⟨A,t,r,R,e,h⟩
 unfold dIsi at e
 cases e1:fa t with
 |none=>rw [e1]at e;cases e
 |some r1 =>
  rw [e1]at e
  cases e
  exact⟨A,t,r1,R,e1,fun v H' gs q=>⟨v,r1.d,rfl,q.full,h _ H' gs (.bl _)⟩⟩
end
def zv5 (N:List Str) (ds:List D):Th:=ds.map Sl.val++zav7 (N.length - ds.length) Sl.no
theorem RSl.no_all {K:zau7}{H0 H:Hp}:∀n,RSl K H0 H (zav7 n Sl.no) (zav7 n none) []
 |0=>.nil
 |n+1=>.no (RSl.no_all n)
theorem RSl.start {K:zau7}{H0 H:Hp}{t:Th}{σ:L2.St} (r0:RSl K H0 H t σ []):∀ {ds:List D}{vs:List V},Reps K H0 ds vs→RSl K H0 H (ds.map Sl.val++t) (vs.map some++σ) []
 |_,_,.nil=>r0
 |_,_,.cons h r=>.val h (RSl.start r0 r)
def zi3:Out→Option Ev
 |.rt r=>some r
 |.nx _=>some (.cl .non)
 |_=>none
theorem zj5 {P:Program}{w:World}{K:zau7}{mg:Str→Option Value}{base:BHeap}{x qual:Str}{st:Stmt}{f:Addr}{fd:FuncData}{N ps:List Str}{k:Nat}{G:List D→Option Ev} (Fn:L2.Fun K x qual st f fd) (S:FnScope N ps (zb6 st))
  (hlen:∀ds r,G ds=some r→ds.length=ps.length) (g:DS) (hG:∀ds r,G ds=some r→∃o,g (zv5 N ds)=some o∧zi3 o=some r)
  (hbody:∀(cdv:Value) (A:Around) (outer:List Env) (s:zaw0) (H:Hp) (E:XK) (F:List Addr),Room k (A.deeper (envOfC qual (zb6 st) s.heap.objs.size f cdv)) →
   PSs (cxOf CX0 P w K mg base N qual (zb6 st) f cdv A outer s H E).nox (zh5 st) (dS K F g)):FnOk P w K mg base CX0 (k+1) f fd ps (spD K G):=by
 refine Fn.ok S (fun vs H Q E h=>?_) (fun cdv A outer s H vs Q E hr h=>?_)
 ·obtain⟨Fo,ds,r,_,hr,hg,_⟩:=h
  rw [hr.length];exact hlen ds r hg
 ·obtain⟨Fo,ds,r,hl,hr',hg,cont⟩:=h
  obtain⟨o,ho,hoe⟩:=hG ds r hg
  refine⟨_,hbody cdv A outer s H E Fo hr,dS_mk (A:=[]) (t:=zv5 N ds) ⟨hl,zax6,fun p hp=>(by cases hp),?_⟩ ho ?_⟩
  ·unfold zv5 L2.start
   rw [hr'.length]
   exact RSl.start (RSl.no_all _) hr'
  ·have sm:∀ {A' H'},Gr [] H A' H'→Same H H':=fun g b o q=>g.kp b o (by simp) q
   cases o with
   |nx t' =>
    cases hoe
    exact fun σ' H' A' g' R'=>cont .non H' (sm g') .non
   |bk t'=>cases hoe
   |ct t'=>cases hoe
   |rt r' =>
    cases hoe
    intro v H' A' g' q
    refine cont v H' (sm g') ?_
    cases r with
    |cl d=>exact q
    |tm d=>exact q
    |nw xs =>
     obtain⟨p,vs',rfl,h1,h2,h3,h4⟩:=q
     rcases h1 with h1 | h1
     ·cases h1
     ·exact⟨p,vs',rfl,h1,h3,h4⟩
    |dn d =>
     obtain⟨B,h1,h2,h3⟩:=q
     exact⟨B,h1,fun b hb=>by rcases (h2 b hb).1 with z | z;cases z;exact z,h3⟩
end DL
namespace DL
open PySem.Spec L2
structure Cal (P:Program) (w:World) (K:zau7) (mg:Str→Option Value) (base:BHeap) (x:Str) (k:Nat) (G:List D→Option Ev):Prop where
 ex:∃(a:Addr) (fd:FuncData) (ps:List Str),mg x=some (.ref a)∧zaz0 K (.ref a)=true∧L2.Binds K fd ps []∧FnOk P w K mg base CX0 k a fd ps (spD K G)
section
variable {X:Cx}{F:List Addr}{a b c:Expr}{es:List Expr}{fa fb fc:DE}{ga:DA}{pos:Pos}
theorem zc6 {k:Nat}{G:List D→Option Ev}{x:Str}{p:Pos} (c:Cal X.prog X.w X.K X.mg X.base x k G) (hr:Room k X.A) (ha:PA X (a::es) (dA X.K F ga)) (hg:Gl X x:=by rfl) (hdb:(x ==("__debug__":Str))=false:=by decide)
  (he:zaw7 (a::es) X.env=(false,eval a X.env)::zaw7 es X.env:=by rfl) (hpl:(zbd6 pos (zaw7 es X.env)).any (·.1)=false:=by rfl):PE X (.Call (.Name x p) (a::es) [] pos) (dE X.K F (dT1 (zc8 G) ga)):=by
 obtain⟨f,fd,ps,h1,h2,h3,h4⟩:=c.ex
 exact ped_call h4 hr hg h1 h2 h3 ha hdb he hpl
end
structure Df (K:zau7) (mg:Str→Option Value) (x:Str) (st:Stmt) (ps:List Str) (a:Addr) (fd:FuncData):Prop where
 fn:L2.Fun K x x st a fd
 mgx:mg x=some (.ref a)
 bd:L2.Binds K fd ps []
theorem Df.cal {P:Program}{w:World}{K:zau7}{mg:Str→Option Value}{base:BHeap}{x:Str}{st:Stmt}{ps:List Str}{a:Addr}{fd:FuncData}{k:Nat}{G:List D→Option Ev} (d:Df K mg x st ps a fd) (h:FnOk P w K mg base CX0 k a fd ps (spD K G)):Cal P w K mg base x k G :=
 ⟨a,fd,ps,d.mgx,d.fn.kp,d.bd,h⟩
theorem zat9:bootBuiltins "list"=some (.type "list"):=by decide +kernel
theorem bt_abs:bootBuiltins "abs"=some (.builtin "abs"):=by decide +kernel
end DL
namespace DL
open PySem.Spec L2
theorem cut1 {n:Nat}:∀ {us:List Value},us.length=n+1→∃a t,us=a::t∧t.length=n
 |a::t,h=>⟨a,t,rfl,Nat.succ.inj h⟩
theorem binds1 {K:zau7}{x qual:Str}{st:Stmt}{f:Addr}{fd:FuncData}{p0:Str} (F:L2.Fun K x qual st f fd) (h:∀(kV doc pm:Value) (an:Option Addr) (cdv ct:Value),∀a0:Value,bindArgs (zaz5 x qual (zi8 st) (zh5 st) (zb6 st) .none kV doc pm an cdv ct) ⟨[a0],[]⟩=pure [(p0,a0)]):Binds K fd [p0] [] :=
 F.binds fun kV doc pm an cdv ct u0 h0=>by
  obtain⟨a0,u1,rfl,h1⟩:=cut1 h0
  cases zbb3.mp h1
  exact h kV doc pm an cdv ct a0
theorem zr6 {K:zau7}{x qual:Str}{st:Stmt}{f:Addr}{fd:FuncData}{p0 p1:Str} (F:L2.Fun K x qual st f fd) (h:∀(kV doc pm:Value) (an:Option Addr) (cdv ct:Value),∀a0 a1:Value,bindArgs (zaz5 x qual (zi8 st) (zh5 st) (zb6 st) .none kV doc pm an cdv ct) ⟨[a0,a1],[]⟩=pure [(p0,a0),(p1,a1)]):Binds K fd [p0,p1] [] :=
 F.binds fun kV doc pm an cdv ct u0 h0=>by
  obtain⟨a0,u1,rfl,h1⟩:=cut1 h0
  obtain⟨a1,u2,rfl,h2⟩:=cut1 h1
  cases zbb3.mp h2
  exact h kV doc pm an cdv ct a0 a1
theorem binds3 {K:zau7}{x qual:Str}{st:Stmt}{f:Addr}{fd:FuncData}{p0 p1 p2:Str} (F:L2.Fun K x qual st f fd) (h:∀(kV doc pm:Value) (an:Option Addr) (cdv ct:Value),∀a0 a1 a2:Value,bindArgs (zaz5 x qual (zi8 st) (zh5 st) (zb6 st) .none kV doc pm an cdv ct) ⟨[a0,a1,a2],[]⟩=pure [(p0,a0),(p1,a1),(p2,a2)]):Binds K fd [p0,p1,p2] [] :=
 F.binds fun kV doc pm an cdv ct u0 h0=>by
  obtain⟨a0,u1,rfl,h1⟩:=cut1 h0
  obtain⟨a1,u2,rfl,h2⟩:=cut1 h1
  obtain⟨a2,u3,rfl,h3⟩:=cut1 h2
  cases zbb3.mp h3
  exact h kV doc pm an cdv ct a0 a1 a2
theorem binds4 {K:zau7}{x qual:Str}{st:Stmt}{f:Addr}{fd:FuncData}{p0 p1 p2 p3:Str} (F:L2.Fun K x qual st f fd) (h:∀(kV doc pm:Value) (an:Option Addr) (cdv ct:Value),∀a0 a1 a2 a3:Value,bindArgs (zaz5 x qual (zi8 st) (zh5 st) (zb6 st) .none kV doc pm an cdv ct) ⟨[a0,a1,a2,a3],[]⟩=pure [(p0,a0),(p1,a1),(p2,a2),(p3,a3)]):Binds K fd [p0,p1,p2,p3] [] :=
 F.binds fun kV doc pm an cdv ct u0 h0=>by
  obtain⟨a0,u1,rfl,h1⟩:=cut1 h0
  obtain⟨a1,u2,rfl,h2⟩:=cut1 h1
  obtain⟨a2,u3,rfl,h3⟩:=cut1 h2
  obtain⟨a3,u4,rfl,h4⟩:=cut1 h3
  cases zbb3.mp h4
  exact h kV doc pm an cdv ct a0 a1 a2 a3
inductive Hv (K:zau7) (x:Str) (st:Stmt) (f:Addr):Prop
 |mk {od an:Option Addr}{sl:Array (Option Value)}{oc kV dc pm cd ct:Value} (a:zbb1 K mainGlobals x=some (some (.ref f))) (l:K.lookup f=some ⟨oc,od,.func (zaz5 x x (zi8 st) (zh5 st) (zb6 st) .none kV dc pm an cd ct),sl⟩) (c:zbf7 K cd x=true) (k:zaz0 K (.ref f)=true):Hv K x st f
theorem Hv.fn {K:zau7}{x:Str}{st:Stmt}{f:Addr} (h:Hv K x st f):∃fd,L2.Fun K x x st f fd:=by
 cases h with
 |mk a l c k=>exact⟨_,fun_mk l c k⟩
theorem Hv.mg {K:zau7}{x:Str}{st:Stmt}{f:Addr}{hp:Heap}{mg:Str→Option Value} (h:Hv K x st f) (X:K.In hp) (G:hp.Ns mainGlobals mg):mg x=some (.ref f):=by
 cases h with
 |mk a l c k=>exact PySem.W.mg_of X G a
theorem zp7 {N P:List Str}{sc:Scope} (h1:sc.kind=.function) (h2:sc.isCoroutine=false) (h3:sc.isGenerator=false) (h5:N.take P.length=P) (h:(decide N.Nodup&&(decide (∀x∈P,sc.names.lookup x=some .local∨sc.names.lookup x=some .cell)&&decide (∀y∈sc.names,y.2≠.free)))=true):FnScope N P sc:=by
 rw [zav3,zav3,decide_eq_true_eq,decide_eq_true_eq,decide_eq_true_eq]at h
 exact⟨h1,h2,h3,h.1,h5,h.2.1,h.2.2⟩
theorem Hv.bt {K:zau7}{x:Str}{st:Stmt}{f:Addr}{fd:FuncData}{p:Str} (F:L2.Fun K x x st f fd) (h:∀(kV doc pm:Value) (an:Option Addr) (cdv ct:Value) (v:Value),bindArgs (zaz5 x x (zi8 st) (zh5 st) (zb6 st) .none kV doc pm an cdv ct) ⟨[v],[]⟩=pure [(p,v)]) (s:zaw0) (v:Value):BindsTo s fd ⟨[v],[]⟩ [(p,v)]:=by
 obtain⟨oc,od,kV,doc,pm,an,cdv,ct,osl,rfl,lk,hcd⟩:=F.ex
 exact .of_eq (h ..)
def locB (sc:Scope) (x:Str):Bool:=match sc.names.lookup x with
 |some .local=>true
 |some .cell=>true
 |_=>false
theorem za9 {sc:Scope}{x:Str} (h:locB sc x=true):L2.Loc sc x:=by
 unfold locB at h
 unfold L2.Loc
 cases e:sc.names.lookup x with
 |none=>rw [e]at h;cases h
 |some k=>rw [e]at h;cases k<;>first | exact .inl rfl | exact .inr rfl | cases h
end DL
namespace L2
open PySem.Spec
section
variable {X:Cx}{pins:List (Addr×Obj)}{σ:L2.St}{H:Hp}{s:zaw0}{h':Heap}
theorem Inv.turnedNew {t':Nat}{fp:List Addr}{a:Addr}{o:HO} (I:Inv X pins σ H s) (k:∀b u,b∉fp→s.heap.get? b=some u→h'.get? b=some u) (hf:∀b∈fp,FpOk X pins H b) (hp:s.heap.objs.size≤a)
  (new:ObjOk X.prog X.w (upd H a o) h' a o):Inv X pins σ (upd H a o) { s with heap:=h',toks:=t' }:=by
 have ha:H a=none:=I.hok.fresh hp
 have sm:∀b u,H b=some u→upd H a o b=some u:=fun b u e=>by rw [zb9 (fun z=>by rw [z,ha]at e;cases e)];exact e
 have nfp:∀b u,H b=some u→b∉fp:=fun b u e z=>by rw [(hf b z).1]at e;cases e
 refine I.step (g':=s.gens) (d':=s.drawn) (ch:=fp) (fun b hb=>?_) (fun b u _ _ hc e _=>k b u hc e) (fun b u _ _ hc e _=>⟨u.slots,k b u hc e⟩) (fun b u _ e n=>?_)
  (fun b u hc e=>⟨u,k b u hc e⟩) (fun b xs e=>sm b _ e) (fun b q u e=>sm b _ e) (fun b ps e=>sm b _ e) (fun m hm=>?_) (fun b u e=>?_) I.bare
 ·obtain⟨f0,f1,f2,f3,f4,f5⟩:=hf b hb
  exact⟨f3,f1,f4,f5⟩
 ·rw [zb9 (zax4 (zaw1 (zaw5 e) hp))];exact n
 ·obtain⟨q,es,ep,ho,r⟩:=hm
  exact⟨q,es,ep,k _ q (fun z=>(hf _ z).2.1 rfl) ho,r⟩
 ·by_cases z:b=a
  ·subst z
   rw [zb4]at e
   cases e
   exact new
  ·rw [zb9 z]at e
   refine (I.hok b u e).stay (fun c v hc q=>k c v ?_ q) (fun c q=>sm c _ q) (fun c xs q=>sm c _ q) fun c o u q=>sm c _ q
   rcases hc with w | w
   ·rw [w];exact nfp b u e
   ·exact nfp c _ w
theorem Inv.turnedL {t':Nat}{fp:List Addr} (I:Inv X pins σ H s) (k:∀b u,b∉fp→s.heap.get? b=some u→h'.get? b=some u) (hf:∀b∈fp,FpOk X pins H b):Inv X pins σ H { s with heap:=h',toks:=t' }:=by
 have nfp:∀b u,H b=some u→b∉fp:=fun b u e z=>by rw [(hf b z).1]at e;cases e
 refine I.step (g':=s.gens) (d':=s.drawn) (ch:=fp) (fun b hb=>?_) (fun b u _ _ hc e _=>k b u hc e) (fun b u _ _ hc e _=>⟨u.slots,k b u hc e⟩) (fun b u _ e n=>n)
  (fun b u hc e=>⟨u,k b u hc e⟩) (fun b xs e=>e) (fun b q u e=>e) (fun b ps e=>e) (fun m hm=>?_) (fun b u e=>?_) I.bare
 ·obtain⟨f0,f1,f2,f3,f4,f5⟩:=hf b hb
  exact⟨f3,f1,f4,f5⟩
 ·obtain⟨q,es,ep,ho,r⟩:=hm
  exact⟨q,es,ep,k _ q (fun z=>(hf _ z).2.1 rfl) ho,r⟩
 ·refine (I.hok b u e).stay (fun c v hc q=>k c v ?_ q) (fun c q=>q) (fun c xs q=>q) fun c o u q=>q
  rcases hc with w | w
  ·rw [w];exact nfp b u e
  ·exact nfp c _ w
end
noncomputable def Ite (K:zau7) (a:Addr):It :=
 ⟨fun i H => ∃xs x,SqL K H a xs∧xs[i]?=some x,fun i H x H' => ∃p v,H p=none∧x=.ref p∧H'=upd H p (.tup [.int i,v])∧∀xs,SqL K H a xs→xs[i]?=some v,fun i H => ∃xs,SqL K H a xs∧xs.length≤i⟩
def EnumAt (e it a:Addr) (i:Nat) (h:Heap):Prop:=(∃old,IsEnum h e it (i:Int) old)∧h.IsListIter it a i∧e≠it
theorem zal4 {P:Program}{w:World}{K:zau7}{elts:List Expr}{k:Nat}{pos:Pos} (a e it:Addr):Turn P w K (.Tuple elts k pos) (Ite K a) [e,it] e (EnumAt e it a) where
 mem:=by simp
 obj:=fun i h st b hb=>by
  obtain⟨⟨old,h1⟩,h2,_⟩:=st
  rcases (by simpa using hb:b=e∨b=it) with rfl | rfl
  ·exact⟨_,h1,fun v z=>by cases z⟩
  ·obtain⟨o,e1,c,d⟩:=h2
   exact⟨o,e1,fun v z=>by rw [d]at z;cases z⟩
 keep:=fun i h h' st kk=>by
  obtain⟨⟨old,h1⟩,h2,ne⟩:=st
  exact⟨⟨old,kk e (by simp) _ h1⟩,h2.at fun o q=>kk it (by simp) o q,ne⟩
 item:=by
  intro X hP hw hK hc i pins s σ H E I hf st hg
  subst hP hw hK
  obtain⟨xs,x,hq,hx⟩:=hg
  obtain⟨its,rv,p,hz⟩:=I.list hq
  obtain⟨u,hu,ru⟩:=rv.get hx
  obtain⟨⟨old,h1⟩,h2,ne⟩:=st
  refine wpAny_pyNext_enum_item h1 h2 p.isList (x:=u) (by simpa using hu) ne fun h1' heo hit1 ht1 hz1 hk1=>?_
  refine⟨_,rfl,wpAny_letOwnedTupleGo_enum heo fun h2' he2 hs2=>?_⟩
  replace hs2:Heap.SameBut e h1' h2':=hs2
  have es:e<s.heap.objs.size:=zaw5 h1
  have kp:∀b o,b∉[e,it]→s.heap.get? b=some o→h2'.get? b=some o:=fun b o nb q=>by
   have n1:b≠e:=fun z=>nb (by simp [z])
   have n2:b≠it:=fun z=>nb (by simp [z])
   exact (hs2.2 b n1).trans (hk1 b o n1 n2 q)
  have ht2:h2'.get? s.heap.objs.size=some { cls:=.type "tuple",data:=.seq #[.int i s.toks,u] }:=(hs2.2 _ (zbd1 es)).trans ht1
  have I2:Inv X pins σ (upd H s.heap.objs.size (.tup [.int i,x])) { s with heap:=h2',toks:=s.toks+1 }:=I.turnedNew (t':=s.toks+1) kp hf (zaw9 _)
   ⟨by show 2≤sizeLine;decide,[.int i s.toks,u],.cons ⟨_,rfl⟩ (.cons ru .nil),⟨_,ht2,rfl,_,rfl⟩⟩
  refine⟨.ref s.heap.objs.size,_,I2,rfl,⟨s.heap.objs.size,x,I.hok.fresh (zaw9 _),rfl,rfl,fun ys hy=>by rw [I.list_inj hy hq];exact hx⟩,⟨⟨u,?_⟩,?_,ne⟩,fun b hb=>?_⟩
  ·exact he2
  ·exact hit1.extBut hs2.extBut (Ne.symm ne)
  ·rw [zb9 (fun z=>?_)]
   ·exact (hf b hb).1
   ·rcases (by simpa using hb:b=e∨b=it) with w' |w'
    ·rw [← z,w']at es;exact absurd es (zaz8 _)
    ·obtain⟨o,e1,_⟩:=h2
     have:=zaw5 e1
     rw [← w',z]at this;exact absurd this (zaz8 _)
 done:=by
  intro X hP hw hK hc i pins s σ H E I hf st hg
  subst hP hw hK
  obtain⟨xs,hq,hx⟩:=hg
  obtain⟨its,rv,p,hz⟩:=I.list hq
  obtain⟨⟨old,h1⟩,h2,ne⟩:=st
  have hl:=rv.length
  refine wpAny_pyNext_enum_end (I.ok.hd hc) h1 h2 p.isList (by simp;lia) fun h' eb=>⟨rfl,I.turnedL (t':=s.toks) (fun b o nb q=>eb b o (fun z=>nb (by simp [z])) q) hf⟩
 self:=fun _ _ _ _ _ st h=>by
  obtain⟨⟨old,h1⟩,_,_⟩:=st
  exact wpAny_pyIter_enum h1 h
def iEnum (K:zau7) (tl:TE):TI:=fun σ H R=>tl σ H fun x H1 => ∃a,x=.ref a∧(∃xs,SqL K H1 a xs)∧R (Ite K a) H1
theorem bt_enum:bootBuiltins "enumerate"=some (.type "enumerate"):=by decide +kernel
theorem pi_enum {X:Cx}{l:Expr}{tl:TE}{elts:List Expr}{k:Nat}{tp p pos:Pos} (hg:Gl X "enumerate") (hm:X.mg "enumerate"=none) (hl:PE X l tl) (hs:zaw7 [l] X.env=[(false,eval l X.env)]:=by rfl) :
  PI X (.Tuple elts k tp) (.Call (.Name "enumerate" p) [l] [] pos) (iEnum X.K tl):=by
 intro pins s σ H R I h
 refine Call_ (zo9 I hg hm bt_enum (PyProof.Rows.callWith_type1 (thn ((zi7 hl zo5 hs) pos pins s σ H (fun vs H1=>match vs with | [x] => ∃a,x=.ref a∧(∃xs,SqL X.K H1 a xs)∧R (Ite X.K a) H1 | _=>False) I h) fun us s1 ⟨vs,H1,I1,r1,q1⟩=>?_) hs rfl))
 cases r1 with
 |nil=>exact q1.elim
 |@cons x u xr ur ru rr =>
  cases rr with
  |cons _ _=>exact q1.elim
  |nil =>
  obtain⟨a,rfl,⟨xs,hq⟩,q⟩:=q1
  cases ru
  obtain⟨its,rv,p,hz⟩:=I1.list hq
  refine call_enumerate_list p.isList fun h' he hit hz' hk=>?_
  have I2:Inv X pins σ H1 { s1 with heap:=h' }:=I1.kept (t':=s1.toks) hk
  refine wpAny_pyIter_enum he ?_
  refine⟨s1.heap.objs.size+1,[s1.heap.objs.size+1,s1.heap.objs.size],EnumAt (s1.heap.objs.size+1) s1.heap.objs.size a,Ite X.K a,H1,rfl,I2,zal4 a _ _,⟨⟨_,he⟩,hit,Nat.succ_ne_self _⟩,fun b hb=>?_,q⟩
  rcases (by simpa using hb:b=s1.heap.objs.size+1∨b=s1.heap.objs.size) with rfl | rfl
  ·exact I1.fpOk (zbl7 _) (I1.hok.fresh (zbl7 _))
  ·exact I1.fpOk (zaw9 _) (I1.hok.fresh (zaw9 _))
end L2
namespace DL
open PySem.Spec L2
def zl7 (i:Nat):List D→List D
 |[]=>[]
 |d::ds=>.tup [.int i,d]::zl7 (i+1) ds
theorem zl6:∀(i:Nat) (ds:List D),(zl7 i ds).length=ds.length
 |_,[]=>rfl
 |i,d::ds=>by simp [zl7,zl6 (i+1) ds]
theorem zab8:∀(i:Nat) (ds:List D) (j:Nat) (d:D),ds[j]?=some d→(zl7 i ds)[j]?=some (.tup [.int ((i+j:Nat):Int),d])
 |_,[],j,d,h=>by simp at h
 |i,e::ds,0,d,h=>by simp at h;subst h;simp [zl7]
 |i,e::ds,j+1,d,h=>by
  have:=zab8 (i+1) ds j d (by simpa using h)
  simp only [zl7,zbd0,this]
  rw [show i+1+j=i+(j+1) by lia]
end DL
namespace L2
open PySem.Spec
noncomputable def clOf (cells:List (Str×Addr)):List (Str×NameKind)→List (Str×Addr)→List (Str×Addr)
 |[],acc=>acc
 |(n,k)::r,acc=>if k == .free then clOf cells r ((n,(cells.lookup n).getD 0)::acc) else clOf cells r acc
theorem zn5 {cells:List (Str×Addr)}:∀ {names:List (Str×NameKind)}{acc:List (Str×Addr)}{x:Str}{c:Addr},(∀y∈names,y.2=.free→∃c,cells.lookup y.1=some c)→(clOf cells names acc).lookup x=some c→acc.lookup x=some c∨cells.lookup x=some c
 |[],acc,x,c,_,h=>.inl h
 |(n,k)::r,acc,x,c,hy,h=>by
  unfold clOf at h
  have hr:∀y∈r,y.2=.free→∃c,cells.lookup y.1=some c:=fun y h1=>hy y (zau8 _ h1)
  split at h
  ·rename_i hk
   rcases zn5 hr h with z | z
   ·rw [zax5]at z
    split at z
    ·rename_i e
     have e:x=n:=by simpa using e
     obtain⟨c',hc'⟩:=hy (n,k) (zav1 ..) (by simpa using hk)
     simp only [hc',zbh1]at z
     cases z
     rw [e];exact .inr hc'
    ·exact .inl z
   ·exact .inr z
  ·exact zn5 hr h
theorem zu6 {cells:List (Str×Addr)}:∀ {names:List (Str×NameKind)}{acc:List (Str×Addr)}{x:Str},(∃c,acc.lookup x=some c)→∃c,(clOf cells names acc).lookup x=some c
 |[],acc,x,h=>h
 |(n,k)::r,acc,x,h=>by
  unfold clOf
  split
  ·refine zu6 ?_
   rw [zax5]
   split
   ·exact⟨_,rfl⟩
   ·exact h
  ·exact zu6 h
theorem zs4 {cells:List (Str×Addr)}:∀ {names:List (Str×NameKind)}{acc:List (Str×Addr)}{x:Str},(x,NameKind.free)∈names→∃c,(clOf cells names acc).lookup x=some c
 |(n,k)::r,acc,x,h=>by
  unfold clOf
  rcases zav5.mp h with z | z
  ·cases z
   rw [if_pos (by rfl)]
   refine zu6 ⟨(cells.lookup n).getD 0,?_⟩
   simp [zax5]
  ·split
   ·exact zs4 z
   ·exact zs4 z
theorem zm3 {scope:Scope}{env:Env} (h:∀y∈scope.names,y.2=.free→∃c,env.cells.lookup y.1=some c):closureFor scope env=pure (clOf env.cells scope.names []):=by
 unfold closureFor
 have key:∀(names:List (Str×NameKind)) (acc:List (Str×Addr)),(∀y∈names,y.2=.free→∃c,env.cells.lookup y.1=some c) →
   (forIn names acc fun (x:Str×NameKind) (cs:List (Str×Addr))=>(do
    if x.2 == .free then
     let a ← cellOf env x.1
     pure (ForInStep.yield ((x.1,a)::cs))
    else pure (ForInStep.yield cs):Sem (ForInStep (List (Str×Addr)))))=pure (clOf env.cells names acc):=by
  intro names
  induction names with
  |nil=>intro acc _;rfl
  |cons y r ih =>
   intro acc hy
   obtain⟨n,k⟩:=y
   have hr:∀y∈r,y.2=.free→∃c,env.cells.lookup y.1=some c:=fun y h1=>hy y (zau8 _ h1)
   rw [List.forIn_cons]
   unfold clOf
   by_cases hk:(k == NameKind.free)=true
   ·obtain⟨c,hc⟩:=hy (n,k) (zav1 ..) (by simpa using hk)
    have hc':cellOf env n=pure c:=by unfold cellOf;rw [hc]
    simp only [hk,if_true,hc']
    rw [← ih _ hr]
    simp only [hc,zbh1]
    rfl
   ·have hk':(k == NameKind.free)=false:=by simpa using hk
    simp only [hk',zbf3,if_false]
    rw [← ih _ hr]
    rfl
 have:=key scope.names [] h
 simp only [bind_pure_comp]at this ⊢
 rw [this]
 rfl
theorem ze9 {env:Env}:∀ {names:List (Str×NameKind)}{x:Str}{k':NameKind},(names.map fun (n,k)=>if (k == NameKind.free&&env.scope.kind == .function&&env.kindOf n == some .cell) then (n,NameKind.cell) else (n,k)).lookup x=some k' →
  ∃k,(x,k)∈names∧(k'=k∨(k=.free∧k'=.cell))
 |[],x,k',h=>by simp at h
 |(n,k)::r,x,k',h=>by
  rw [zav6]at h
  by_cases hc:(k == NameKind.free&&env.scope.kind == .function&&env.kindOf n == some .cell)=true
  ·simp only [hc,if_true,zax5]at h
   split at h
   ·rename_i e
    have e:x=n:=by simpa using e
    cases h
    simp only [zav3,beq_iff_eq]at hc
    have hk:k=.free:=by simpa using hc.1.1
    exact⟨k,by rw [e];exact zav1 ..,.inr ⟨hk,rfl⟩⟩
   ·obtain⟨q,a,b⟩:=ze9 h
    exact⟨q,zau8 _ a,b⟩
  ·have hc':(k == NameKind.free&&env.scope.kind == .function&&env.kindOf n == some .cell)=false:=by simpa using hc
   simp only [hc',zbf3,if_false,zax5]at h
   split at h
   ·rename_i e
    have e:x=n:=by simpa using e
    cases h
    exact⟨_,by rw [e];exact zav1 ..,.inl rfl⟩
   ·obtain⟨q,a,b⟩:=ze9 h
    exact⟨q,zau8 _ a,b⟩
theorem zr5 {prog:Program}{w:World}{A:Around}{R:Result→zaw0→Prop}{s:zaw0}{elt target iter:Expr}{ifs:List Expr}{scope:Scope}{pos:Pos}{it acc:Value}{env:Env} (I:Nat→zaw0→Prop)
  (turn:∀n s,I n s→wpAny (model prog w) A (pyNext it) (fun r s₁=>match r with
   |none=>R (.ok .next) s₁
   |some v=>wpAny (model prog w) A (letOwnedTupleGo target it v) (fun _ s₁'=>wpAny (model prog w) A (assign target env v) (fun _ s₂ =>
     wpAny (model prog w) A (forIn ifs true fun c r=>if r=true then do let ok ← isTrue c env (eval c env);pure (ForInStep.yield ok) else pure (ForInStep.yield r)) (fun ok s₃ =>
      if ok=true then wpAny (model prog w) A (eval elt env) (fun x s₄ =>
       wpAny (model prog w) A (call (.builtin "list.append") [acc,x]) (fun _ s₅ => ∃m,m<n∧I m s₅) (fun _ _=>False) s₄) (fun _ _=>False) s₃
      else ∃m,m<n∧I m s₃) (fun _ _=>False) s₂) (fun _ _=>False) s₁') (fun _ _=>False) s₁) (fun _ _=>False) s)
  (n:Nat) (h:I n s):codeAny (model prog w) A (.compLoop (.ListComp elt [⟨target,iter,ifs,0⟩] scope pos) 0 it acc env) R s:=by
 refine codeAny_loop rfl I (fun n s hI=>?_) n h
 show wpAny _ A ((compTurn (.ListComp elt [⟨target,iter,ifs,0⟩] scope pos) 0 it acc env).onRaise (fun x=>do noteFrame x env;theTreesLotGoes x)) _ _ s
 refine wpAny_noted ?_
 rw [compTurn_list]
 refine zaw3 (wpAny_standAt (zaw3 (wpAny_mono (turn n s hI) (fun r s₁ h₁=>?_) fun _ _ h'=>h'.elim)))
 cases r with
 |none=>exact zax9 h₁
 |some v =>
  refine zaw3 (wpAny_mono h₁ (fun _ s₁' h₁'=>?_) fun _ _ h'=>h'.elim)
  refine zaw3 (wpAny_mono h₁' (fun _ s₂ h₂=>zaw3 (wpAny_mono h₂ (fun ok s₃ h₃=>?_) fun _ _ h'=>h'.elim)) fun _ _ h'=>h'.elim)
  cases ok with
  |false=>exact zax9 ⟨rfl,h₃⟩
  |true =>
   exact zaw3 (zaw3 (wpAny_mono h₃ (fun x s₄ h₄=>zaw3 (wpAny_mono h₄ (fun _ s₅ h₅=>zax9 (zax9 ⟨rfl,h₅⟩)) fun _ _ h'=>h'.elim)) fun _ _ h'=>h'.elim))
theorem zy4 {x:Str}{c:Addr}:∀ {names:List (Str×NameKind)}{n:Nat}{acc:List (Str×Addr)},(cellsFrom n names acc).lookup x=some c→acc.lookup x=some c∨n≤c
 |[],n,acc,h=>.inl h
 |(y,k)::r,n,acc,h=>by
  unfold cellsFrom at h
  split at h
  ·rcases zy4 h with z | z
   ·rw [zax5]at z
    split at z
    ·cases z;exact .inr (zaw9 _)
    ·exact .inl z
   ·exact .inr (by lia)
  ·exact zy4 h
theorem zai9 {x:Str}:∀ {names:List (Str×NameKind)}{n:Nat}{acc:List (Str×Addr)},(∃c,acc.lookup x=some c)→∃c,(cellsFrom n names acc).lookup x=some c
 |[],n,acc,h=>h
 |(y,k)::r,n,acc,h=>by
  unfold cellsFrom
  split
  ·refine zai9 ?_
   rw [zax5]
   split
   ·exact⟨_,rfl⟩
   ·exact h
  ·exact zai9 h
theorem zaf5 {x:Str}:∀ {names:List (Str×NameKind)}{n:Nat}{acc:List (Str×Addr)},(x,NameKind.cell)∈names→∃c,(cellsFrom n names acc).lookup x=some c
 |(y,k)::r,n,acc,h=>by
  unfold cellsFrom
  rcases zav5.mp h with z | z
  ·cases z
   rw [if_pos (by rfl)]
   exact zai9 ⟨n,by simp [zax5]⟩
  ·split
   ·exact zaf5 z
   ·exact zaf5 z
theorem cf_ge {x:Str}{c:Addr}{lo:Nat}:∀ {names:List (Str×NameKind)}{n:Nat}{acc:List (Str×Addr)},lo≤n→(∀c,acc.lookup x=some c→lo≤c)→(cellsFrom n names acc).lookup x=some c→lo≤c
 |[],n,acc,_,ha,h=>ha c h
 |(y,k)::r,n,acc,hn,ha,h=>by
  unfold cellsFrom at h
  split at h
  ·refine cf_ge (n:=n+1) (by lia) (fun c' h'=>?_) h
   rw [zax5]at h'
   split at h'
   ·cases h';exact hn
   ·exact ha c' h'
  ·exact cf_ge hn ha h
theorem zat1 {x:Str}{c:Addr}:∀ {names:List (Str×NameKind)}{n:Nat}{acc:List (Str×Addr)},(x,NameKind.cell)∈names→(cellsFrom n names acc).lookup x=some c→n≤c
 |(y,k)::r,n,acc,hm,h=>by
  unfold cellsFrom at h
  rcases zav5.mp hm with z | z
  ·cases z
   rw [if_pos (by rfl)]at h
   refine cf_ge (lo:=n) (n:=n+1) (by lia) (fun c' h'=>?_) h
   rw [zax5,beq_self_eq_true]at h'
   cases h'
   exact zaw9 _
  ·split at h
   ·have:=zat1 z h;lia
   ·exact zat1 z h
theorem zat0 {x:Str}:∀ {names:List (Str×NameKind)}{n:Nat}{acc:List (Str×Addr)},(x,NameKind.cell)∉names→(cellsFrom n names acc).lookup x=acc.lookup x
 |[],n,acc,_=>rfl
 |(y,k)::r,n,acc,h=>by
  have hr:(x,NameKind.cell)∉r:=fun z=>h (zau8 _ z)
  unfold cellsFrom
  split
  ·rename_i hk
   rw [zat0 hr,zax5]
   split
   ·rename_i e
    exact absurd (zav5.mpr (.inl (by rw [show x=y by simpa using e,show k=NameKind.cell by simpa using hk]))) h
   ·rfl
  ·exact zat0 hr
theorem zat3:∀ {names:List (Str×NameKind)}{n:Nat}{acc:List (Str×Addr)},(∀x c,acc.lookup x=some c→c<n)→(∀x y c,acc.lookup x=some c→acc.lookup y=some c→x=y) →
  ∀x y c,(cellsFrom n names acc).lookup x=some c→(cellsFrom n names acc).lookup y=some c→x=y
 |[],n,acc,_,hi=>hi
 |(z,k)::r,n,acc,hb,hi=>by
  unfold cellsFrom
  split
  ·refine zat3 (n:=n+1) (fun x c h=>?_) (fun x y c h1 h2=>?_)
   ·rw [zax5]at h
    split at h
    ·cases h;exact zaz6 _
    ·exact zbb2 (hb x c h)
   ·rw [zax5]at h1 h2
    split at h1
    ·rename_i e1
     cases h1
     split at h2
     ·rename_i e2;rw [show x=z by simpa using e1,show y=z by simpa using e2]
     ·exact absurd (hb y _ h2) (zaz8 _)
    ·split at h2
     ·cases h2;exact absurd (hb x _ h1) (zaz8 _)
     ·exact hi x y c h1 h2
  ·exact zat3 hb hi
theorem zaf6 {x:Str}{c:Addr}:∀ {names:List (Str×NameKind)}{h:Heap}{acc:List (Str×Addr)},(∀c,acc.lookup x=some c→∃v,h.IsCell c v)→(cellsFrom h.objs.size names acc).lookup x=some c→∃v,(pushCells h names).IsCell c v
 |[],h,acc,ha,e=>ha c e
 |(y,k)::r,h,acc,ha,e=>by
  unfold cellsFrom at e
  unfold pushCells
  split at e
  ·rename_i hk
   rw [if_pos hk]
   rw [show h.objs.size+1=(h.push { cls:=.type "cell",data:=.cell none }).objs.size from (zbc8 ..).symm]at e
   refine zaf6 (fun c' e'=>?_) e
   rw [zax5]at e'
   split at e'
   ·cases e';exact⟨none,_,zaz9 _ rfl,rfl⟩
   ·obtain⟨v,z⟩:=ha c' e'
    exact⟨v,z.keeps fun b o q=>zav8 _ q⟩
  ·rename_i hk
   rw [if_neg hk]
   exact zaf6 ha e
theorem zg7 {M:Model}{A:Around}{E:Value→zaw0→Prop}{s:zaw0}{scope:Scope}{globals:Addr}{cl:List (Str×Addr)}{qual:Str}{func:Option Addr}{code:Value}{env:Env}{builtins:Addr}{Q:Env→zaw0→Prop}
  (hQ:∀h',h'.Ns s.heap.objs.size (fun _=>none)→(∀b o,s.heap.get? b=some o→h'.get? b=some o)→(∀x c,(∀c,cl.lookup x=some c→∃v,s.heap.IsCell c v)→(cellsFrom (s.heap.objs.size+1) scope.names cl).lookup x=some c→∃v,h'.IsCell c v) →
   Q (newEnv scope s.heap.objs.size globals (cellsFrom (s.heap.objs.size+1) scope.names cl) qual func code (some env) builtins) { s with heap:=h',toks:=s.toks }) :
  wpAny M A (newFunctionEnv scope globals cl [] qual func code (some env) builtins) Q E s:=by
 simp only [newFunctionEnv,zbi6,if_true]
 refine zaw3 (wpAny_alloc ?_)
 refine zaw3 (wpAny_layCells _ (fun name kind cells=>by cases hkc:kind == NameKind.cell<;>simp [hkc]) _ _ _ _ ?_)
 have sz:(s.heap.push { cls:=.type "dict",data:=.dict #[] }).objs.size=s.heap.objs.size+1:=zbc8 ..
 rw [show ({ s with heap:=s.heap.push { cls:=.type "dict",data:=.dict #[] } }:zaw0).heap.objs.size=s.heap.objs.size+1 from sz]
 rw [List.forIn_nil]
 refine zaw3 (zax9 (zax9 ?_))
 refine hQ _ ((Heap.Ns.new s.heap (.type "dict")).keeps (pushCells_keeps _ _)) (fun b o e=>pushCells_keeps _ _ b o (zav8 _ e)) fun x c ha e=>?_
 rw [← sz]at e
 exact zaf6 (fun c' e'=>let ⟨v,z⟩:=ha c' e';⟨v,z.keeps fun b o q=>zav8 _ q⟩) e
noncomputable abbrev blk (X:Cx) (N':List Str) (scope:Scope) (C:Addr) (s₃:zaw0) (H₃:Hp) (fp:List Addr) (pins:List (Addr×Obj)):Cx :=
 { X with N:=N',s₀:=s₃,H₀:=H₃,env:=compEnvC scope (cellsFrom (C+1) scope.names (clOf X.env.cells scope.names [])) C X.env,outer:=X.stack,stack:=X.stack,ex:=fp,fn:=fun x=>scope.names.lookup x == some .cell,calm:=true,pn:=X.pn++pins,xe:=fun _ _=>False }
structure CompSc (X:Cx) (scope:Scope):Prop where
 kind:scope.kind=.function
 free:∀y∈scope.names,y.2=.free→X.env.kindOf y.1=some .cell∨X.env.kindOf y.1=some .free
 names:∀y∈scope.names,scope.names.lookup y.1=some y.2
section
variable {X:Cx}{pins:List (Addr×Obj)}{σ:L2.St}{H:Hp}{s:zaw0}{scope:Scope}{N':List Str}{fp:List Addr}
theorem CompSc.frees (S:CompSc X scope) (ok:X.Ok):∀y∈scope.names,y.2=.free→∃c,X.env.cells.lookup y.1=some c:=fun y hy hf=>ok.has y.1 (S.free y hy hf)
theorem CompSc.cells (S:CompSc X scope) (ok:X.Ok) {x:Str}{c:Addr} (h:(clOf X.env.cells scope.names []).lookup x=some c):X.env.cells.lookup x=some c:=by
 rcases zn5 (S.frees ok) h with z | z
 ·simp at z
 ·exact z
theorem CompSc.nc (S:CompSc X scope) {x:Str} (h:(x,NameKind.free)∈scope.names):(x,NameKind.cell)∉scope.names:=fun z=>by
 have w1:=S.names _ h
 have w2:=S.names _ z
 rw [show (x,NameKind.cell).1=(x,NameKind.free).1 from rfl,w1]at w2
 cases w2
theorem CompSc.cls (S:CompSc X scope) (I:Inv X pins σ H s) {x:Str}{c:Addr} (h:(clOf X.env.cells scope.names []).lookup x=some c):c<s.heap.objs.size:=by
 obtain⟨v,o,ho,_⟩:=I.cell x c (S.cells I.ok h)
 exact zaw5 ho
theorem CompSc.old (S:CompSc X scope) (I:Inv X pins σ H s) {x:Str}{c:Addr} (h:(cellsFrom (s.heap.objs.size+1) scope.names (clOf X.env.cells scope.names [])).lookup x=some c):X.env.cells.lookup x=some c∨s.heap.objs.size<c:=by
 rcases zy4 h with z | z
 ·exact .inl (S.cells I.ok z)
 ·exact .inr z
theorem blk_ok (I:Inv X pins σ H s) (S:CompSc X scope) (hc:X.calm=true) (hf:∀b∈fp,FpOk X pins H b) (hlt:∀b∈fp,b<s.heap.objs.size):(blk X N' scope s.heap.objs.size s H fp pins).Ok where
 mod:=I.ok.mod
 kind:=S.kind
 glob:=I.ok.glob
 blt:=I.ok.blt
 above:=zaw9 _
 inj:=zat3 (fun x c h=>zbb2 (S.cls I h)) fun x y c h1 h2=>I.ok.inj x y c (S.cells I.ok h1) (S.cells I.ok h2)
 has:=fun x hx=>by
  have hx:(relabel scope X.env).names.lookup x=some .cell∨(relabel scope X.env).names.lookup x=some .free:=hx
  have:(x,NameKind.free)∈scope.names∨(x,NameKind.cell)∈scope.names:=by
   rcases hx with hx | hx
   ·obtain⟨k,a,b⟩:=ze9 hx
    rcases b with b | b
    ·rw [← b]at a;exact .inr a
    ·rw [b.1]at a;exact .inl a
   ·obtain⟨k,a,b⟩:=ze9 hx
    rcases b with b | b
    ·rw [← b]at a;exact .inl a
    ·cases b.2
  rcases this with z | z
  ·exact zai9 (zs4 z)
  ·exact zaf5 z
 cab:=fun x c h e=>by
  have h:(scope.names.lookup x == some NameKind.cell)=true:=h
  have h:scope.names.lookup x=some .cell:=by simpa using h
  exact Nat.le_of_succ_le (zat1 (PySem.mem_of_lookup h) e)
 hd:=fun _=>I.ok.hd hc
 frames:=I.ok.frames
 stk:=.inl rfl
 exf:=fun b hb=>⟨zax4 (hlt b hb),fun x c h=>by
  rcases S.old I h with z | z
  ·exact (hf b hb).2.2.2.2.1 x c z
  ·exact zbd1 (zbe1 (hlt b hb) z)⟩
 bs:=fun b o e=>I.bs b o e
 bsz:=zax3 I.ok.bsz I.sz
 noex:=fun b o e hb=>by
  rcases (hf b hb).2.2.2.1 with z | z
  ·exact I.ok.noex b o e z
  ·exact absurd (zaw1 (zaw5 e) (zax3 I.ok.bsz z)) (zaz8 _)
 exfs:=fun b hb z=>(zav5.mp (I.stkSub b z)).elim (hf b hb).2.1 (hf b hb).2.2.1
 funs:=I.stack
 frf:=I.stkFree
 tabs:=fun p hp=>I.base.tbls _ _ (I.ok.tabs p hp)
theorem zy8 (I:Inv X pins σ H s) (S:CompSc X scope) (hc:X.calm=true) (hf:∀b∈fp,FpOk X pins H b) (hlt:∀b∈fp,b<s.heap.objs.size) {h1:Heap}{t1:Nat}{m:Str→Option Value}{σ':L2.St}
  (hns:h1.Ns s.heap.objs.size m) (hk:∀b o,s.heap.get? b=some o→h1.get? b=some o) (hcl:∀x c,(∀c,(clOf X.env.cells scope.names []).lookup x=some c→∃v,s.heap.IsCell c v)→(cellsFrom (s.heap.objs.size+1) scope.names (clOf X.env.cells scope.names [])).lookup x=some c→∃v,h1.IsCell c v) (hl:σ'.length=N'.length)
  (cap:∀(i:Nat) (x:Str) (v:V),N'[i]?=some x→σ'[i]?=some (some v)→(x,NameKind.free)∈scope.names∧∃j:Nat,X.N[j]?=some x∧σ[j]?=some (some v)) :
  Inv (blk X N' scope s.heap.objs.size s H fp pins) [] σ' H { s with heap:=h1,toks:=t1 } where
 ok:=blk_ok I S hc hf hlt
 os:=rfl
 bare:=I.bare
 base:=Un.kept hk
 loc:=⟨m,hns,fun i x v e1 e2 vs=>by
  obtain⟨hfree,j,j1,j2⟩:=cap i x v e1 e2
  obtain⟨m0,hn0,hl0⟩:=I.loc
  have vis:Vis X.env.scope x:=by
   rcases S.free _ hfree rfl with z | z
   ·exact .inr (.inl z)
   ·exact .inr (.inr z)
  obtain⟨u,r,l⟩:=hl0 j x v j1 j2 vis
  refine⟨u,r,?_⟩
  rcases l with ⟨k,_⟩ | ⟨k,c,e,z⟩
  ·exfalso
   rcases S.free _ hfree rfl with q | q
   ·rw [k]at q;cases q
   ·rw [k]at q;cases q
  ·obtain⟨c',hc'⟩:=zs4 (cells:=X.env.cells) (acc:=[]) hfree
   have e':=S.cells I.ok hc'
   rw [e]at e';cases e'
   refine .inr ⟨?_,c,by rw [show (blk X N' scope s.heap.objs.size s H fp pins).env.cells.lookup x=_ from zat0 (S.nc hfree)];exact hc',?_⟩
   ·have vs:(relabel scope X.env).names.lookup x=some .local∨(relabel scope X.env).names.lookup x=some .cell∨(relabel scope X.env).names.lookup x=some .free:=vs
    rcases vs with q | q
    ·obtain⟨k2,a,b⟩:=ze9 q
     rcases b with b | b
     ·rw [← b]at a
      have w1:=S.names _ a
      have w2:=S.names _ hfree
      rw [show (x,NameKind.local).1=(x,NameKind.free).1 from rfl,w2]at w1
      cases w1
     ·cases b.2
    ·exact q
   ·obtain⟨o,ho,hd⟩:=z
    exact⟨o,hk _ _ ho,hd⟩⟩
 cell:=fun x c h=>hcl x c (fun c' h'=>I.cell x c' (S.cells I.ok h')) h
 free:=I.hok.fresh (zaw9 _)
 freeC:=fun x c h=>by
  rcases S.old I h with z | z
  ·exact I.freeC x c z
  ·exact I.hok.fresh (zbf6 z)
 pin:=fun p hp=>by
  have hp:p∈(X.pn++pins)++[]:=hp
  rw [zbd4]at hp
  obtain⟨a,b,c,d,e⟩:=I.pin p hp
  exact⟨hk _ _ a,b,zax4 (zaw5 a),fun z=>(zav5.mp (I.stkSub _ z)).elim c d,e⟩
 hok:=I.hok.kept hk
 len:=hl
theorem zs5 {H3 H':Hp}{s':zaw0}{h'':Heap}{σ':L2.St}{C:Addr}{pins':List (Addr×Obj)} (I:Inv X pins σ H3 s) (hf:∀b∈fp,FpOk X pins H3 b) (hC:C=s.heap.objs.size) (I':Inv (blk X N' scope C s H3 fp pins) pins' σ' H' s') (hb:Heap.SameBut C s'.heap h''):Inv X pins σ H' { s' with heap:=h'' }:=by
 subst hC
 have bs:Un (frs X.stack) fp H3 H' s.heap s'.heap:=I'.base
 have nC:∀b o,s.heap.get? b=some o→b≠s.heap.objs.size:=fun b o e=>zax4 (zaw5 e)
 have tr:∀b,b≠s.heap.objs.size→h''.get? b=s'.heap.get? b:=fun b n=>hb.2 b n
 have u:Un (frs X.stack) fp H3 H' s.heap h'' :=
  ⟨fun b o e n h1 h2=>(tr b (nC b o e)).trans (bs.keep b o e n h1 h2),fun b o e n h1 h2=>by obtain⟨sl,q⟩:=bs.slot b o e n h1 h2;exact⟨sl,(tr b (nC b o e)).trans q⟩,bs.free,
   fun b o e h1=>by obtain⟨o',q⟩:=bs.there b o e h1;exact⟨o',(tr b (nC b o e)).trans q⟩,bs.tups,bs.frzs,bs.tbls⟩
 have cf:H' s.heap.objs.size=none:=I'.free
 have hok:HOk X.prog X.w H' h'':=fun b o e=>by
  have nb:b≠s.heap.objs.size:=fun z=>by rw [z,cf]at e;cases e
  refine (I'.hok b o e).stay (fun c v hc q=>(tr c ?_).trans q) (fun _ q=>q) (fun _ _ q=>q) fun _ _ _ q=>q
  rcases hc with w | w
  ·rw [w];exact nb
  ·exact fun z=>by rw [z,cf]at w;cases w
 obtain⟨h0,g0,d0,t0,o0⟩:=s'
 have e:o0=s.os:=I'.os
 subst e
 exact I.call (g':=g0) (t':=t0) (d':=d0) u hok I'.bare fun b hb'=>by
  obtain⟨f0,f1,f2,f3,f4,f5⟩:=hf b hb'
  exact⟨f3,f1,f4,f5⟩
end
end L2
namespace L2
open PySem.Spec
noncomputable def PTs (Y:Cx) (ifs:List Expr) (t:TT):Prop :=
 ∀(pins:List (Addr×Obj)) (s:zaw0) (σ:L2.St) (H:Hp) (Q:Bool→Hp→Prop),Inv Y pins σ H s→t σ H Q →
  wpAny (model Y.prog Y.w) Y.A (forIn ifs true fun c r=>if r=true then do let ok ← isTrue c Y.env (eval c Y.env);pure (ForInStep.yield ok) else pure (ForInStep.yield r)) (TP Y pins σ Q) Y.xe s
theorem pts_nil {Y:Cx}:PTs Y [] (fun _ H Q=>Q true H):=fun pins s σ H Q I h=>wpAny_tests_nil ⟨H,I,h⟩
theorem pts_one {Y:Cx}{c:Expr}{t:TT} (h:PT Y c t):PTs Y [c] t:=fun pins s σ H Q I q=>wpAny_tests_one (h pins s σ H Q I q)
def capV (n:Nat) (cap:List Nat) (σ:L2.St):L2.St:=zav7 n none++cap.map fun j=>(σ[j]?).getD none
noncomputable def zad5 (n:Nat) (cap:List Nat) (wi:TI) (g:TG) (tt:TT) (te:TE):TE:=fun σ H Q=>wi σ H fun J H1 => ∀D,H1 D=none→∃W:Nat→Nat→L2.St→Hp→Prop,(∃m,W 0 m (capV n cap σ) (upd H1 D (.lst [])))∧∀i m σ' H',W i m σ' H' →
 (J.stop i H'∧Q (.ref D) H')∨(J.go i H'∧∃N:L2.St→Hp→Prop,(∀σ'' H'',N σ'' H''→∃m',m' < m∧W (i+1) m' σ'' H'')∧∀x H2,J.yld i H' x H2→g x σ' H2 fun σ2 H3=>tt σ2 H3 fun b H4 =>
  if b=true then te σ2 H4 fun v H5 => ∃vs,H5 D=some (.lst vs)∧vs.length<sizeLine∧N σ2 (upd H5 D (.lst (vs++[v]))) else N σ2 H4)
theorem zao0 {X:Cx}{elt tg iter:Expr}{ifs:List Expr}{scope:Scope}{pos:Pos}{n:Nat}{cap:List Nat}{N':List Str}{wi:TI}{g:TG}{tt:TT}{te:TE} (S:CompSc X scope) (hc:X.calm=true) (hi:PI X tg iter wi)
  (hN:N'.length=n+cap.length) (hcap:∀(k:Nat) (j:Nat),cap[k]?=some j→∃x,N'[n+k]?=some x∧X.N[j]?=some x∧(x,NameKind.free)∈scope.names)
  (hg:∀C s₃ H₃ fp pins,PG (blk X N' scope C s₃ H₃ fp pins) tg g) (ht:∀C s₃ H₃ fp pins,PTs (blk X N' scope C s₃ H₃ fp pins) ifs tt) (he:∀C s₃ H₃ fp pins,PE (blk X N' scope C s₃ H₃ fp pins) elt te)
  (hs:∀x,foldedSetIterable iter X.env x=pure x:=by intro _;rfl):PE X (.ListComp elt [⟨tg,iter,ifs,0⟩] scope pos) (zad5 n cap wi g tt te):=by
 intro pins s σ H Q I h
 rw [eval_ListComp]
 refine wpAny_comprehension_free (use:=none) rfl hs (zm3 (S.frees I.ok)) S.kind (fun x hx hl=>by rw [S.names x hx,hl]) (thn (hi pins s σ H _ I h) fun v s1 h1=>thn h1 fun itv s2 h2=>?_)
 obtain⟨it,fp,tn,J,H2,e,I2,T,st2,f2,R⟩:=h2
 subst e
 have lt2:∀b∈fp,b<s2.heap.objs.size:=fun b hb=>by obtain⟨o,e,_⟩:=T.obj _ _ st2 b hb;exact zaw5 e
 have hD:H2 s2.heap.objs.size=none:=I2.fresh
 obtain⟨W,⟨m0,w0⟩,turn⟩:=R s2.heap.objs.size hD
 have I3:Inv X pins σ (upd H2 s2.heap.objs.size (.lst [])) { s2 with heap:=s2.heap.push { cls:=.type "list",data:=.seq ([]:List Value).toArray },toks:=s2.toks }:=I2.lnew (t':=s2.toks) .nil (by simp)
 have f3:∀b∈fp,FpOk X pins (upd H2 s2.heap.objs.size (.lst [])) b:=fun b hb=>⟨by rw [zb9 (zax4 (lt2 b hb))];exact (f2 b hb).1,(f2 b hb).2⟩
 refine wpAny_newObj_type (zg7 fun h₁ hns₁ hk hcl₁=>?_)
 have lt3:∀b∈fp,b<(s2.heap.push { cls:=.type "list",data:=.seq ([]:List Value).toArray }).objs.size:=fun b hb=>by rw [zbc8];exact zbb2 (lt2 b hb)
 have I4:Inv (blk X N' scope (s2.heap.push { cls:=.type "list",data:=.seq ([]:List Value).toArray }).objs.size { s2 with heap:=s2.heap.push { cls:=.type "list",data:=.seq ([]:List Value).toArray },toks:=s2.toks } (upd H2 s2.heap.objs.size (.lst [])) fp pins) [] (capV n cap σ) (upd H2 s2.heap.objs.size (.lst [])) { s2 with heap:=h₁,toks:=s2.toks } :=
  zy8 I3 S hc f3 lt3 (t1:=s2.toks) hns₁ hk hcl₁ (by simp [capV,hN]) (fun i x v e1 e2=>by
   unfold capV at e2
   by_cases hi:i<n
   ·rw [zaz3 (by simpa using hi),zaz7]at e2
    split at e2<;>cases e2
   ·rw [zaz1 (by simpa using hi),zba8,zay1]at e2
    cases ej:cap[i - n]? with
    |none=>rw [ej]at e2;cases e2
    |some j =>
     rw [ej]at e2
     obtain⟨x',a1,a2,a3⟩:=hcap (i - n) j ej
     have:n+(i - n)=i:=by lia
     rw [this,e1]at a1
     cases a1
     refine⟨a3,j,a2,?_⟩
     have e2:(σ[j]?).getD none=some v:=by simpa using e2
     cases q:σ[j]? with
     |none=>rw [q]at e2;cases e2
     |some z=>rw [q]at e2;have:z=some v:=e2;rw [this])
 have loop:codeAny (model X.prog X.w) X.A (.compLoop (.ListComp elt [⟨tg,iter,ifs,0⟩] scope pos) 0 (.ref it) (.ref s2.heap.objs.size) (compEnvC scope (cellsFrom ((s2.heap.push { cls:=.type "list",data:=.seq ([]:List Value).toArray }).objs.size+1) scope.names (clOf X.env.cells scope.names [])) (s2.heap.push { cls:=.type "list",data:=.seq ([]:List Value).toArray }).objs.size X.env))
   (compPost (model X.prog X.w) X.A X.xe none (EP X pins σ Q) (.ref s2.heap.objs.size) (s2.heap.push { cls:=.type "list",data:=.seq ([]:List Value).toArray }).objs.size) { s2 with heap:=h₁,toks:=s2.toks }:=by
  generalize hY:(blk X N' scope (s2.heap.push { cls:=.type "list",data:=.seq ([]:List Value).toArray }).objs.size { s2 with heap:=s2.heap.push { cls:=.type "list",data:=.seq ([]:List Value).toArray },toks:=s2.toks } (upd H2 s2.heap.objs.size (.lst [])) fp pins)=Y at I4
  have st4:tn 0 h₁:=T.keep _ _ _ st2 fun b hb o e=>hk b o (zav8 _ e)
  have stat:∀ {H':Hp},(∀b∈fp,H' b=none)→∀b∈fp,FpOk Y [] H' b:=fun hn b hb=>by
   subst hY
   obtain⟨f0,f1,f2',f3',f4,f5⟩:=f3 b hb
   exact⟨hn b hb,zax4 (lt3 b hb),fun z=>(zav5.mp (I3.stkSub b z)).elim f1 f2',.inl hb,fun x c e=>(by
    rcases S.old I3 e with z | z
    ·exact f4 x c z
    ·exact zbd1 (zbe1 (lt3 b hb) z)),fun p hp=>f5 p (by simpa using hp)⟩
  have hgY:PG Y tg g:=hY ▸ hg _ _ _ _ _
  have htY:PTs Y ifs tt:=hY ▸ ht _ _ _ _ _
  have heY:PE Y elt te:=hY ▸ he _ _ _ _ _
  have yp:Y.prog=X.prog:=by subst hY;rfl
  have yw:Y.w=X.w:=by subst hY;rfl
  have yK:Y.K=X.K:=by subst hY;rfl
  have yA:Y.A=X.A:=by subst hY;rfl
  have yc:Y.calm=true:=by subst hY;rfl
  have yx:Y.xe=fun _ _=>False:=by subst hY;rfl
  have ye:Y.env=compEnvC scope (cellsFrom ((s2.heap.push { cls:=.type "list",data:=.seq ([]:List Value).toArray }).objs.size+1) scope.names (clOf X.env.cells scope.names [])) (s2.heap.push { cls:=.type "list",data:=.seq ([]:List Value).toArray }).objs.size X.env:=by subst hY;rfl
  rw [← ye]
  refine zr5 (fun n s' => ∃i σ' H',Inv Y [] σ' H' s'∧tn i s'.heap∧(∀b∈fp,H' b=none)∧W i n σ' H') ?_ m0 ⟨0,_,_,I4,st4,fun b hb=>(f3 b hb).1,w0⟩
  rintro n s3 ⟨i,σ3,H3,I5,st3,fr3,w3⟩
  rcases turn i n σ3 H3 w3 with ⟨stop,qn⟩ | ⟨go,N,hNN,step⟩
  ·have d:=T.done Y yp yw yK yc i [] s3 σ3 H3 (fun _ _=>False) I5 (stat fr3) st3 stop
   rw [yA]at d
   refine thn d fun r s4 ⟨hr,I6⟩=>?_
   subst hr
   obtain⟨m,hm,_⟩:=I6.loc
   rw [ye]at hm
   refine⟨m,hm,fun h' hb=>⟨.ref s2.heap.objs.size,H3,?_,rfl,qn⟩⟩
   subst hY
   exact zs5 I3 f3 rfl I6 hb
  ·have d:=T.item Y yp yw yK yc i [] s3 σ3 H3 (fun _ _=>False) I5 (stat fr3) st3 go
   rw [yA]at d
   refine thn d fun r s4 ⟨u,hr,h4⟩=>?_
   subst hr
   refine thn h4 fun _ s5 ⟨x,H5,I6,r5,y5,st5,fr5⟩=>?_
   have I6':=I6.pinned (stat fr5) (T.obj _ _ st5)
   have a:=hgY _ s5 σ3 H5 x u _ I6' r5 (step x H5 y5)
   rw [yp,yw,yA,yx]at a
   refine thn a fun _ s6 ⟨σ6,H6,I7,q6⟩=>?_
   have b:=htY _ s6 σ6 H6 _ I7 q6
   rw [yp,yw,yA,yx]at b
   refine thn b fun ok s7 ⟨H7,I8,q7⟩=>?_
   have again:∀ {s9:zaw0}{H9:Hp},Inv Y ([]++zk9 fp s5.heap) σ6 H9 s9→N σ6 H9→∃m,m<n∧∃i σ' H',Inv Y [] σ' H' s9∧tn i s9.heap∧(∀b∈fp,H' b=none)∧W i m σ' H':=fun {s9 H9} I9 n9=>by
    obtain⟨m',hm,w9⟩:=hNN σ6 H9 n9
    refine⟨m',hm,i+1,σ6,H9,I9.unpinned,T.keep _ _ _ st5 fun b hb o e=>(I9.pin (b,o) (zau6 _ (zau6 _ (zd4 hb e)))).1,fun b hb=>?_,w9⟩
    obtain⟨o,e,d⟩:=T.obj _ _ st5 b hb
    exact (I9.pin (b,o) (zau6 _ (zau6 _ (zd4 hb e)))).2.1
   cases ok with
   |false=>exact iteF (again I8 (by simpa using q7))
   |true =>
    rw [if_pos rfl]at q7
    refine iteT ?_
    have c:=heY _ s7 σ6 H7 _ I8 q7
    rw [yp,yw,yA,yx]at c
    refine thn c fun z s8 ⟨vz,H8,I9,r9,vs,hv,hl,n9⟩=>?_
    have ap:=zt1 (X:=Y) ([]++zk9 fp s5.heap) s8 σ6 H8 (.ref s2.heap.objs.size) [vz] (.ref s2.heap.objs.size) [z] (fun _ H9=>N σ6 H9) I9 rfl (.cons r9 .nil) ⟨_,vs,vz,rfl,rfl,hv,hl,n9⟩
    rw [yp,yw,yA,yx]at ap
    exact thn ap fun _ s9 ⟨_,H9,I10,_,n10⟩=>again I10 n10
 exact codeAny_compStart_list loop (T.self _ 0 _ _ _ (T.keep _ _ _ st2 fun b hb o e=>hk b o (zav8 _ e)) loop)
theorem ps_compU {X:Cx}{i₀:Nat}{y₀:Str}{py spos:Pos}{elt tg iter:Expr}{ifs:List Expr}{scope:Scope}{pos:Pos}{n:Nat}{cap:List Nat}{N':List Str}{wi:TI}{g:TG}{tt:TT}{te:TE} (S:CompSc X scope) (hc:X.calm=true) (hi:PI X tg iter wi)
  (hN:N'.length=n+cap.length) (hcap:∀(k:Nat) (j:Nat),cap[k]?=some j→∃x,N'[n+k]?=some x∧X.N[j]?=some x∧(x,NameKind.free)∈scope.names)
  (hg:∀C s₃ H₃ fp pins,PG (blk X N' scope C s₃ H₃ fp pins) tg g) (ht:∀C s₃ H₃ fp pins,PTs (blk X N' scope C s₃ H₃ fp pins) ifs tt) (he:∀C s₃ H₃ fp pins,PE (blk X N' scope C s₃ H₃ fp pins) elt te)
  (hNd:X.N.Nodup) (hi₀:X.N[i₀]?=some y₀) (hy:Loc X.env.scope y₀) (hsw:swapsWith (.ListComp elt [⟨tg,iter,ifs,0⟩] scope pos) (some (.Name y₀ py)) spos.line X.env=pure true) (hf:X.fn y₀=true∨X.env.scope.names.lookup y₀=some .local)
  (hs:∀x,foldedSetIterable iter X.env x=pure x:=by intro _;rfl):PS X (.Assign [.Name y₀ py] (.ListComp elt [⟨tg,iter,ifs,0⟩] scope pos) spos) (fun D σ H=>zad5 n cap wi g tt te σ H fun v H1=>D.nx (σ.set i₀ (some v)) H1):=by
 intro pins s σ H Ed I h
 rw [exec_Assign_Name_used y₀ py _ spos hsw]
 refine zaw3 (wpAny_standAt (zaw3 ?_))
 show wpAny (model X.prog X.w) X.A (comprehension (.ListComp elt [⟨tg,iter,ifs,0⟩] scope pos) scope X.env _ (newList []) false (eval iter X.env) (some (assign (.Name y₀ py) X.env)) >>= fun _=>pure ()) _ _ s
 refine zaw3 (thn (Q:=fun _ s'=>SP X pins Ed .next s') ?_ fun _ s' hq=>zax9 (zax9 hq))
 refine wpAny_comprehension_free (use:=some (assign (.Name y₀ py) X.env)) rfl hs (zm3 (S.frees I.ok)) S.kind (fun x hx hl=>by rw [S.names x hx,hl]) (thn (hi pins s σ H _ I h) fun v s1 h1=>thn h1 fun itv s2 h2=>?_)
 obtain⟨it,fp,tn,J,H2,e,I2,T,st2,f2,R⟩:=h2
 subst e
 have lt2:∀b∈fp,b<s2.heap.objs.size:=fun b hb=>by obtain⟨o,e,_⟩:=T.obj _ _ st2 b hb;exact zaw5 e
 have hD:H2 s2.heap.objs.size=none:=I2.fresh
 obtain⟨W,⟨m0,w0⟩,turn⟩:=R s2.heap.objs.size hD
 have I3:Inv X pins σ (upd H2 s2.heap.objs.size (.lst [])) { s2 with heap:=s2.heap.push { cls:=.type "list",data:=.seq ([]:List Value).toArray },toks:=s2.toks }:=I2.lnew (t':=s2.toks) .nil (by simp)
 have f3:∀b∈fp,FpOk X pins (upd H2 s2.heap.objs.size (.lst [])) b:=fun b hb=>⟨by rw [zb9 (zax4 (lt2 b hb))];exact (f2 b hb).1,(f2 b hb).2⟩
 refine wpAny_newObj_type (zg7 fun h₁ hns₁ hk hcl₁=>?_)
 have lt3:∀b∈fp,b<(s2.heap.push { cls:=.type "list",data:=.seq ([]:List Value).toArray }).objs.size:=fun b hb=>by rw [zbc8];exact zbb2 (lt2 b hb)
 have I4:Inv (blk X N' scope (s2.heap.push { cls:=.type "list",data:=.seq ([]:List Value).toArray }).objs.size { s2 with heap:=s2.heap.push { cls:=.type "list",data:=.seq ([]:List Value).toArray },toks:=s2.toks } (upd H2 s2.heap.objs.size (.lst [])) fp pins) [] (capV n cap σ) (upd H2 s2.heap.objs.size (.lst [])) { s2 with heap:=h₁,toks:=s2.toks } :=
  zy8 I3 S hc f3 lt3 (t1:=s2.toks) hns₁ hk hcl₁ (by simp [capV,hN]) (fun i x v e1 e2=>by
   unfold capV at e2
   by_cases hi:i<n
   ·rw [zaz3 (by simpa using hi),zaz7]at e2
    split at e2<;>cases e2
   ·rw [zaz1 (by simpa using hi),zba8,zay1]at e2
    cases ej:cap[i - n]? with
    |none=>rw [ej]at e2;cases e2
    |some j =>
     rw [ej]at e2
     obtain⟨x',a1,a2,a3⟩:=hcap (i - n) j ej
     have:n+(i - n)=i:=by lia
     rw [this,e1]at a1
     cases a1
     refine⟨a3,j,a2,?_⟩
     have e2:(σ[j]?).getD none=some v:=by simpa using e2
     cases q:σ[j]? with
     |none=>rw [q]at e2;cases e2
     |some z=>rw [q]at e2;have:z=some v:=e2;rw [this])
 have loop:codeAny (model X.prog X.w) X.A (.compLoop (.ListComp elt [⟨tg,iter,ifs,0⟩] scope pos) 0 (.ref it) (.ref s2.heap.objs.size) (compEnvC scope (cellsFrom ((s2.heap.push { cls:=.type "list",data:=.seq ([]:List Value).toArray }).objs.size+1) scope.names (clOf X.env.cells scope.names [])) (s2.heap.push { cls:=.type "list",data:=.seq ([]:List Value).toArray }).objs.size X.env))
   (compPost (model X.prog X.w) X.A X.xe (some (assign (.Name y₀ py) X.env)) (fun _ s'=>SP X pins Ed .next s') (.ref s2.heap.objs.size) (s2.heap.push { cls:=.type "list",data:=.seq ([]:List Value).toArray }).objs.size) { s2 with heap:=h₁,toks:=s2.toks }:=by
  generalize hY:(blk X N' scope (s2.heap.push { cls:=.type "list",data:=.seq ([]:List Value).toArray }).objs.size { s2 with heap:=s2.heap.push { cls:=.type "list",data:=.seq ([]:List Value).toArray },toks:=s2.toks } (upd H2 s2.heap.objs.size (.lst [])) fp pins)=Y at I4
  have st4:tn 0 h₁:=T.keep _ _ _ st2 fun b hb o e=>hk b o (zav8 _ e)
  have stat:∀ {H':Hp},(∀b∈fp,H' b=none)→∀b∈fp,FpOk Y [] H' b:=fun hn b hb=>by
   subst hY
   obtain⟨f0,f1,f2',f3',f4,f5⟩:=f3 b hb
   exact⟨hn b hb,zax4 (lt3 b hb),fun z=>(zav5.mp (I3.stkSub b z)).elim f1 f2',.inl hb,fun x c e=>(by
    rcases S.old I3 e with z | z
    ·exact f4 x c z
    ·exact zbd1 (zbe1 (lt3 b hb) z)),fun p hp=>f5 p (by simpa using hp)⟩
  have hgY:PG Y tg g:=hY ▸ hg _ _ _ _ _
  have htY:PTs Y ifs tt:=hY ▸ ht _ _ _ _ _
  have heY:PE Y elt te:=hY ▸ he _ _ _ _ _
  have yp:Y.prog=X.prog:=by subst hY;rfl
  have yw:Y.w=X.w:=by subst hY;rfl
  have yK:Y.K=X.K:=by subst hY;rfl
  have yA:Y.A=X.A:=by subst hY;rfl
  have yc:Y.calm=true:=by subst hY;rfl
  have yx:Y.xe=fun _ _=>False:=by subst hY;rfl
  have ye:Y.env=compEnvC scope (cellsFrom ((s2.heap.push { cls:=.type "list",data:=.seq ([]:List Value).toArray }).objs.size+1) scope.names (clOf X.env.cells scope.names [])) (s2.heap.push { cls:=.type "list",data:=.seq ([]:List Value).toArray }).objs.size X.env:=by subst hY;rfl
  rw [← ye]
  refine zr5 (fun n s' => ∃i σ' H',Inv Y [] σ' H' s'∧tn i s'.heap∧(∀b∈fp,H' b=none)∧W i n σ' H') ?_ m0 ⟨0,_,_,I4,st4,fun b hb=>(f3 b hb).1,w0⟩
  rintro n s3 ⟨i,σ3,H3,I5,st3,fr3,w3⟩
  rcases turn i n σ3 H3 w3 with ⟨stop,qn⟩ | ⟨go,N,hNN,step⟩
  ·have d:=T.done Y yp yw yK yc i [] s3 σ3 H3 (fun _ _=>False) I5 (stat fr3) st3 stop
   rw [yA]at d
   refine thn d fun r s4 ⟨hr,I6⟩=>?_
   subst hr
   obtain⟨m,hm,_⟩:=I6.loc
   rw [ye]at hm
   subst hY
   have IX:=zs5 I3 f3 rfl I6 (h'':=s4.heap) ⟨rfl,fun _ _=>rfl⟩
   have cf:H3 (s2.heap.push { cls:=.type "list",data:=.seq ([]:List Value).toArray }).objs.size=none:=I6.free
   have fC:FpOk X pins H3 (s2.heap.push { cls:=.type "list",data:=.seq ([]:List Value).toArray }).objs.size:=I3.fpOk (zaw9 _) cf
   obtain⟨c0,c1,c2,c3,c4,c5⟩:=fC
   refine wpAny_assign_Name (zz4 (s:=s4) IX hNd hi₀ hy (v:=.ref s2.heap.objs.size) rfl (fun s5 I7 ⟨a,sb,ha⟩=>?_) hf)
   have na:a≠(s2.heap.push { cls:=.type "list",data:=.seq ([]:List Value).toArray }).objs.size:=by
    rcases ha with z | z
    ·rw [z];exact fun w=>c1 w.symm
    ·exact c4 _ _ z
   refine⟨m,hm.sameBut sb (Ne.symm na),fun h' hb=>⟨_,H3,?_,qn⟩⟩
   exact I7.turned (t':=s5.toks) (fun b o n e=>(hb.2 b n).trans e) c0 c1 c3 c4 c5
  ·have d:=T.item Y yp yw yK yc i [] s3 σ3 H3 (fun _ _=>False) I5 (stat fr3) st3 go
   rw [yA]at d
   refine thn d fun r s4 ⟨u,hr,h4⟩=>?_
   subst hr
   refine thn h4 fun _ s5 ⟨x,H5,I6,r5,y5,st5,fr5⟩=>?_
   have I6':=I6.pinned (stat fr5) (T.obj _ _ st5)
   have a:=hgY _ s5 σ3 H5 x u _ I6' r5 (step x H5 y5)
   rw [yp,yw,yA,yx]at a
   refine thn a fun _ s6 ⟨σ6,H6,I7,q6⟩=>?_
   have b:=htY _ s6 σ6 H6 _ I7 q6
   rw [yp,yw,yA,yx]at b
   refine thn b fun ok s7 ⟨H7,I8,q7⟩=>?_
   have again:∀ {s9:zaw0}{H9:Hp},Inv Y ([]++zk9 fp s5.heap) σ6 H9 s9→N σ6 H9→∃m,m<n∧∃i σ' H',Inv Y [] σ' H' s9∧tn i s9.heap∧(∀b∈fp,H' b=none)∧W i m σ' H':=fun {s9 H9} I9 n9=>by
    obtain⟨m',hm,w9⟩:=hNN σ6 H9 n9
    refine⟨m',hm,i+1,σ6,H9,I9.unpinned,T.keep _ _ _ st5 fun b hb o e=>(I9.pin (b,o) (zau6 _ (zau6 _ (zd4 hb e)))).1,fun b hb=>?_,w9⟩
    obtain⟨o,e,d⟩:=T.obj _ _ st5 b hb
    exact (I9.pin (b,o) (zau6 _ (zau6 _ (zd4 hb e)))).2.1
   cases ok with
   |false=>exact iteF (again I8 (by simpa using q7))
   |true =>
    rw [if_pos rfl]at q7
    refine iteT ?_
    have c:=heY _ s7 σ6 H7 _ I8 q7
    rw [yp,yw,yA,yx]at c
    refine thn c fun z s8 ⟨vz,H8,I9,r9,vs,hv,hl,n9⟩=>?_
    have ap:=zt1 (X:=Y) ([]++zk9 fp s5.heap) s8 σ6 H8 (.ref s2.heap.objs.size) [vz] (.ref s2.heap.objs.size) [z] (fun _ H9=>N σ6 H9) I9 rfl (.cons r9 .nil) ⟨_,vs,vz,rfl,rfl,hv,hl,n9⟩
    rw [yp,yw,yA,yx]at ap
    exact thn ap fun _ s9 ⟨_,H9,I10,_,n10⟩=>again I10 n10
 exact codeAny_compStart_list loop (T.self _ 0 _ _ _ (T.keep _ _ _ st2 fun b hb o e=>hk b o (zav8 _ e)) loop)
end L2
namespace DL
open PySem.Spec L2
structure Src (K:zau7) (ds:List D) (J:It) (Good:List Addr→Hp→Prop):Prop where
 keep:∀P H P' H',Good P H→Same (hide P H) (hide P' H')→Good P' H'
 stop:∀P H,Good P H→J.stop ds.length H
 go:∀P H i,Good P H→i<ds.length→J.go i H
 yld:∀P H i x H',Good P H→Lists H P→J.yld i H x H'→i<ds.length→Same H H'∧∃d,ds[i]?=some d∧Rep K (hide P H') d x
abbrev DI:=Th→Option (Bool×List D)
def hidF (b:Bool) (A F:List Addr):List Addr:=if b then A++F else F
noncomputable def dI (K:zau7) (F:List Addr) (fs:DI):TI:=fun σ H R => ∃A t b ds,RS K F H A t σ∧fs t=some (b,ds)∧∀J H1 Good,Same H H1→Src K ds J Good→Good (hidF b A F) H1→R J H1
theorem PI.imp {X:Cx}{tg iter:Expr}{t t':TI} (h:PI X tg iter t) (i:∀σ H R,t' σ H R→t σ H R):PI X tg iter t':=fun pins s σ H R I q=>h pins s σ H R I (i σ H R q)
def fsL (f:DE):DI:=fun t=>(f t).bind fun r=>match r.d with
 |.lst ds=>some (r.ok,ds)
 |_=>none
def fsE (f:DE):DI:=fun t=>(f t).bind fun r=>match r.d with
 |.lst ds=>some (r.ok,zl7 0 ds)
 |_=>none
noncomputable def fsR1 (f:DE):DI:=fun t=>(f t).bind fun r=>match r.d with
 |.int n=>if bigI n then some (true,rngD 0 n.toNat) else none
 |_=>none
theorem src_list {K:zau7}{p:Addr}{vs:List V}{ds:List D} (hl:vs.length=ds.length):Src K ds (Itl K p) (fun P H=>SqL K (hide P H) p vs∧Reps K (hide P H) ds vs) where
 keep:=fun P H P' H' q s=>⟨SqL.mono s q.1,Reps.mono s q.2⟩
 stop:=fun P H q=>⟨vs,SqL.mono (zb3 _ _) q.1,by lia⟩
 go:=fun P H i q hi=>⟨vs,vs[i]'(by lia),SqL.mono (zb3 _ _) q.1,zav4 (by lia)⟩
 yld:=fun P H i x H' q mu y hi=>by
  obtain⟨e1,e2⟩:=y
  subst e1
  exact⟨Same.refl _,q.2.getV (e2 vs (SqL.mono (zb3 _ _) q.1))⟩
theorem src_enum {K:zau7}{p:Addr}{vs:List V}{ds:List D} (hl:vs.length=ds.length):Src K (zl7 0 ds) (Ite K p) (fun P H=>SqL K (hide P H) p vs∧Reps K (hide P H) ds vs) where
 keep:=fun P H P' H' q s=>⟨SqL.mono s q.1,Reps.mono s q.2⟩
 stop:=fun P H q=>⟨vs,SqL.mono (zb3 _ _) q.1,by rw [zl6];lia⟩
 go:=fun P H i q hi=>by
  rw [zl6]at hi
  exact⟨vs,vs[i]'(by lia),SqL.mono (zb3 _ _) q.1,zav4 (by lia)⟩
 yld:=fun P H i x H' q mu y hi=>by
  obtain⟨l,v,hl0,rfl,rfl,hv⟩:=y
  obtain⟨d,hd,rd⟩:=q.2.getV (hv vs (SqL.mono (zb3 _ _) q.1))
  have sm:=zc4 (o:=HO.tup [.int i,v]) hl0
  refine⟨sm,_,zab8 0 ds i d hd,?_⟩
  rw [zbf8]
  exact .tup (SqT.of (zc0 zb4 (zd2 mu hl0))) (.cons (.int _) (.cons (Rep.mono (za8 sm) rd) .nil))
theorem src_rng {K:zau7}{lo:Int}{n:Nat}:Src K (rngD lo n) (Itr lo n) (fun _ _=>True) where
 keep:=fun _ _ _ _ _ _=>trivial
 stop:=fun P H _=>by rw [zq0];exact zaw9 n
 go:=fun P H i _ hi=>by rw [zq0]at hi;exact hi
 yld:=fun P H i x H' _ _ y hi=>by
  rw [zq0]at hi
  obtain⟨e1,e2⟩:=y
  subst e1
  refine⟨Same.refl _,.int (lo+i),by simp [rngD,hi],?_⟩
  rw [e2];exact .int _
theorem RepEv.hidF {K:zau7}{F A:List Addr}{H H':Hp}{r:Ev}{v:V} (m:Lists H (A++F)) (gs:Same H H') (q:RepEv K F A H H' r v):Rep K (hide (DL.hidF r.ok A F) H') r.d v:=by
 unfold DL.hidF
 split
 ·rename_i c;exact q.clean m gs c
 ·exact q.cleanF m
section
variable {X:Cx}{F:List Addr}{a b c:Expr}{es:List Expr}{fa fb fc:DE}{pos:Pos}{tg:Expr}
theorem zf3 (hl:PE X a (dE X.K F fa)):PI X tg a (dI X.K F (fsL fa)):=by
 refine PI.imp (zan4 hl) ?_
 rintro σ H R ⟨A,t,b,ds,RR,e,h⟩
 unfold fsL at e
 cases e1:fa t with
 |none=>rw [e1]at e;cases e
 |some r =>
  rw [e1]at e
  refine⟨A,t,r,RR,e1,fun v H1 gs q=>?_⟩
  have e:(match r.d with | .lst ds=>some (r.ok,ds) |_=>none)=some (b,ds):=e
  split at e
  case h_2=>cases e
  rename_i ds' z
  cases e
  have cl:=RepEv.hidF RR.mu gs q
  rw [z]at cl
  cases cl with
  |@lst _ p vs h1 h2=>exact⟨p,rfl,⟨vs,SqL.mono (zb3 _ _) h1⟩,h _ H1 _ gs (src_list h2.length) ⟨h1,h2⟩⟩
theorem pid_enum {elts:List Expr}{kk:Nat}{tp p1 p2:Pos} (hge:Gl X "enumerate") (hm:X.mg "enumerate"=none) (hl:PE X a (dE X.K F fa)) (hst:zaw7 [a] X.env=[(false,eval a X.env)]:=by rfl):PI X (.Tuple elts kk tp) (.Call (.Name "enumerate" p1) [a] [] p2) (dI X.K F (fsE fa)):=by
 refine PI.imp (pi_enum hge hm hl hst) ?_
 rintro σ H R ⟨A,t,b,ds,RR,e,h⟩
 unfold fsE at e
 cases e1:fa t with
 |none=>rw [e1]at e;cases e
 |some r =>
  rw [e1]at e
  refine⟨A,t,r,RR,e1,fun v H1 gs q=>?_⟩
  have e:(match r.d with | .lst ds=>some (r.ok,zl7 0 ds) |_=>none)=some (b,ds):=e
  split at e
  case h_2=>cases e
  rename_i ds' z
  cases e
  have cl:=RepEv.hidF RR.mu gs q
  rw [z]at cl
  cases cl with
  |@lst _ p vs h1 h2=>exact⟨p,rfl,⟨vs,SqL.mono (zb3 _ _) h1⟩,h _ H1 _ gs (src_enum h2.length) ⟨h1,h2⟩⟩
theorem zi5 {p1 p2:Pos} (hgr:Gl X "range") (hm:X.mg "range"=none) (ha:PE X a (dE X.K F fa)) (hst:zaw7 [a] X.env=[(false,eval a X.env)]:=by rfl):PI X tg (.Call (.Name "range" p1) [a] [] p2) (dI X.K F (fsR1 fa)):=by
 refine PI.imp (zz8 hgr hm (zi7 ha zo5 hst) hst) ?_
 rintro σ H R ⟨A,t,b,ds,RR,e,h⟩
 unfold fsR1 at e
 cases e1:fa t with
 |none=>rw [e1]at e;cases e
 |some r =>
  rw [e1]at e
  refine⟨A,t,r,RR,e1,fun v H1 gs q=>?_⟩
  have e:(match r.d with | .int n=>if bigI n then some (true,rngD 0 n.toNat) else none | _=>none)=some (b,ds):=e
  split at e
  case h_2=>cases e
  rename_i n z
  split at e
  case isFalse=>cases e
  rename_i ok
  simp only [bigI,decide_eq_true_eq]at ok
  cases e
  have p:=q.full
  rw [z]at p
  cases ze5 p
  exact⟨n,rfl,by lia,by lia,h _ H1 _ gs src_rng trivial⟩
end
noncomputable def capD (t:Th):List Nat→Option (Bool×List D)
 |[]=>some (true,[])
 |j::js=>(capD t js).bind fun q=>match t[j]? with
  |some (.val d)=>some (q.1,d::q.2)
  |some (.own xs)=>some (false,.lst xs::q.2)
  |some (.dp d)=>some (false,d::q.2)
  |_=>none
theorem zp4 {K:zau7}{F A:List Addr}{H:Hp}{t:Th}{σ:L2.St} (R:RS K F H A t σ):∀ {cap:List Nat}{b:Bool}{ds:List D},capD t cap=some (b,ds)→∃vs:List V,(cap.map fun j=>(σ[j]?).getD none)=vs.map some∧Reps K (hide (hidF b A F) H) ds vs
 |[],b,ds,e=>by cases e;exact⟨[],rfl,.nil⟩
 |j::js,b,ds,e=>by
  unfold capD at e
  cases e1:capD t js with
  |none=>rw [e1]at e;cases e
  |some q =>
   obtain⟨b',ds'⟩:=q
   rw [e1]at e
   obtain⟨vs,h1,h2⟩:=zp4 R e1
   have e:(match t[j]? with
    |some (.val d)=>some (b',d::ds')
    |some (.own xs)=>some (false,.lst xs::ds')
    |some (.dp d)=>some (false,d::ds')
    |_=>none)=some (b,ds):=e
   have less:∀c:Bool,Same (hide (A++F) H) (hide (hidF c A F) H):=fun c=>za7 H fun x z=>by
    cases c with
    |true=>exact z
    |false=>exact zau6 _ z
   split at e
   ·rename_i d z
    cases e
    obtain⟨v,a1,a2⟩:=R.rel.getVal z
    exact⟨v::vs,by simp [a1,h1],.cons (Rep.mono (less _) a2) h2⟩
   ·rename_i xs z
    cases e
    obtain⟨p,us,a1,a2,a3,a4⟩:=R.rel.getOwn z
    refine⟨.ref p::vs,by simp [a1,h1],.cons (.lst (SqL.of (zc0 a3 (R.dj p a2))) (Reps.mono (less false) a4)) (Reps.mono (za7 H fun x z=>?_) h2)⟩
    cases b' with
    |true=>exact zau6 _ z
    |false=>exact z
   ·rename_i d z
    cases e
    obtain⟨v,B,a1,a2,a3,a4⟩:=R.rel.getDp R.nd z
    refine⟨v::vs,by simp [a1,h1],.cons (a4.rep (less false) fun b hb o w=>zc0 w (R.dj b (a2 b hb))) (Reps.mono (za7 H fun x z=>?_) h2)⟩
    cases b' with
    |true=>exact zau6 _ z
    |false=>exact z
   ·cases e
noncomputable def zd7 (k:D→Th→Option Th) (ft:DT) (fe:DE):List D→Th→Option (List D)
 |[],_=>some []
 |d::ds,t=>(k d t).bind fun t1=>(ft t1).bind fun b=>if b then (fe t1).bind fun r=>(zd7 k ft fe ds t1).map fun xs=>r.d::xs else zd7 k ft fe ds t1
noncomputable def zd1 (n:Nat) (cap:List Nat) (fs:DI) (k:D→Th→Option Th) (ft:DT) (fe:DE):DE:=fun t=>(fs t).bind fun q=>(capD t cap).bind fun c=>if q.2.length≤50000 then (zd7 k ft fe q.2 (zav7 n Sl.no++c.2.map Sl.val)).bind fun xs=>if (q.1&&c.1)||flats xs then some (.nw xs) else none else none
theorem zu5 {k:D→Th→Option Th}{ft:DT}{fe:DE}:∀ {ds:List D}{t:Th}{xs:List D},zd7 k ft fe ds t=some xs→xs.length≤ds.length
 |[],t,xs,e=>by cases e;simp
 |d::ds,t,xs,e=>by
  unfold zd7 at e
  cases e1:k d t with
  |none=>rw [e1]at e;cases e
  |some t1 =>
   rw [e1]at e
   have e:((ft t1).bind fun b=>if b then (fe t1).bind fun r=>(zd7 k ft fe ds t1).map fun xs=>r.d::xs else zd7 k ft fe ds t1)=some xs:=e
   cases e2:ft t1 with
   |none=>rw [e2]at e;cases e
   |some b =>
    rw [e2]at e
    cases b with
    |false=>have:=zu5 (ds:=ds) (t:=t1) e;simp;lia
    |true =>
     have e:((fe t1).bind fun r=>(zd7 k ft fe ds t1).map fun xs=>r.d::xs)=some xs:=e
     cases e3:fe t1 with
     |none=>rw [e3]at e;cases e
     |some r =>
      rw [e3]at e
      have e:((zd7 k ft fe ds t1).map fun xs=>r.d::xs)=some xs:=e
      cases e4:zd7 k ft fe ds t1 with
      |none=>rw [e4]at e;cases e
      |some ys=>rw [e4]at e;cases e;have:=zu5 e4;simp;lia
end DL
namespace DL
open PySem.Spec L2
theorem RSl.noVals {K:zau7}{H0 H:Hp}{vs:List V}{ds:List D} (r:Reps K H0 ds vs):∀n,RSl K H0 H (zav7 n Sl.no++ds.map Sl.val) (zav7 n none++vs.map some) []
 |0=>by simpa using RSl.start (t:=[]) (σ:=[]) .nil r
 |n+1=>.no (RSl.noVals r n)
theorem ze3 {P:List Addr}{H:Hp}{p:Addr}{o:HO} (hp:p∈P):Same (hide P H) (hide P (upd H p o)):=fun b u e=>by
 obtain⟨n,e⟩:=zk2 e
 exact zc0 (by rw [zb9 (fun z=>n (by rw [z];exact hp))];exact e) n
theorem RS.updF {K:zau7}{P:List Addr}{H:Hp}{t:Th}{σ:L2.St}{p:Addr}{ws:List V} (R:RS K P H [] t σ) (hp:p∈P):RS K P (upd H p (.lst ws)) [] t σ where
 mu:=fun q hq=>by
  by_cases z:q=p
  ·exact⟨mL ws,by rw [z];exact zb4⟩
  ·obtain⟨us,w⟩:=R.mu q hq
   exact⟨us,by rw [zb9 z];exact w⟩
 nd:=zax6
 dj:=fun p hp=>by cases hp
 rel:=RSl.mono (ze3 hp) R.rel fun q hq=>by cases hq
theorem zj2 {K:zau7}{P A:List Addr}{H:Hp}{t:Th}{σ:L2.St} (R:RS K P H A t σ) (g:Gr [] H A H):A=[]:=by
 cases A with
 |nil=>rfl
 |cons a r =>
  rcases g.nw a (zav1 ..) with z | z
  ·cases z
  ·obtain⟨vs,q⟩:=R.mu a (zau9 _ (zav1 ..))
   rw [q]at z;cases z
def zc9:DT:=fun _=>some true
theorem PTs.imp {Y:Cx}{ifs:List Expr}{t t':TT} (h:PTs Y ifs t) (i:∀σ H Q,t' σ H Q→t σ H Q):PTs Y ifs t':=fun pins s σ H Q I q=>h pins s σ H Q I (i σ H Q q)
theorem zg8 {Y:Cx}{F:List Addr}:PTs Y [] (dT Y.K F zc9):=PTs.imp pts_nil fun σ H Q ⟨A,t,b,R,e,h⟩=>by cases e;exact h H (Same.refl H)
theorem zg1 {Y:Cx}{F:List Addr}{c:Expr}{ft:DT} (h:PT Y c (dT Y.K F ft)):PTs Y [c] (dT Y.K F ft):=pts_one h
theorem zaf9 {X:Cx}{F:List Addr}{n:Nat}{cap:List Nat}{fs:DI}{g:TG}{kt:D→Th→Option Th}{ft:DT}{fe:DE} (hk:∀F',TgOk X.K F' g kt) {σ:L2.St}{H:Hp}{Q:VK} (h:dE X.K F (zd1 n cap fs kt ft fe) σ H Q) :
  zad5 n cap (dI X.K F fs) g (fun σ H Q => ∃F',dT X.K F' ft σ H Q) (fun σ H Q => ∃F',dE X.K F' fe σ H Q) σ H Q:=by
 obtain⟨A,t,r,R,e,h⟩:=h
 unfold zd1 at e
 cases e1:fs t with
 |none=>rw [e1]at e;cases e
 |some q =>
  obtain⟨b,ds⟩:=q
  cases e2:capD t cap with
  |none=>rw [e1,e2]at e;cases e
  |some q2 =>
   obtain⟨c,caps⟩:=q2
   rw [e1,e2]at e
   have e:(if ds.length≤50000 then (zd7 kt ft fe ds (zav7 n Sl.no++caps.map Sl.val)).bind fun xs=>if (b&&c)||flats xs then some (Ev.nw xs) else none else none)=some r:=e
   split at e
   case isFalse=>cases e
   rename_i hlen
   cases e3:zd7 kt ft fe ds (zav7 n Sl.no++caps.map Sl.val) with
   |none=>rw [e3]at e;cases e
   |some xs =>
    rw [e3]at e
    have e:(if (b&&c)||flats xs then some (Ev.nw xs) else none)=some r:=e
    split at e
    case isFalse=>cases e
    rename_i ok
    cases e
    have xl:=zu5 e3
    obtain⟨cvs,cv1,cv2⟩:=zp4 R e2
    -- what is hidden from the block,but its own list
    obtain⟨F',F'def⟩:∃F',F'=hidF (b&&c) A F:=⟨_,rfl⟩
    have subF:∀x∈F',x∈A++F:=fun x hx=>by
     rw [F'def]at hx
     unfold hidF at hx
     split at hx
     ·exact hx
     ·exact zau6 _ hx
    have lessB:∀H:Hp,Same (hide (hidF b A F) H) (hide F' H):=fun H=>za7 H fun x hx=>by
     rw [F'def]at hx
     cases b<;>cases c<;>simp [hidF]at hx ⊢<;>first | exact hx | exact .inr hx | (rcases hx with z | z<;>simp [z])
    have lessC:∀H:Hp,Same (hide (hidF c A F) H) (hide F' H):=fun H=>za7 H fun x hx=>by
     rw [F'def]at hx
     cases b<;>cases c<;>simp [hidF]at hx ⊢<;>first | exact hx | exact .inr hx | (rcases hx with z | z<;>simp [z])
    have wi:zad5 n cap (dI X.K F fs) g (fun σ H Q => ∃F',dT X.K F' ft σ H Q) (fun σ H Q => ∃F',dE X.K F' fe σ H Q) σ H Q:=by
     refine⟨A,t,b,ds,R,e1,fun J H1 Good gs src gd Dd hD=>?_⟩
     have H1A:Lists H1 (A++F):=R.mu.mono gs
     have st0:Same (hide F' H1) (hide (Dd::F') (upd H1 Dd (.lst []))):=zi6 hD
     refine⟨fun i m σ' H'=>i+m=ds.length∧∃th acc rest vs,RS X.K (Dd::F') H' [] th σ'∧zd7 kt ft fe (ds.drop i) th=some rest∧acc++rest=xs∧H' Dd=some (.lst vs)∧Reps X.K (hide (Dd::F') H') acc vs∧Same H1 H'∧Good (Dd::F') H',
      ⟨ds.length,by lia,_,[],xs,[],⟨?_,zax6,fun p hp=>(by cases hp),?_⟩,by simpa using e3,rfl,zb4,.nil,zc4 hD,src.keep _ _ _ _ gd (fun b o z=>st0 _ _ (lessB _ _ _ z))⟩,?_⟩
     ·intro q hq
      have hq:q∈Dd::F':=hq
      rcases zav5.mp hq with z | z
      ·exact⟨mL [],by rw [z];exact zb4⟩
      ·obtain⟨us,w⟩:=H1A q (subF q z)
       exact⟨us,(zc4 hD) _ _ w⟩
     ·unfold capV
      rw [cv1]
      exact RSl.noVals (Reps.mono (fun b o z=>st0 _ _ (lessC H1 _ _ (za8 gs _ _ z))) cv2) n
     ·rintro i m σ' H' ⟨hm,th,acc,rest,vs,RR,ec,ex,hv,hr,sm,gg⟩
      cases m with
      |zero =>
       have z:i=ds.length:=by lia
       subst z
       rw [zbb6]at ec
       cases ec
       rw [zbd4]at ex
       subst ex
       refine .inl ⟨src.stop _ _ gg,h _ H' (gs.trans sm) ⟨Dd,vs,rfl,Same.free gs hD,hv,?_⟩⟩
       rcases zbe8 _ _ ▸ ok with k | k
       ·have:F'=A++F:=by rw [F'def];unfold hidF;rw [k];rfl
        rw [← this];exact hr
       ·refine Reps.hid (P:=Dd ::(A++F)) (fun q hq=>?_) k (Reps.mono (zb3 _ _) hr)
        rcases zav5.mp hq with z | z
        ·exact⟨mL vs,by rw [z];exact hv⟩
        ·obtain⟨us,w⟩:=H1A q z
         exact⟨us,sm _ _ w⟩
      |succ m =>
       have hil:i<ds.length:=by lia
       refine .inr ⟨src.go _ _ i gg hil,fun σ' H'=>i+1+m=ds.length∧∃th acc rest vs,RS X.K (Dd::F') H' [] th σ'∧zd7 kt ft fe (ds.drop (i+1)) th=some rest∧acc++rest=xs∧H' Dd=some (.lst vs)∧Reps X.K (hide (Dd::F') H') acc vs∧Same H1 H'∧Good (Dd::F') H',
        fun σ' H' q=>⟨m,zaz6 m,q⟩,fun x H2 y=>?_⟩
       obtain⟨gs2,d,hd,rd⟩:=src.yld _ _ i x H2 gg RR.mu y hil
       have ed:ds.drop i=d::ds.drop (i+1):=by
        have hd':ds[i]=d:=by
         rw [zav4 hil]at hd
         exact Option.some.inj hd
        rw [← hd']
        exact zay3 hil
       rw [ed]at ec
       unfold zd7 at ec
       cases k1:kt d th with
       |none=>rw [k1]at ec;cases ec
       |some t1 =>
        rw [k1]at ec
        have ec:((ft t1).bind fun b=>if b then (fe t1).bind fun r=>(zd7 kt ft fe (ds.drop (i+1)) t1).map fun xs=>r.d::xs else zd7 kt ft fe (ds.drop (i+1)) t1)=some rest:=ec
        refine hk (Dd::F') σ' H2 [] th t1 d x _ (RR.grow gs2) rd k1 fun σ2 A2 gr2 R2=>?_
        have A20:=zj2 R2 gr2
        subst A20
        cases k2:ft t1 with
        |none=>rw [k2]at ec;cases ec
        |some bb =>
         rw [k2]at ec
         refine⟨Dd::F',[],t1,bb,R2,k2,fun H3 gs3=>?_⟩
         cases bb with
         |false =>
          refine iteF ⟨by lia,t1,acc,rest,vs,R2.grow gs3,ec,ex,gs3 _ _ (gs2 _ _ hv),Reps.mono (za8 (gs2.trans gs3)) hr,(sm.trans gs2).trans gs3,src.keep _ _ _ _ gg (za8 (gs2.trans gs3))⟩
         |true =>
          have ec:((fe t1).bind fun r=>(zd7 kt ft fe (ds.drop (i+1)) t1).map fun xs=>r.d::xs)=some rest:=ec
          cases k3:fe t1 with
          |none=>rw [k3]at ec;cases ec
          |some re =>
           rw [k3]at ec
           have ec:((zd7 kt ft fe (ds.drop (i+1)) t1).map fun xs=>re.d::xs)=some rest:=ec
           cases k4:zd7 kt ft fe (ds.drop (i+1)) t1 with
           |none=>rw [k4]at ec;cases ec
           |some ys =>
            rw [k4]at ec
            cases ec
            refine iteT ⟨Dd::F',[],t1,re,R2.grow gs3,k3,fun v H4 gs4 q4=>⟨vs,gs4 _ _ (gs3 _ _ (gs2 _ _ hv)),?_,?_⟩⟩
            ·have l1:=hr.length
             have l2:acc.length+(ys.length+1)=xs.length:=by rw [← ex];simp
             exact zaw1 (show vs.length<50000 by lia) (by rw [sizeLine_eq];decide)
            ·have s4:=(gs2.trans gs3).trans gs4
             have hu:Same (hide (Dd::F') H4) (hide (Dd::F') (upd H4 Dd (.lst (vs++[v])))):=ze3 (zav1 ..)
             have rv:=q4.cleanF ((R2.grow gs3).mu)
             refine⟨by lia,t1,acc++[re.d],ys,vs++[v],RS.updF ((R2.grow gs3).grow gs4) (zav1 ..),k4,by simpa using ex,zb4,?_,?_,?_⟩
             ·exact (Reps.mono (fun b o z=>hu _ _ (za8 s4 _ _ z)) hr).app (Reps.one (Rep.mono hu rv))
             ·exact fun b o z=>by
               rw [zb9 (fun w=>by rw [w,hD]at z;cases z)]
               exact s4 _ _ (sm _ _ z)
             ·exact src.keep _ _ _ _ gg (fun b o z=>hu _ _ (za8 s4 _ _ z))
    exact wi
theorem ped_comp {X:Cx}{F:List Addr}{elt tg iter:Expr}{ifs:List Expr}{scope:Scope}{pos:Pos}{n:Nat}{cap:List Nat}{N':List Str}{fs:DI}{g:TG}{kt:D→Th→Option Th}{ft:DT}{fe:DE} (S:CompSc X scope) (hc:X.calm=true) (hi:PI X tg iter (dI X.K F fs))
  (hN:N'.length=n+cap.length) (hcap:∀(k:Nat) (j:Nat),cap[k]?=some j→∃x,N'[n+k]?=some x∧X.N[j]?=some x∧(x,NameKind.free)∈scope.names)
  (hg:∀C s₃ H₃ fp pins,PG (blk X N' scope C s₃ H₃ fp pins) tg g) (hk:∀F',TgOk X.K F' g kt) (ht:∀C s₃ H₃ fp pins F',PTs (blk X N' scope C s₃ H₃ fp pins) ifs (dT X.K F' ft)) (he:∀C s₃ H₃ fp pins F',PE (blk X N' scope C s₃ H₃ fp pins) elt (dE X.K F' fe))
  (hs:∀x,foldedSetIterable iter X.env x=pure x:=by intro _;rfl):PE X (.ListComp elt [⟨tg,iter,ifs,0⟩] scope pos) (dE X.K F (zd1 n cap fs kt ft fe)) :=
 PE.imp (zao0 (g:=g) S hc hi hN hcap hg (fun C s₃ H₃ fp pins pins' s σ H Q I ⟨F',q⟩=>ht C s₃ H₃ fp pins F' pins' s σ H Q I q) (fun C s₃ H₃ fp pins pins' s σ H Q I ⟨F',q⟩=>he C s₃ H₃ fp pins F' pins' s σ H Q I q) hs) fun _ _ _ h=>zaf9 hk h
noncomputable def zr4 (names:List (Str×NameKind)) (kind:Str→Option NameKind):Bool:=names.all fun y=>(y.2 != .free||kind y.1 == some .cell||kind y.1 == some .free)&&(names.lookup y.1 == some y.2)
theorem zac2 {X:Cx}{scope:Scope} (hk:scope.kind=.function:=by rfl) (h:zr4 scope.names X.env.kindOf=true:=by rfl):CompSc X scope:=by
 have h':=zbe2.mp h
 refine⟨hk,fun y hy hf=>?_,fun y hy=>?_⟩
 ·have:=h' y hy
  simp only [zav3,zbe8,bne_iff_ne,beq_iff_eq]at this
  rcases this.1 with (z | z) |z
  ·exact absurd hf z
  ·exact .inl z
  ·exact .inr z
 ·have:=h' y hy
  simp only [zav3,beq_iff_eq]at this
  exact this.2
noncomputable def zv3 (N' N:List Str) (n:Nat) (names:List (Str×NameKind)):Nat→List Nat→Bool
 |_,[]=>true
 |k,j::js=>(match N'[n+k]?,N[j]? with
  |some x,some y=>x == y&&names.any fun z=>z.1 == x&&z.2 == .free
  |_,_=>false)&&zv3 N' N n names (k+1) js
theorem zm4 {N' N:List Str}{n:Nat}{names:List (Str×NameKind)}:∀ {cap:List Nat}{k0:Nat},zv3 N' N n names k0 cap=true→∀(k j:Nat),cap[k]?=some j→∃x,N'[n+(k0+k)]?=some x∧N[j]?=some x∧(x,NameKind.free)∈names
 |[],k0,_,k,j,e=>by simp at e
 |i::js,k0,h,k,j,e=>by
  unfold zv3 at h
  rw [zav3]at h
  cases k with
  |zero =>
   simp at e
   subst e
   have h1:=h.1
   split at h1
   ·rename_i x y z1 z2
    rw [zav3,beq_iff_eq,zbh2]at h1
    obtain⟨e1,w,w1,w2⟩:=h1
    rw [zav3,beq_iff_eq,beq_iff_eq]at w2
    obtain⟨a,b⟩:=w
    simp only at w2
    rw [w2.1,w2.2]at w1
    exact⟨x,by simpa using z1,by rw [z2,e1],w1⟩
   ·cases h1
  |succ k =>
   obtain⟨x,a,b,c⟩:=zm4 h.2 k j (by simpa using e)
   exact⟨x,by rw [show k0+(k+1)=k0+1+k by lia];exact a,b,c⟩
theorem zf0 {X:Cx}{F:List Addr}{elt tg iter:Expr}{ifs:List Expr}{scope:Scope}{pos:Pos}{fs:DI}{g:TG}{kt:D→Th→Option Th}{ft:DT}{fe:DE} (n:Nat) (cap:List Nat) (N':List Str) (hc:X.calm=true) (hi:PI X tg iter (dI X.K F fs))
  (hg:∀C s₃ H₃ fp pins,PG (blk X N' scope C s₃ H₃ fp pins) tg g) (hk:∀F',TgOk X.K F' g kt) (ht:∀C s₃ H₃ fp pins F',PTs (blk X N' scope C s₃ H₃ fp pins) ifs (dT X.K F' ft)) (he:∀C s₃ H₃ fp pins F',PE (blk X N' scope C s₃ H₃ fp pins) elt (dE X.K F' fe))
  (hkd:scope.kind=.function:=by rfl) (hcs:zr4 scope.names X.env.kindOf=true:=by rfl) (hN:N'.length=n+cap.length:=by rfl) (hcap:zv3 N' X.N n scope.names 0 cap=true:=by rfl)
  (hs:∀x,foldedSetIterable iter X.env x=pure x:=by intro _;rfl):PE X (.ListComp elt [⟨tg,iter,ifs,0⟩] scope pos) (dE X.K F (zd1 n cap fs kt ft fe)) :=
 ped_comp (zac2 hkd hcs) hc hi hN (fun k j e=>by simpa using zm4 hcap k j e) hg hk ht he hs
noncomputable def kIn:Ev→Ev→Option Ev:=fun r1 r2=>match r2.d with
 |.lst ds=>if scD r1.d&&ds.all (fun d=>scD d&&eqOk 0 d r1.d) then some (.cl (.bl (ds.any fun d=>eqD d r1.d))) else none
 |.tup ds=>if scD r1.d&&ds.all (fun d=>scD d&&eqOk 0 d r1.d) then some (.cl (.bl (ds.any fun d=>eqD d r1.d))) else none
 |_=>none
theorem in_D {K:zau7}{H:Hp}{e:D}{u:V} (q:Rep K H e u) (se:scD e=true):∀ {ds:List D}{vs:List V},Reps K H ds vs→ds.all (fun d=>scD d&&eqOk 0 d e)=true→vs.all zp2=true∧inV u vs=ds.any fun d=>eqD d e
 |_,_,.nil,_=>⟨rfl,rfl⟩
 |_,_,.cons h r,k=>by
  simp only [zba0,zav3]at k
  obtain⟨f1,f2,e1⟩:=eqV_D h q k.1.1 se k.1.2
  obtain⟨a,b⟩:=in_D q se r (by simpa using k.2)
  unfold inV at b ⊢
  refine⟨by simp [f1,a],?_⟩
  rw [zba1,zba1,e1,b]
theorem zw7 {K:zau7}{H:Hp}{e:D}{u:V} (q:Rep K H e u) (se:scD e=true):zp2 u=true:=by
 cases q<;>simp_all [scD,zp2]
theorem od_in {X:Cx}{F:List Addr}:OpD X F (compareOp .In) kIn:=by
 intro pins s σ H0 H A x y v u Q r1 r2 r I m g0 rx ry q1 q2 e hq
 unfold kIn at e
 have p1:=q1.full
 have p2:=q2.full
 split at e
 ·rename_i ds z
  rw [z]at p2
  split at e
  case isFalse=>cases e
  rename_i c
  rw [zav3]at c
  cases e
  cases p2 with
  |@lst _ p vs h1 h2 =>
   obtain⟨a,b⟩:=in_D p1 c.1 h2 c.2
   exact zaa0 pins s σ H x _ v u Q I rx ry ⟨p,vs,rfl,.inl h1,zw7 p1 c.1,a,by
    show Q (.bl (inV x vs)) H
    rw [b];exact hq _ H (Same.refl H) (.bl _)⟩
 ·rename_i ds z
  rw [z]at p2
  split at e
  case isFalse=>cases e
  rename_i c
  rw [zav3]at c
  cases e
  cases p2 with
  |@tup _ p vs h1 h2 =>
   obtain⟨a,b⟩:=in_D p1 c.1 h2 c.2
   exact zaa0 pins s σ H x _ v u Q I rx ry ⟨p,vs,rfl,.inr h1,zw7 p1 c.1,a,by
    show Q (.bl (inV x vs)) H
    rw [b];exact hq _ H (Same.refl H) (.bl _)⟩
 ·cases e
end DL
namespace L2
open PySem.Spec
abbrev EMS:=Addr→L2.St→Hp→(L2.St→Hp→Prop)→Prop
noncomputable def emT (e:Expr) (g2:Comprehension) (acc:Value) (env:Env):Sem Unit:=do
 let x ← eval g2.iter env
 standAt g2.iter.pos
 let x ← foldedSetIterable g2.iter env x
 let _ ← runOwn (.compStart e 1 (← holding [x] (pyIter x)) acc env) env
noncomputable def PEm (Y:Cx) (tree:Sem Unit) (em:L2.St→Hp→(L2.St→Hp→Prop)→Prop):Prop :=
 ∀(pins:List (Addr×Obj)) (s:zaw0) (σ:L2.St) (H:Hp) (R:L2.St→Hp→Prop),Inv Y pins σ H s→em σ H R→wpAny (model Y.prog Y.w) Y.A tree (fun _ s' => ∃σ' H',Inv Y pins σ' H' s'∧R σ' H') Y.xe s
end L2
namespace DL
open PySem.Spec L2
section
variable {X:Cx}{F:List Addr}{a b c:Expr}{es:List Expr}{fa fb fc:DE}{pos:Pos}
noncomputable def zaa7:List Ev→Option Ev:=fun rs=>match rs with
 |[r]=>(match r.d with
  |.lst ds=>if r.ok||flats ds then some (.nw ds) else none
  |_=>none)
 |_=>none
theorem zat5:CallD X F (.type "list") zaa7:=CallD.of zac6 fun H0 H A xs rs e Q m g q ek hq=>by
 unfold zaa7 at ek
 split at ek
 ·rename_i r
  cases q with
  |cons q1 q2 =>
   cases q2
   split at ek
   ·rename_i ds z
    split at ek
    case isFalse=>cases ek
    rename_i c
    cases ek
    obtain⟨p,vs,rfl,h1,h2⟩:=q1.items m g z c
    exact⟨p,vs,rfl,.inl h1,fun l hl=>hq _ _ (zc4 hl) ⟨l,vs,rfl,Same.free g hl,zb4,Reps.mono (zi6 hl) h2⟩⟩
   ·cases ek
 ·cases ek
noncomputable def k2I (f:Int→Int→Int):List Ev→Option Ev:=fun rs=>match rs with
 |[r1,r2]=>(match r1.d,r2.d with
  |.int i,.int j=>some (.cl (.int (f i j)))
  |_,_=>none)
 |_=>none
theorem cd_2I {v:Value}{f:Int→Int→Int} (h:zq6 X v (fun xs H Q => ∃i j,xs=[.int i,.int j]∧Q (.int (f i j)) H)):CallD X F v (k2I f):=CallD.of h fun H0 H A xs rs e Q m g q ek hq=>by
 unfold k2I at ek
 split at ek
 ·rename_i r1 r2
  cases q with
  |cons q1 q' =>
   cases q' with
   |cons q2 q3 =>
    cases q3
    split at ek
    ·rename_i i j z1 z2
     cases ek
     have p1:=q1.full
     have p2:=q2.full
     rw [z1]at p1;rw [z2]at p2
     cases ze5 p1;cases ze5 p2
     exact⟨i,j,rfl,hq _ H (Same.refl H) (.int _)⟩
    ·cases ek
 ·cases ek
theorem cd_min (hc:X.calm=true):CallD X F (.builtin "min") (k2I fun i j=>if j<i then j else i):=cd_2I (zat6 hc)
end
end DL
namespace DL
open PySem.Spec L2
def zk6:List D→Option (List Int)
 |[]=>some []
 |.int i::r=>(zk6 r).map fun ns=>i::ns
 |_::_=>none
theorem zp0:∀ {ds:List D}{ns:List Int},zk6 ds=some ns→ds=ns.map D.int
 |[],ns,e=>by cases e;rfl
 |.int i::r,ns,e=>by
  unfold zk6 at e
  cases e1:zk6 r with
  |none=>rw [e1]at e;cases e
  |some m=>rw [e1]at e;cases e;rw [zp0 e1];rfl
 |.non::r,ns,e=>by cases e
 |.bl _::r,ns,e=>by cases e
 |.str _::r,ns,e=>by cases e
 |.tup _::r,ns,e=>by cases e
 |.lst _::r,ns,e=>by cases e
theorem zl4 (ns:List Int):zk6 (ns.map D.int)=some ns:=by
 induction ns with
 |nil=>rfl
 |cons n r ih=>simp [zk6,ih]
theorem zh0 {K:zau7}{H:Hp}:∀ {ns:List Int}{vs:List V},Reps K H (ns.map D.int) vs→vs=ns.map V.int
 |[],_,.nil=>rfl
 |n::r,_,.cons h q=>by cases ze5 h;rw [zh0 q];rfl
section
variable {X:Cx}{F:List Addr}{a b c:Expr}{es:List Expr}{fa fb fc:DE}{pos:Pos}
theorem call_sum (hc:X.calm=true):zq6 X (.builtin "sum") (fun xs H Q => ∃(p:Addr) (ns:List Int),xs=[.ref p]∧SqL X.K H p (ns.map V.int)∧Q (.int ns.sum) H):=by
 intro pins s σ H xs us Q I r h
 obtain⟨p,ns,rfl,hs,q⟩:=h
 obtain⟨u,rfl,ru⟩:=zad4 r
 cases ru
 obtain⟨its,rv,pl,_⟩:=I.list hs
 have hi:IntsAre its ns:=zm2 rv
 obtain⟨ys,e⟩:=hi.allInts.items
 have hl:s.heap.IsList p (intItems ys):=by rw [← e];exact PlainL.isL pl
 refine sum_intListG (I.ok.hd hc) hl fun h' tk t' hk=>⟨.int _,H,I.kept (t':=tk) hk,⟨t',rfl⟩,?_⟩
 have en:=nums_intItems ys
 rw [preSum_eq,List.take_of_length_le (by simp)]
 have e2:numsOf (intItems ys).toList=ns:=by rw [← e];exact hi.numsOf
 rw [← nums_intItems,e2]
 exact q
noncomputable def kSum:List Ev→Option Ev:=fun rs=>match rs with
 |[r]=>(match r.d with
  |.lst ds=>(zk6 ds).map fun ns=>.cl (.int ns.sum)
  |_=>none)
 |_=>none
theorem cd_sum (hc:X.calm=true):CallD X F (.builtin "sum") kSum:=CallD.of (call_sum hc) fun H0 H A xs rs e Q m g q ek hq=>by
 unfold kSum at ek
 split at ek
 ·rename_i r
  cases q with
  |cons q1 q2 =>
   cases q2
   split at ek
   ·rename_i ds z
    cases e1:zk6 ds with
    |none=>rw [e1]at ek;cases ek
    |some ns =>
     rw [e1]at ek
     cases ek
     have p:=q1.full
     rw [z,zp0 e1]at p
     cases p with
     |lst h1 h2 =>
      rw [zh0 h2]at h1
      exact⟨_,ns,rfl,h1,hq _ H (Same.refl H) (.int _)⟩
   ·cases ek
 ·cases ek
end
end DL
namespace DL
open PySem.Spec L2
theorem zar0 (i j:Int):eqD (.int i) (.int j)=decide (i=j):=by
 rw [zba6,eqD_true];simp
theorem sm_iff {i:Int}:sm i=true↔i.natAbs<bnd:=by simp [sm]
theorem sm_lt {i:Int} (h:i.natAbs<2 ^ 256):sm i=true:=sm_iff.mpr (zaw1 h (by unfold bnd;exact zbc6 (by decide) (by decide)))
theorem zm5 {i:Int} (h1 : -10000000000000000000000000000000000000000000000000000000000000000000000000000<i) (h2:i<10000000000000000000000000000000000000000000000000000000000000000000000000000):sm i=true:=by
 apply sm_lt
 have:(2:Nat) ^ 256=115792089237316195423570985008687907853269984665640564039457584007913129639936:=by decide
 lia
theorem fmod_pos {a b:Int} (h:0<b):0≤a.fmod b∧a.fmod b<b:=by
 rw [zbe9 a (by lia)]
 exact⟨Int.emod_nonneg a (by lia),Int.emod_lt_of_pos a h⟩
theorem zai6 (d:D):eqD d d=true:=eqD_true.mpr rfl
theorem zb5 {g1 g2:DS}{t t':Th} (h:g1 t=some (.nx t')):dSeq g1 g2 t=g2 t':=by simp [dSeq,h]
theorem RepDs.length {K:zau7}{H0 H:Hp}:∀ {ds:List D}{vs:List V}{B:List Addr},RepDs K H0 H ds vs B→vs.length=ds.length
 |_,_,_,.nil=>rfl
 |_,_,_,.cons _ r=>by simp [RepDs.length r]
theorem RSl.focusDp {K:zau7}{H0 H:Hp}:∀ {t:Th}{σ:L2.St}{A:List Addr},RSl K H0 H t σ A→A.Nodup→∀ {i:Nat}{d:D},t[i]?=some (.dp d)→∃v B,σ[i]?=some (some v)∧(∀b∈B,b∈A)∧B.Nodup∧RepD K H0 H d v B ∧
  ∀H0' H' d2 B2,Same H0 H0'→RepD K H0' H' d2 v B2→B2.Sublist B→(∀q∈A,q∉B→∀o,H q=some o→H' q=some o)→∃A2,RSl K H0' H' (t.set i (.dp d2)) σ A2∧A2.Sublist A:=by
 intro _ _ _ h
 induction h with
 |nil =>
  intro n i d e
  simp at e
 |@no _ _ _ _ r ih =>
  intro n i d e
  cases i with
  |zero =>
   simp at e
  |succ i =>
   obtain⟨v,B,a,b,n',c,k⟩:=ih n (i:=i) (d:=d) (by simpa using e)
   refine⟨v,B,by simpa using a,b,n',c,fun H0' H' d2 B2 s q sb w=>?_⟩
   obtain⟨A2,x,y⟩:=k H0' H' d2 B2 s q sb w
   exact⟨A2,.no x,y⟩
 |@val _ v _ _ _ h r ih =>
  intro n i d e
  cases i with
  |zero =>
   simp at e
  |succ i =>
   obtain⟨v,B,a,b,n',c,k⟩:=ih n (i:=i) (d:=d) (by simpa using e)
   refine⟨v,B,by simpa using a,b,n',c,fun H0' H' d2 B2 s q sb w=>?_⟩
   obtain⟨A2,x,y⟩:=k H0' H' d2 B2 s q sb w
   exact⟨A2,.val (Rep.mono s h) x,y⟩
 |@own p _ _ _ _ _ h1 h2 r ih =>
  intro n i d e
  cases i with
  |zero =>
   simp at e
  |succ i =>
   have n0:=zaw8.mp n
   obtain⟨v,B,a,b,n',c,k⟩:=ih n0.2 (i:=i) (d:=d) (by simpa using e)
   refine⟨v,B,by simpa using a,fun x hx=>zau8 _ (b x hx),n',c,fun H0' H' d2 B2 s q sb w=>?_⟩
   obtain⟨A2,x,y⟩:=k H0' H' d2 B2 s q sb (fun q hq=>w q (zau8 _ hq))
   exact⟨p::A2,.own (w p (zav1 ..) (fun z=>n0.1 (b p z)) _ h1) (Reps.mono s h2) x,y.cons₂ _⟩
 |@dp _ v C _ _ _ h r ih =>
  intro n i d e
  cases i with
  |zero =>
   simp at e;subst e
   have n0:=zaw2.mp n
   refine⟨v,C,rfl,fun x hx=>zau9 _ hx,n0.1,h,fun H0' H' d2 B2 s q sb w=>?_⟩
   exact⟨_,.dp q (RSl.mono s r fun p hp=>w p (zau6 _ hp) fun z=>n0.2.2 p z p hp rfl),List.Sublist.append sb (List.Sublist.refl _)⟩
  |succ i =>
   have n0:=zaw2.mp n
   obtain⟨v,B,a,b,n',c,k⟩:=ih n0.2.1 (i:=i) (d:=d) (by simpa using e)
   refine⟨v,B,by simpa using a,fun x hx=>zau6 _ (b x hx),n',c,fun H0' H' d2 B2 s q sb w=>?_⟩
   obtain⟨A2,x,y⟩:=k H0' H' d2 B2 s q sb (fun q hq=>w q (zau6 _ hq))
   exact⟨C++A2,.dp (RepD.mono s h fun p hp=>w p (zau9 _ hp) fun z=>n0.2.2 p hp p (b p z) rfl) x,List.Sublist.append (List.Sublist.refl _) y⟩
noncomputable def toDn:Ev→Option D
 |.cl d=>if flat d then some d else none
 |.tm d=>if flat d then some d else none
 |.nw xs=>if flats xs then some (.lst xs) else none
 |.dn d=>some d
theorem RepEv.toDn {K:zau7}{F A:List Addr}{H H':Hp}{r:Ev}{v:V}{d:D} (m:Lists H (A++F)) (g:Same H H') (h:RepEv K F A H H' r v) (e:toDn r=some d):RepEv K F A H H' (.dn d) v:=by
 cases r with
 |cl d0 =>
  simp only [DL.toDn]at e
  split at e
  ·rename_i f;cases e
   exact⟨[],zax6,fun b hb=>(by cases hb),.flat f h⟩
  ·cases e
 |tm d0 =>
  simp only [DL.toDn]at e
  split at e
  ·rename_i f;cases e
   exact⟨[],zax6,fun b hb=>(by cases hb),.flat f (Rep.hid (m.mono g) f (Rep.mono (zb3 _ _) h))⟩
  ·cases e
 |nw xs =>
  simp only [DL.toDn]at e
  split at e
  ·rename_i f;cases e
   obtain⟨p,vs,rfl,h1,h2,h3⟩:=h
   exact⟨[p],by simp,fun b hb=>by simp at hb;subst hb;exact h1,.lst h2 (RepDs.of_flat f h3)⟩
  ·cases e
 |dn d0=>cases e;exact h
abbrev DN:=Th→Option (D×List Nat)
abbrev DNs:=Th→Option (List D×List Nat)
theorem RepDs.appD {K:zau7}{H0 H:Hp}{d:D}{v:V}{C:List Addr} (q:RepD K H0 H d v C):∀ {ds:List D}{vs:List V}{B:List Addr},RepDs K H0 H ds vs B→RepDs K H0 H (ds++[d]) (vs++[v]) (B++C)
 |_,_,_,.nil=>by
  have:=RepDs.cons q .nil
  simpa using this
 |_,_,_,.cons h r=>by
  have:=RepDs.cons h (RepDs.appD q r)
  simpa [zbj3] using this
noncomputable def zg4 (k:D→Th→Option Th) (ft:DT) (fe:DE):List D→Th→Option (List D)
 |[],_=>some []
 |d::ds,t=>(k d t).bind fun t1=>(ft t1).bind fun b=>if b then (fe t1).bind fun r=>(toDn r).bind fun d=>(zg4 k ft fe ds t1).map fun xs=>d::xs else zg4 k ft fe ds t1
noncomputable def zh2 (n:Nat) (cap:List Nat) (fs:DI) (k:D→Th→Option Th) (ft:DT) (fe:DE):DE:=fun t=>(fs t).bind fun q=>(capD t cap).bind fun c=>if q.2.length≤50000 then (zg4 k ft fe q.2 (zav7 n Sl.no++c.2.map Sl.val)).map fun xs=>.dn (.lst xs) else none
theorem zu4 {k:D→Th→Option Th}{ft:DT}{fe:DE}:∀ {ds:List D}{t:Th}{xs:List D},zg4 k ft fe ds t=some xs→xs.length≤ds.length
 |[],t,xs,e=>by cases e;simp
 |d::ds,t,xs,e=>by
  unfold zg4 at e
  cases e1:k d t with
  |none=>rw [e1]at e;cases e
  |some t1 =>
   rw [e1]at e
   have e:((ft t1).bind fun b=>if b then (fe t1).bind fun r=>(toDn r).bind fun d=>(zg4 k ft fe ds t1).map fun xs=>d::xs else zg4 k ft fe ds t1)=some xs:=e
   cases e2:ft t1 with
   |none=>rw [e2]at e;cases e
   |some b =>
    rw [e2]at e
    cases b with
    |false=>have:=zu4 (ds:=ds) (t:=t1) e;simp;lia
    |true =>
     have e:((fe t1).bind fun r=>(toDn r).bind fun d=>(zg4 k ft fe ds t1).map fun xs=>d::xs)=some xs:=e
     cases e3:fe t1 with
     |none=>rw [e3]at e;cases e
     |some r =>
      rw [e3]at e
      have e:((toDn r).bind fun d=>(zg4 k ft fe ds t1).map fun xs=>d::xs)=some xs:=e
      cases e5:toDn r with
      |none=>rw [e5]at e;cases e
      |some d0 =>
       rw [e5]at e
       have e:((zg4 k ft fe ds t1).map fun xs=>d0::xs)=some xs:=e
       cases e4:zg4 k ft fe ds t1 with
       |none=>rw [e4]at e;cases e
       |some ys=>rw [e4]at e;cases e;have:=zu4 e4;simp;lia
theorem zz2 {X:Cx}{F:List Addr}{n:Nat}{cap:List Nat}{fs:DI}{g:TG}{kt:D→Th→Option Th}{ft:DT}{fe:DE} (hk:∀F',TgOk X.K F' g kt) {σ:L2.St}{H:Hp}{Q:VK} (h:dE X.K F (zh2 n cap fs kt ft fe) σ H Q) :
  zad5 n cap (dI X.K F fs) g (fun σ H Q => ∃F',dT X.K F' ft σ H Q) (fun σ H Q => ∃F',dE X.K F' fe σ H Q) σ H Q:=by
 obtain⟨A,t,r,R,e,h⟩:=h
 unfold zh2 at e
 cases e1:fs t with
 |none=>rw [e1]at e;cases e
 |some q =>
  obtain⟨b,ds⟩:=q
  cases e2:capD t cap with
  |none=>rw [e1,e2]at e;cases e
  |some q2 =>
   obtain⟨c,caps⟩:=q2
   rw [e1,e2]at e
   have e:(if ds.length≤50000 then (zg4 kt ft fe ds (zav7 n Sl.no++caps.map Sl.val)).map fun xs=>Ev.dn (.lst xs) else none)=some r:=e
   split at e
   case isFalse=>cases e
   rename_i hlen
   cases e3:zg4 kt ft fe ds (zav7 n Sl.no++caps.map Sl.val) with
   |none=>rw [e3]at e;cases e
   |some xs =>
    rw [e3]at e
    cases e
    have xl:=zu4 e3
    obtain⟨cvs,cv1,cv2⟩:=zp4 R e2
    -- what is hidden from the block,but its own list
    obtain⟨F',F'def⟩:∃F',F'=hidF (b&&c) A F:=⟨_,rfl⟩
    have subF:∀x∈F',x∈A++F:=fun x hx=>by
     rw [F'def]at hx
     unfold hidF at hx
     split at hx
     ·exact hx
     ·exact zau6 _ hx
    have lessB:∀H:Hp,Same (hide (hidF b A F) H) (hide F' H):=fun H=>za7 H fun x hx=>by
     rw [F'def]at hx
     cases b<;>cases c<;>simp [hidF]at hx ⊢<;>first | exact hx | exact .inr hx | (rcases hx with z | z<;>simp [z])
    have lessC:∀H:Hp,Same (hide (hidF c A F) H) (hide F' H):=fun H=>za7 H fun x hx=>by
     rw [F'def]at hx
     cases b<;>cases c<;>simp [hidF]at hx ⊢<;>first | exact hx | exact .inr hx | (rcases hx with z | z<;>simp [z])
    have wi:zad5 n cap (dI X.K F fs) g (fun σ H Q => ∃F',dT X.K F' ft σ H Q) (fun σ H Q => ∃F',dE X.K F' fe σ H Q) σ H Q:=by
     refine⟨A,t,b,ds,R,e1,fun J H1 Good gs src gd Dd hD=>?_⟩
     have H1A:Lists H1 (A++F):=R.mu.mono gs
     have st0:Same (hide F' H1) (hide (Dd::F') (upd H1 Dd (.lst []))):=zi6 hD
     refine⟨fun i m σ' H'=>i+m=ds.length∧∃th acc rest vs B,RS X.K (Dd::F') H' [] th σ'∧zg4 kt ft fe (ds.drop i) th=some rest∧acc++rest=xs∧H' Dd=some (.lst vs)∧(RepDs X.K (hide (Dd::F') H') H' acc vs B∧B.Nodup∧Dd∉B∧∀b∈B,H1 b=none)∧Same H1 H'∧Good (Dd::F') H',
      ⟨ds.length,by lia,_,[],xs,[],[],⟨?_,zax6,fun p hp=>(by cases hp),?_⟩,by simpa using e3,rfl,zb4,⟨.nil,zax6,by simp,by simp⟩,zc4 hD,src.keep _ _ _ _ gd (fun b o z=>st0 _ _ (lessB _ _ _ z))⟩,?_⟩
     ·intro q hq
      have hq:q∈Dd::F':=hq
      rcases zav5.mp hq with z | z
      ·exact⟨mL [],by rw [z];exact zb4⟩
      ·obtain⟨us,w⟩:=H1A q (subF q z)
       exact⟨us,(zc4 hD) _ _ w⟩
     ·unfold capV
      rw [cv1]
      exact RSl.noVals (Reps.mono (fun b o z=>st0 _ _ (lessC H1 _ _ (za8 gs _ _ z))) cv2) n
     ·rintro i m σ' H' ⟨hm,th,acc,rest,vs,B,RR,ec,ex,hv,⟨hr,hnd,hDB,hfr⟩,sm,gg⟩
      cases m with
      |zero =>
       have z:i=ds.length:=by lia
       subst z
       rw [zbb6]at ec
       cases ec
       rw [zbd4]at ex
       subst ex
       refine .inl ⟨src.stop _ _ gg,h _ H' (gs.trans sm) ⟨Dd::B,zaw8.mpr ⟨hDB,hnd⟩,fun x hx=>?_,.lst hv (RepDs.hid (fun q hq=>?_) (zb3 _ _) hr)⟩⟩
       ·rcases zav5.mp hx with rfl | z
        ·exact Same.free gs hD
        ·exact Same.free gs (hfr x z)
       ·rcases zav2.mp hq with z | z
        ·rcases zav5.mp z with rfl | z
         ·exact⟨mL vs,hv⟩
         ·exact hr.lists q z
        ·obtain⟨us,w⟩:=H1A q z
         exact⟨us,sm _ _ w⟩
      |succ m =>
       have hil:i<ds.length:=by lia
       refine .inr ⟨src.go _ _ i gg hil,fun σ' H'=>i+1+m=ds.length∧∃th acc rest vs B,RS X.K (Dd::F') H' [] th σ'∧zg4 kt ft fe (ds.drop (i+1)) th=some rest∧acc++rest=xs∧H' Dd=some (.lst vs)∧(RepDs X.K (hide (Dd::F') H') H' acc vs B∧B.Nodup∧Dd∉B∧∀b∈B,H1 b=none)∧Same H1 H'∧Good (Dd::F') H',
        fun σ' H' q=>⟨m,zaz6 m,q⟩,fun x H2 y=>?_⟩
       obtain⟨gs2,d,hd,rd⟩:=src.yld _ _ i x H2 gg RR.mu y hil
       have ed:ds.drop i=d::ds.drop (i+1):=by
        have hd':ds[i]=d:=by
         rw [zav4 hil]at hd
         exact Option.some.inj hd
        rw [← hd']
        exact zay3 hil
       rw [ed]at ec
       unfold zg4 at ec
       cases k1:kt d th with
       |none=>rw [k1]at ec;cases ec
       |some t1 =>
        rw [k1]at ec
        have ec:((ft t1).bind fun b=>if b then (fe t1).bind fun r=>(toDn r).bind fun d=>(zg4 kt ft fe (ds.drop (i+1)) t1).map fun xs=>d::xs else zg4 kt ft fe (ds.drop (i+1)) t1)=some rest:=ec
        refine hk (Dd::F') σ' H2 [] th t1 d x _ (RR.grow gs2) rd k1 fun σ2 A2 gr2 R2=>?_
        have A20:=zj2 R2 gr2
        subst A20
        cases k2:ft t1 with
        |none=>rw [k2]at ec;cases ec
        |some bb =>
         rw [k2]at ec
         refine⟨Dd::F',[],t1,bb,R2,k2,fun H3 gs3=>?_⟩
         cases bb with
         |false =>
          refine iteF ⟨by lia,t1,acc,rest,vs,B,R2.grow gs3,ec,ex,gs3 _ _ (gs2 _ _ hv),⟨RepDs.mono (za8 (gs2.trans gs3)) hr fun p _ o w=>gs3 _ _ (gs2 _ _ w),hnd,hDB,hfr⟩,(sm.trans gs2).trans gs3,src.keep _ _ _ _ gg (za8 (gs2.trans gs3))⟩
         |true =>
          have ec:((fe t1).bind fun r=>(toDn r).bind fun d=>(zg4 kt ft fe (ds.drop (i+1)) t1).map fun xs=>d::xs)=some rest:=ec
          cases k3:fe t1 with
          |none=>rw [k3]at ec;cases ec
          |some re =>
           rw [k3]at ec
           have ec:((toDn re).bind fun d=>(zg4 kt ft fe (ds.drop (i+1)) t1).map fun xs=>d::xs)=some rest:=ec
           cases k5:toDn re with
           |none=>rw [k5]at ec;cases ec
           |some de =>
           rw [k5]at ec
           have ec:((zg4 kt ft fe (ds.drop (i+1)) t1).map fun xs=>de::xs)=some rest:=ec
           cases k4:zg4 kt ft fe (ds.drop (i+1)) t1 with
           |none=>rw [k4]at ec;cases ec
           |some ys =>
            rw [k4]at ec
            cases ec
            refine iteT ⟨Dd::F',[],t1,re,R2.grow gs3,k3,fun v H4 gs4 q4=>⟨vs,gs4 _ _ (gs3 _ _ (gs2 _ _ hv)),?_,?_⟩⟩
            ·have l1:=hr.length
             have l2:acc.length+(ys.length+1)=xs.length:=by rw [← ex];simp
             exact zaw1 (show vs.length<50000 by lia) (by rw [sizeLine_eq];decide)
            ·have s3:=gs2.trans gs3
             have s4:=s3.trans gs4
             have hu:Same (hide (Dd::F') H4) (hide (Dd::F') (upd H4 Dd (.lst (vs++[v])))):=ze3 (zav1 ..)
             have mu3:Lists H3 (Dd::F'):=(R2.grow gs3).mu
             obtain⟨B4,n4,f4,r4⟩:=q4.toDn (R2.grow gs3).mu gs4 k5
             have D3:H3 Dd=some (.lst vs):=s3 _ _ hv
             have nD4:Dd∉B4:=fun z=>by rw [f4 _ z]at D3;cases D3
             have off:∀b,b≠Dd→upd H4 Dd (.lst (vs++[v])) b=H4 b:=fun b n=>zb9 n
             refine⟨by lia,t1,acc++[de],ys,vs++[v],B++B4,RS.updF ((R2.grow gs3).grow gs4) (zav1 ..),k4,by simpa using ex,zb4,⟨?_,?_,?_,?_⟩,?_,?_⟩
             ·refine RepDs.appD (RepD.mono hu (RepD.hid (mu3.mono gs4) (zb3 _ _) r4) fun b hb o w=>?_) (RepDs.mono (fun b o z=>hu _ _ (za8 s4 _ _ z)) hr fun b hb o w=>?_)
              ·rw [off b fun z=>nD4 (z ▸ hb)];exact w
              ·rw [off b fun z=>hDB (z ▸ hb)];exact s4 _ _ w
             ·refine zaw2.mpr ⟨hnd,n4,fun x hx y hy e=>?_⟩
              subst e
              obtain⟨us,w⟩:=hr.lists x hx
              have:=s3 _ _ w
              rw [f4 x hy]at this;cases this
             ·intro z
              rcases zav2.mp z with z | z
              ·exact hDB z
              ·exact nD4 z
             ·intro b hb
              rcases zav2.mp hb with z | z
              ·exact hfr b z
              ·exact Same.free (sm.trans s3) (f4 b z)
             ·exact fun b o z=>by
               rw [zb9 (fun w=>by rw [w,hD]at z;cases z)]
               exact s4 _ _ (sm _ _ z)
             ·exact src.keep _ _ _ _ gg (fun b o z=>hu _ _ (za8 s4 _ _ z))
    exact wi
theorem zan8 {X:Cx}{F:List Addr}{elt tg iter:Expr}{ifs:List Expr}{scope:Scope}{pos:Pos}{n:Nat}{cap:List Nat}{N':List Str}{fs:DI}{g:TG}{kt:D→Th→Option Th}{ft:DT}{fe:DE} (S:CompSc X scope) (hc:X.calm=true) (hi:PI X tg iter (dI X.K F fs))
  (hN:N'.length=n+cap.length) (hcap:∀(k:Nat) (j:Nat),cap[k]?=some j→∃x,N'[n+k]?=some x∧X.N[j]?=some x∧(x,NameKind.free)∈scope.names)
  (hg:∀C s₃ H₃ fp pins,PG (blk X N' scope C s₃ H₃ fp pins) tg g) (hk:∀F',TgOk X.K F' g kt) (ht:∀C s₃ H₃ fp pins F',PTs (blk X N' scope C s₃ H₃ fp pins) ifs (dT X.K F' ft)) (he:∀C s₃ H₃ fp pins F',PE (blk X N' scope C s₃ H₃ fp pins) elt (dE X.K F' fe))
  (hs:∀x,foldedSetIterable iter X.env x=pure x:=by intro _;rfl):PE X (.ListComp elt [⟨tg,iter,ifs,0⟩] scope pos) (dE X.K F (zh2 n cap fs kt ft fe)) :=
 PE.imp (zao0 (g:=g) S hc hi hN hcap hg (fun C s₃ H₃ fp pins pins' s σ H Q I ⟨F',q⟩=>ht C s₃ H₃ fp pins F' pins' s σ H Q I q) (fun C s₃ H₃ fp pins pins' s σ H Q I ⟨F',q⟩=>he C s₃ H₃ fp pins F' pins' s σ H Q I q) hs) fun _ _ _ h=>zz2 hk h
theorem zv6 {X:Cx}{F:List Addr}{elt tg iter:Expr}{ifs:List Expr}{scope:Scope}{pos:Pos}{fs:DI}{g:TG}{kt:D→Th→Option Th}{ft:DT}{fe:DE} (n:Nat) (cap:List Nat) (N':List Str) (hc:X.calm=true) (hi:PI X tg iter (dI X.K F fs))
  (hg:∀C s₃ H₃ fp pins,PG (blk X N' scope C s₃ H₃ fp pins) tg g) (hk:∀F',TgOk X.K F' g kt) (ht:∀C s₃ H₃ fp pins F',PTs (blk X N' scope C s₃ H₃ fp pins) ifs (dT X.K F' ft)) (he:∀C s₃ H₃ fp pins F',PE (blk X N' scope C s₃ H₃ fp pins) elt (dE X.K F' fe))
  (hkd:scope.kind=.function:=by rfl) (hcs:zr4 scope.names X.env.kindOf=true:=by rfl) (hN:N'.length=n+cap.length:=by rfl) (hcap:zv3 N' X.N n scope.names 0 cap=true:=by rfl)
  (hs:∀x,foldedSetIterable iter X.env x=pure x:=by intro _;rfl):PE X (.ListComp elt [⟨tg,iter,ifs,0⟩] scope pos) (dE X.K F (zh2 n cap fs kt ft fe)) :=
 zan8 (zac2 hkd hcs) hc hi hN (fun k j e=>by simpa using zm4 hcap k j e) hg hk ht he hs
section
variable {X:Cx}{F:List Addr}{a b c o:Expr}{es:List Expr}{fa fb fc:DE}{fs:List DE}{ga:DA}{g g1 g2:DS}{ft fu:DT}{pos:Pos}{st:Stmt}{rest:List Stmt}{tg:Expr}{gt:TG}{kt:D→Th→Option Th}
noncomputable def kRep:Ev→Ev→Option Ev:=fun r1 r2=>match r1,r2.d with
 |.nw xs,.int k=>if xs.length≤100&&decide (-1000000≤k∧k≤1000) then some (.nw (zav7 k.toNat xs).flatten) else none
 |_,_=>none
theorem Reps.rep {K:zau7}{H:Hp}{ds:List D}{vs:List V} (r:Reps K H ds vs):∀k:Nat,Reps K H (zav7 k ds).flatten (zav7 k vs).flatten
 |0=>by simpa using .nil
 |k+1=>by simpa [zay7] using r.app (Reps.rep r k)
theorem zl1:OpD X F (binaryOp .Mult) kRep:=by
 intro pins s σ H0 H A x y v u Q r1 r2 r I m g0 rx ry q1 q2 e hq
 unfold kRep at e
 split at e
 ·rename_i xs k z
  split at e
  ·rename_i ok
   simp only [zav3,decide_eq_true_eq]at ok
   cases e
   have p2:=q2.full
   rw [z]at p2
   cases ze5 p2
   obtain⟨p,vs,rfl,h1,h2,h3⟩:=q1
   refine op_rep pins s σ H _ _ v u Q I rx ry ⟨p,k,vs,rfl,rfl,h2,by lia,by lia,?_,fun l hl=>hq _ _ (zc4 hl) ⟨l,_,rfl,Same.free g0 hl,zb4,Reps.mono (zi6 hl) (Reps.rep (Reps.mono (za7 H fun a z=>zau8 _ z) h3) _)⟩⟩
   refine zl3 ?_
   rw [h3.length]
   have h5:k.toNat≤1000:=by lia
   exact zax3 (Nat.mul_le_mul ok.1 h5) (by decide)
  ·cases e
 ·cases e
end
end DL
namespace DL
open PySem.Spec L2
def zs8 (a b c:Int):Bool:=Builtin.Range.small a b c&&decide (c≠0∧c.natAbs<1000000∧0≤Builtin.Range.rangeSize a b c)
def rng3 (a b c:Int):List D:=(zay0 (Builtin.Range.rangeSize a b c).toNat).map fun i=>.int (a+(i:Nat)*c)
def mkG (k:Nat) (N:List Str) (g:DS):List D→Option Ev:=fun ds=>if ds.length=k then (g (zv5 N ds)).bind zi3 else none
theorem zg6 {k:Nat}{N:List Str}{g:DS}{ds:List D}{r:Ev} (e:mkG k N g ds=some r):ds.length=k:=by
 unfold mkG at e
 split at e
 ·assumption
 ·cases e
theorem zj3 {k:Nat}{N:List Str}{g:DS}{ds:List D}{r:Ev} (e:mkG k N g ds=some r):∃o,g (zv5 N ds)=some o∧zi3 o=some r:=by
 unfold mkG at e
 split at e
 ·cases e1:g (zv5 N ds) with
  |none=>rw [e1]at e;cases e
  |some o=>rw [e1]at e;exact⟨o,rfl,e⟩
 ·cases e
section
variable {X:Cx}{F:List Addr}{elt tg iter:Expr}{ifs:List Expr}{scope:Scope}{pos spos py:Pos}{fs:DI}{g:TG}{kt:D→Th→Option Th}{ft:DT}{fe fc:DE}{i:Nat}{y:Str}
theorem compU {n:Nat}{cap:List Nat}{N':List Str} (up:∀ {σ:L2.St}{H:Hp}{Q:VK},dE X.K F fc σ H Q→zad5 n cap (dI X.K F fs) g (fun σ H Q => ∃F',dT X.K F' ft σ H Q) (fun σ H Q => ∃F',dE X.K F' fe σ H Q) σ H Q) (hc:X.calm=true) (hi:PI X tg iter (dI X.K F fs))
  (hg:∀C s₃ H₃ fp pins,PG (blk X N' scope C s₃ H₃ fp pins) tg g) (ht:∀C s₃ H₃ fp pins F',PTs (blk X N' scope C s₃ H₃ fp pins) ifs (dT X.K F' ft)) (he:∀C s₃ H₃ fp pins F',PE (blk X N' scope C s₃ H₃ fp pins) elt (dE X.K F' fe))
  (hNd:X.N.Nodup) (hi₀:X.N[i]?=some y) (hy:Loc X.env.scope y) (hsw:swapsWith (.ListComp elt [⟨tg,iter,ifs,0⟩] scope pos) (some (.Name y py)) spos.line X.env=pure true) (hf:X.fn y=true∨X.env.scope.names.lookup y=some .local)
  (hkd:scope.kind=.function) (hcs:zr4 scope.names X.env.kindOf=true) (hN:N'.length=n+cap.length) (hcap:zv3 N' X.N n scope.names 0 cap=true) (hs:∀x,foldedSetIterable iter X.env x=pure x) :
  PS X (.Assign [.Name y py] (.ListComp elt [⟨tg,iter,ifs,0⟩] scope pos) spos) (dS X.K F (dAsg i fc)):=by
 refine PS.imp (ps_compU (g:=g) (wi:=dI X.K F fs) (tt:=fun σ H Q => ∃F',dT X.K F' ft σ H Q) (te:=fun σ H Q => ∃F',dE X.K F' fe σ H Q) (zac2 hkd hcs) hc hi hN (fun k j e=>by simpa using zm4 hcap k j e) hg (fun C s₃ H₃ fp pins pins' s σ H Q I ⟨F',q⟩=>ht C s₃ H₃ fp pins F' pins' s σ H Q I q) (fun C s₃ H₃ fp pins pins' s σ H Q I ⟨F',q⟩=>he C s₃ H₃ fp pins F' pins' s σ H Q I q) hNd hi₀ hy hsw hf hs) ?_
 rintro E σ H ⟨A,t,o,R,e,h⟩
 unfold dAsg at e
 cases e1:fc t with
 |none=>rw [e1]at e;cases e
 |some r1 =>
  rw [e1]at e
  have e:(zm6 t i r1).map Out.nx=some o:=e
  cases e2:zm6 t i r1 with
  |none=>rw [e2]at e;cases e
  |some t' =>
   rw [e2]at e
   cases e
   refine up ⟨A,t,r1,R,e1,fun v H' gs q=>?_⟩
   obtain⟨A',g',R'⟩:=R.put gs q e2
   exact h _ _ _ g' R'
theorem zo3 (n:Nat) (cap:List Nat) (N':List Str) (hNd:X.N.Nodup) (hi₀:X.N[i]?=some y) (hy:Loc X.env.scope y) (hc:X.calm=true) (hi:PI X tg iter (dI X.K F fs))
  (hg:∀C s₃ H₃ fp pins,PG (blk X N' scope C s₃ H₃ fp pins) tg g) (hk:∀F',TgOk X.K F' g kt) (ht:∀C s₃ H₃ fp pins F',PTs (blk X N' scope C s₃ H₃ fp pins) ifs (dT X.K F' ft)) (he:∀C s₃ H₃ fp pins F',PE (blk X N' scope C s₃ H₃ fp pins) elt (dE X.K F' fe))
  (hsw:swapsWith (.ListComp elt [⟨tg,iter,ifs,0⟩] scope pos) (some (.Name y py)) spos.line X.env=pure true:=by rfl) (hf:X.fn y=true∨X.env.scope.names.lookup y=some .local:=by first | exact .inl rfl | exact .inr rfl)
  (hkd:scope.kind=.function:=by rfl) (hcs:zr4 scope.names X.env.kindOf=true:=by rfl) (hN:N'.length=n+cap.length:=by rfl) (hcap:zv3 N' X.N n scope.names 0 cap=true:=by rfl)
  (hs:∀x,foldedSetIterable iter X.env x=pure x:=by intro _;rfl):PS X (.Assign [.Name y py] (.ListComp elt [⟨tg,iter,ifs,0⟩] scope pos) spos) (dS X.K F (dAsg i (zd1 n cap fs kt ft fe))) :=
 compU (fun h=>zaf9 hk h) hc hi hg ht he hNd hi₀ hy hsw hf hkd hcs hN hcap hs
theorem zam6 (n:Nat) (cap:List Nat) (N':List Str) (hNd:X.N.Nodup) (hi₀:X.N[i]?=some y) (hy:Loc X.env.scope y) (hc:X.calm=true) (hi:PI X tg iter (dI X.K F fs))
  (hg:∀C s₃ H₃ fp pins,PG (blk X N' scope C s₃ H₃ fp pins) tg g) (hk:∀F',TgOk X.K F' g kt) (ht:∀C s₃ H₃ fp pins F',PTs (blk X N' scope C s₃ H₃ fp pins) ifs (dT X.K F' ft)) (he:∀C s₃ H₃ fp pins F',PE (blk X N' scope C s₃ H₃ fp pins) elt (dE X.K F' fe))
  (hsw:swapsWith (.ListComp elt [⟨tg,iter,ifs,0⟩] scope pos) (some (.Name y py)) spos.line X.env=pure true:=by rfl) (hf:X.fn y=true∨X.env.scope.names.lookup y=some .local:=by first | exact .inl rfl | exact .inr rfl)
  (hkd:scope.kind=.function:=by rfl) (hcs:zr4 scope.names X.env.kindOf=true:=by rfl) (hN:N'.length=n+cap.length:=by rfl) (hcap:zv3 N' X.N n scope.names 0 cap=true:=by rfl)
  (hs:∀x,foldedSetIterable iter X.env x=pure x:=by intro _;rfl):PS X (.Assign [.Name y py] (.ListComp elt [⟨tg,iter,ifs,0⟩] scope pos) spos) (dS X.K F (dAsg i (zh2 n cap fs kt ft fe))) :=
 compU (fun h=>zz2 hk h) hc hi hg ht he hNd hi₀ hy hsw hf hkd hcs hN hcap hs
end
end DL
namespace DL
open PySem.Spec L2
section
variable {X:Cx}{F:List Addr}{a b c o:Expr}{es:List Expr}{fa fb fc:DE}{fs:List DE}{ga:DA}{g g1 g2:DS}{ft fu:DT}{pos:Pos}{st:Stmt}{rest:List Stmt}{tg:Expr}{gt:TG}{kt:D→Th→Option Th}
noncomputable def kNin:Ev→Ev→Option Ev:=fun r1 r2=>match r2.d with
 |.lst ds=>if scD r1.d&&ds.all (fun d=>scD d&&eqOk 0 d r1.d) then some (.cl (.bl (!ds.any fun d=>eqD d r1.d))) else none
 |.tup ds=>if scD r1.d&&ds.all (fun d=>scD d&&eqOk 0 d r1.d) then some (.cl (.bl (!ds.any fun d=>eqD d r1.d))) else none
 |_=>none
theorem zaa2:OpD X F (compareOp .NotIn) kNin:=by
 intro pins s σ H0 H A x y v u Q r1 r2 r I m g0 rx ry q1 q2 e hq
 unfold kNin at e
 have p1:=q1.full
 have p2:=q2.full
 split at e
 ·rename_i ds z
  rw [z]at p2
  split at e
  case isFalse=>cases e
  rename_i c
  rw [zav3]at c
  cases e
  cases p2 with
  |@lst _ p vs h1 h2 =>
   obtain⟨a,b⟩:=in_D p1 c.1 h2 c.2
   exact zq9 pins s σ H x _ v u Q I rx ry ⟨p,vs,rfl,.inl h1,zw7 p1 c.1,a,by
    show Q (.bl (!inV x vs)) H
    rw [b];exact hq _ H (Same.refl H) (.bl _)⟩
 ·rename_i ds z
  rw [z]at p2
  split at e
  case isFalse=>cases e
  rename_i c
  rw [zav3]at c
  cases e
  cases p2 with
  |@tup _ p vs h1 h2 =>
   obtain⟨a,b⟩:=in_D p1 c.1 h2 c.2
   exact zq9 pins s σ H x _ v u Q I rx ry ⟨p,vs,rfl,.inr h1,zw7 p1 c.1,a,by
    show Q (.bl (!inV x vs)) H
    rw [b];exact hq _ H (Same.refl H) (.bl _)⟩
 ·cases e
def leastI:Int→List Int→Int
 |m,[]=>m
 |m,n::r=>leastI (if n<m then n else m) r
def zl2:Int→List Int→Int
 |m,[]=>m
 |m,n::r=>zl2 (if m<n then n else m) r
theorem zx3:∀(r:List Int) (m:Int),zl2 m r∈m::r∧∀a∈m::r,a≤zl2 m r
 |[],m=>⟨by simp [zl2],by simp [zl2]⟩
 |n::r,m=>by
  obtain⟨h1,h2⟩:=zx3 r (if m<n then n else m)
  have h3:=h2 (if m<n then n else m) (zav1 ..)
  have k1:m≤(if m<n then n else m):=by split<;>lia
  have k2:n≤(if m<n then n else m):=by split<;>lia
  refine⟨?_,fun a ha=>?_⟩
  ·show zl2 (if m<n then n else m) r∈m::n::r
   rcases zav5.mp h1 with z | z
   ·rw [z];split<;>simp
   ·simp [z]
  ·show a≤zl2 (if m<n then n else m) r
   rcases zav5.mp ha with z | z
   ·subst z;lia
   ·rcases zav5.mp z with w | w
    ·subst w;lia
    ·exact h2 a (zau8 _ w)
theorem zao5 {ys:Array (Int×Tok)}{j:Nat} (hj:j<ys.size):numAt ys j∈ys.toList.map (·.1):=by
 rw [numAt_eq];exact getD_mem (by simpa using hj)
theorem zat7 (hc:X.calm=true):zq6 X (.builtin "max") (fun xs H Q => ∃(p:Addr) (ns:List Int) (M:Int),xs=[.ref p]∧SqL X.K H p (ns.map V.int)∧M∈ns∧(∀a∈ns,a≤M)∧Q (.int M) H):=by
 intro pins s σ H xs us Q I r h
 obtain⟨p,ns,M,rfl,hs,hm,hle,q⟩:=h
 obtain⟨u,rfl,ru⟩:=zad4 r
 cases ru
 obtain⟨its,rv,pl,_⟩:=I.list hs
 have hi:IntsAre its ns:=zm2 rv
 obtain⟨ys,e⟩:=hi.allInts.items
 have hl:s.heap.IsList p (intItems ys):=by rw [← e];exact PlainL.isL pl
 have hns:ys.toList.map (·.1)=ns:=by
  have e2:numsOf (intItems ys).toList=ns:=by rw [← e];exact hi.numsOf
  rw [← nums_intItems];exact e2
 have hsz:0<ys.size:=by
  have:0<ns.length:=zbb7 hm
  rw [← hns]at this;simpa using this
 refine max_intList (I.ok.hd hc) hl hsz fun v h' tk hv hk=>?_
 obtain⟨t,rfl⟩:=intItems_at hv
 obtain⟨h1,h2⟩:=argBest_gt (numAt ys) (ys.size - 1)
 refine⟨.int M,H,I.kept (t':=tk) hk,⟨t,?_⟩,q⟩
 have a1:=hle _ (hns ▸ zao5 (ys:=ys) (j:=argBest (fun i j=>decide (numAt ys i > numAt ys j)) (ys.size - 1)) (by lia))
 rw [← hns]at hm
 obtain⟨j,hj,ej⟩:=mem_getD hm
 have hj':j<ys.size:=by simpa using hj
 have a2:=h2 j (by lia)
 rw [numAt_eq ys j,ej]at a2
 congr 1
 lia
end
end DL
namespace DL
open PySem.Spec L2
section
variable {X:Cx}{F:List Addr}{a b c o:Expr}{es:List Expr}{fa fb fc:DE}{fs:List DE}{ga:DA}{g g1 g2:DS}{ft fu:DT}{pos:Pos}{st:Stmt}{rest:List Stmt}{tg:Expr}{gt:TG}{kt:D→Th→Option Th}
noncomputable def zaa8 (f:Int→List Int→Int):List Ev→Option Ev:=fun rs=>match rs with
 |[r]=>(match r.d with
  |.lst ds=>(match zk6 ds with
   |some (n::ns)=>some (.cl (.int (f n ns)))
   |_=>none)
  |_=>none)
 |_=>none
theorem cd_extr {id':String}{f:Int→List Int→Int} (h:∀n ns,zq6 X (.builtin id') (fun xs H Q => ∃p:Addr,xs=[.ref p]∧SqL X.K H p ((n::ns).map V.int)∧Q (.int (f n ns)) H)):CallD X F (.builtin id') (zaa8 f):=by
 intro pins s σ H0 H A xs us Q rs r I m g v q ek hq
 unfold zaa8 at ek
 split at ek
 case h_2=>cases ek
 rename_i r0
 cases q with
 |@cons _ y _ ys q1 q2 =>
  cases q2
  split at ek
  case h_2=>cases ek
  rename_i ds z
  split at ek
  case h_2=>cases ek
  rename_i n ns z2
  cases ek
  have p:=q1.full
  rw [z,zp0 z2]at p
  cases p with
  |@lst _ l ws h1 h2 =>
   rw [zh0 h2]at h1
   exact h n ns pins s σ H _ us Q I v ⟨l,rfl,h1,hq _ H (Same.refl H) (.int _)⟩
theorem zat4 (hc:X.calm=true):CallD X F (.builtin "max") (zaa8 zl2) :=
 cd_extr fun n ns pins s σ H xs us Q I v ⟨p,e,h1,q⟩=>zat7 hc pins s σ H xs us Q I v ⟨p,n::ns,zl2 n ns,e,h1,(zx3 ns n).1,(zx3 ns n).2,q⟩
theorem zal0:bootBuiltins "list"=some (.type "list"):=by decide +kernel
theorem vals_get:∀ {xs:List V}{us:List Value},xs.length=us.length→(∀(i:Nat) (x:V) (u:Value),xs[i]?=some x→us[i]?=some u→RelV x u)→Vals xs us
 |[],[],_,_=>.nil
 |[],_::_,h,_=>by simp at h
 |_::_,[],h,_=>by simp at h
 |x::xs,u::us,h,k=>.cons (k 0 x u rfl rfl) (vals_get (by simpa using h) fun i y w e1 e2=>k (i+1) y w (by simpa using e1) (by simpa using e2))
theorem zak6 {lo k:Int}{n:Nat}{acc:Array Value} (h:ItemsOf (fun i v => ∃t,v=.int (lo+i*k) t) acc n):Vals ((zay0 n).map fun i=>V.int (lo+(i:Nat)*k)) acc.toList:=by
 refine vals_get (by simp [h.1]) fun i x u e1 e2=>?_
 obtain⟨t,rfl⟩:=h.2 i u (by simpa using e2)
 have hi:i<n:=by
  cases Nat.lt_or_ge i n with
  |inl z=>exact z
  |inr z=>rw [zay1,zbd8 (by simpa using z)]at e1;cases e1
 rw [zay1,zbe5 hi]at e1
 simp at e1
 subst e1
 exact⟨t,rfl⟩
theorem zx4 {pins:List (Addr×Obj)}{σ:L2.St}{H:Hp}{s:zaw0}{Q:VK}{lo hi k:Int}{t u v:Tok}{tk:Nat} (hc:X.calm=true) (I:L2.Inv X pins σ H s) (ok:zs8 lo hi k=true) (sz:Builtin.Range.rangeSize lo hi k≤50000)
  (q:∀p,H p=none→Q (.ref p) (upd H p (.lst ((zay0 (Builtin.Range.rangeSize lo hi k).toNat).map fun i=>V.int (lo+(i:Nat)*k))))) :
  wpAny (model X.prog X.w) X.A (call (.type "list") [.ref s.heap.objs.size]) (EP X pins σ Q) X.xe { s with heap:=s.heap.push { cls:=.type "range",data:=.fields #[.int lo t,.int hi u,.int k v] },toks:=tk }:=by
 simp only [zs8,zav3,decide_eq_true_eq]at ok
 have I1:L2.Inv X pins σ H { s with heap:=s.heap.push { cls:=.type "range",data:=.fields #[.int lo t,.int hi u,.int k v] },toks:=tk }:=I.kept fun b o e=>zav8 _ e
 have en:Builtin.Range.rangeSize lo hi k=(((Builtin.Range.rangeSize lo hi k).toNat:Nat):Int):=by lia
 refine call_list_range (I.ok.hd hc) (IsRange.new ..) ok.1 en (by lia) fun h' tk' acc c' hk hS hacc=>?_
 refine⟨.ref _,_,I1.laid (o:=HO.lst ((zay0 (Builtin.Range.rangeSize lo hi k).toNat).map fun i=>V.int (lo+(i:Nat)*k))) (t':=tk') hk (zaw9 _) ⟨?_,acc.toList,c',zak6 hacc,by simpa using hS⟩,rfl,q _ I1.fresh⟩
 refine zl3 ?_
 rw [zaw6,List.length_range];lia
noncomputable def rArgs:List D→Option (Int×Int×Int)
 |[.int n]=>some (0,n,1)
 |[.int i,.int j]=>some (i,j,1)
 |[.int i,.int j,.int k]=>some (i,j,k)
 |_=>none
noncomputable def zw2 (g:DA):DE:=fun t=>(g t).bind fun rs=>(rArgs (rs.map Ev.d)).bind fun q=>if zs8 q.1 q.2.1 q.2.2&&decide (Builtin.Range.rangeSize q.1 q.2.1 q.2.2≤50000) then some (.nw (rng3 q.1 q.2.1 q.2.2)) else none
theorem zan5 {p0 p1 p2:Pos} (hc:X.calm=true) (hgl:Gl X "list") (hml:X.mg "list"=none) (hgr:Gl X "range") (hmr:X.mg "range"=none) (ha:PA X (a::es) (dA X.K F ga))
  (hst:zaw7 [.Call (.Name "range" p1) (a::es) [] p2] X.env=[(false,eval (.Call (.Name "range" p1) (a::es) [] p2) X.env)]:=by rfl)
  (hst1:zaw7 (a::es) X.env=(false,eval a X.env)::zaw7 es X.env:=by rfl) (hst2:(zbd6 p2 (zaw7 es X.env)).any (·.1)=false:=by rfl) :
  PE X (.Call (.Name "list" p0) [.Call (.Name "range" p1) (a::es) [] p2] [] pos) (dE X.K F (zw2 ga)):=by
 intro pins s σ H Q I h
 obtain⟨A,t,r,R,e,h⟩:=h
 unfold zw2 at e
 cases e1:ga t with
 |none=>rw [e1]at e;cases e
 |some rs =>
  rw [e1]at e
  simp only [zav0]at e
  cases e2:rArgs (rs.map Ev.d) with
  |none=>rw [e2]at e;cases e
  |some q =>
   rw [e2]at e
   simp only [zav0]at e
   split at e
   case isFalse=>cases e
   rename_i ok
   simp only [zav3,decide_eq_true_eq]at ok
   cases e
   have mk:∀(H1:Hp),Same H H1→∀p,H1 p=none→Q (.ref p) (upd H1 p (.lst ((zay0 (Builtin.Range.rangeSize q.1 q.2.1 q.2.2).toNat).map fun i=>V.int (q.1+(i:Nat)*q.2.2)))):=fun H1 g1 p hp=>by
    refine h _ _ (g1.trans (zc4 hp)) ⟨p,_,rfl,Same.free g1 hp,zb4,?_⟩
    have e3:rng3 q.1 q.2.1 q.2.2=((zay0 (Builtin.Range.rangeSize q.1 q.2.1 q.2.2).toNat).map fun i=>q.1+(i:Nat)*q.2.2).map D.int:=by simp [rng3]
    have e4:((zay0 (Builtin.Range.rangeSize q.1 q.2.1 q.2.2).toNat).map fun i=>V.int (q.1+(i:Nat)*q.2.2))=((zay0 (Builtin.Range.rangeSize q.1 q.2.1 q.2.2).toNat).map fun i=>q.1+(i:Nat)*q.2.2).map V.int:=by simp
    rw [e3,e4]
    exact Reps.ints _
   refine wpAny_Call_Name_kw (zo9 I hgl hml zal0 (PyProof.Rows.callWith_type1 ?_ (by rw [hst];rfl) rfl))
   rw [hst]
   show wpAny _ _ (spliced ((false,eval (.Call (.Name "range" p1) (a::es) [] p2) X.env)::zbd6 pos (zaw7 [] X.env))) _ _ s
   refine Calls.spliced_cons (Call_ (zo9 I hgr hmr boot_range (PyProof.Rows.callWith_type1 (thn (ha p2 pins s σ H (fun vs H1=>Same H H1∧RepEvs X.K F A H H1 rs vs) I ⟨A,t,rs,R,e1,fun vs H1 g1 q1=>⟨g1,q1⟩⟩) fun us s1 ⟨vs,H1,I1,r1,g1,q1⟩=>?_) hst1 hst2)))
   have full:=q1.full
   obtain⟨q0,qh,qk⟩:=q
   unfold rArgs at e2
   split at e2
   ·rename_i n z
    cases e2
    rw [z]at full
    have ev:=zh0 (ns:=[qh]) full
    subst ev
    obtain⟨u,rfl,ru⟩:=r1.one
    obtain⟨t1,rfl⟩:=ru
    exact call_range_1 (Calls.spliced_nil (zx4 hc I1 ok.1 ok.2 (mk H1 g1)))
   ·rename_i i j z
    cases e2
    rw [z]at full
    have ev:=zh0 (ns:=[q0,qh]) full
    subst ev
    obtain⟨u,w,rfl,ru,rw'⟩:=r1.two
    obtain⟨t1,rfl⟩:=ru
    obtain⟨t2,rfl⟩:=rw'
    exact call_range_2 (Calls.spliced_nil (zx4 hc I1 ok.1 ok.2 (mk H1 g1)))
   ·rename_i i j k z
    cases e2
    rw [z]at full
    have ev:=zh0 (ns:=[q0,qh,qk]) full
    subst ev
    cases r1 with
    |cons r rr =>
     cases rr with
     |cons r' rr =>
      cases rr with
      |cons r'' rr =>
       cases rr
       obtain⟨t1,rfl⟩:=r
       obtain⟨t2,rfl⟩:=r'
       obtain⟨t3,rfl⟩:=r''
       have ok':=ok.1
       simp only [zs8,zav3,decide_eq_true_eq]at ok'
       have lg:qk.natAbs.log2<9000:=zaz4 (zap3 (k:=20) (by have:=ok'.2.2.1;lia)) (by decide)
       exact call_range_3 ok'.2.1 (Calls.spliced_nil (zx4 hc I1 ok.1 ok.2 (mk H1 g1))) (.inl (PyProof.noPylong_of_log2 lg))
   ·cases e2
end
end DL
namespace DL
open PySem.Spec L2
section
variable {X:Cx}{F:List Addr}{a b c o:Expr}{es:List Expr}{fa fb fc:DE}{fs:List DE}{ga:DA}{g g1 g2:DS}{ft fu:DT}{pos:Pos}{st:Stmt}{rest:List Stmt}{tg:Expr}{gt:TG}{kt:D→Th→Option Th}
theorem get_list:PGet X (rIxL X.K):=by
 intro pins s σ H o i ov iv Q I ro ri h
 obtain⟨p,xs,k,z,rfl,rfl,hq,he,q⟩:=h
 cases ro
 obtain⟨t,rfl⟩:=ri
 obtain⟨its,r,pl,hz⟩:=I.list hq
 obtain⟨j,h1,h2,h3,h4,h5⟩:=zaf7 he
 obtain⟨w,ew,rw'⟩:=r.get h2
 have hl:=r.length
 have hn:=zv8
 have fin:EP X pins σ Q w s:=⟨z,H,I,rw',q⟩
 cases Int.lt_or_le k 0 with
 |inr h0 =>
  have hj:k.toNat=j:=Option.some.inj (by rw [← seqIndex_of h0 h5];exact h1)
  exact wpAny_getItem_list (PlainL.isL pl) h0 (by lia) (by rw [hj];simpa using ew) fin
 |inl h0 =>
  have hj:(k+(its.toArray.size:Int)).toNat=j:=by
   rw [zax1, ← hl]
   exact Option.some.inj (by rw [← seqIndex_neg h0 h4];exact h1)
  exact wpAny_getItem_list_neg (PlainL.isL pl) h0 (by rw [zax1];lia) (by lia) (by rw [hj];simpa using ew) fin
noncomputable def zap9 (f:Int→Int→Int) (t:Th) (i:Nat) (k r:Ev):Option Out:=match t[i]?,k.d,r.d with
 |some (.own xs),.int n,.int m=>(ixN xs.length n).bind fun j=>match xs[j]? with
  |some (.int v)=>some (.nx (t.set i (.own (xs.set j (.int (f v m))))))
  |_=>none
 |_,_,_=>none
def zak9 (f:Int→Int→Int) (i:Nat) (fk fe:DE):DS:=fun t=>(fk t).bind fun k=>(fe t).bind fun r=>zap9 f t i k r
theorem zah2 {op:Operator}{f:Int→Int→Int} (i:Nat) {x:Str}{p0 tpos:Pos} (ho:PIp X op (ipI f)) (hb:PE X b (dE X.K F fb)) (he:PE X a (dE X.K F fa)) (hN:X.N[i]?=some x:=by rfl) (hv:Vis X.env.scope x:=by first | exact Or.inl rfl | exact Or.inr (Or.inl rfl) |exact Or.inr (Or.inr rfl)) (hd:(x ==("__debug__":Str))=false:=by decide)
  (hcd:(x ==("__classdict__":Str))=false:=by decide) (ha:∀ov iv new,augStore b ov iv new=(do holding [new,ov,iv] (setItem ov iv new);release [new,ov,iv] [];pure .next):=by intros;rfl) :
  PS X (.AugAssign (.Subscript (.Name x p0) b tpos) op a pos) (dS X.K F (zak9 f i fb fa)):=by
 refine PS.imp (ps_augS (zv7 (i:=i) hN hv hd hcd) hb get_list he ho set_list ha) ?_
 rintro E σ H ⟨A,t,o,R,e,h⟩
 unfold zak9 at e
 cases e1:fb t with
 |none=>rw [e1]at e;cases e
 |some kk =>
  cases e2:fa t with
  |none=>rw [e1,e2]at e;cases e
  |some r =>
   rw [e1,e2]at e
   have e:zap9 f t i kk r=some o:=e
   unfold zap9 at e
   split at e
   case h_2=>cases e
   rename_i xs n m z1 z2 z3
   cases e3:ixN xs.length n with
   |none=>rw [e3]at e;cases e
   |some j =>
    rw [e3]at e
    simp only [zav0]at e
    split at e
    case h_2=>cases e
    rename_i v z4
    cases e
    obtain⟨p,vs,a1,a2,a3,a4⟩:=R.rel.getOwn z1
    obtain⟨v0,b1,b2⟩:=a4.get z4
    cases ze5 b2
    have ea:atI vs n=some (.int v):=by unfold L2.atI;rw [a4.length,e3];exact b1
    refine⟨_,a1,A,t,kk,R,e1,fun w H1 gs1 q1=>?_⟩
    have p1:=q1.full
    rw [z2]at p1
    cases ze5 p1
    refine⟨p,vs,n,.int v,rfl,rfl,SqL.of (gs1 _ _ a3),ea,A,t,r,R.grow gs1,e2,fun y H2 gs2 q2=>?_⟩
    have p2:=q2.full
    rw [z3]at p2
    cases ze5 p2
    have gs:=gs1.trans gs2
    refine⟨v,m,rfl,rfl,p,vs,n,j,rfl,rfl,gs _ _ a3,by rw [a4.length];exact e3,?_⟩
    obtain⟨R',g'⟩:=(R.grow gs).write (es:=xs.set j (.int (f v m))) (ws:=vs.set j (.int (f v m))) z1 a1 (Reps.set (.int _) j (Reps.mono (za8 gs) a4))
    exact h _ _ _ ((Gr.of_same R.mu.left gs).trans g') R'
end
end DL
namespace DL
open PySem.Spec L2
section
variable {X:Cx}{F:List Addr}{a b c o:Expr}{es:List Expr}{fa fb fc:DE}{fs:List DE}{ga:DA}{g g1 g2:DS}{ft fu:DT}{pos:Pos}{st:Stmt}{rest:List Stmt}{tg:Expr}{gt:TG}{kt:D→Th→Option Th}
def insI (n:Int):List Int→List Int
 |[]=>[n]
 |m::r=>if n≤m then n::m::r else m::insI n r
def zn9:List Int→List Int
 |[]=>[]
 |n::r=>insI n (zn9 r)
theorem zt7 (n:Int):∀r:List Int,(insI n r).Perm (n::r)
 |[]=>List.Perm.refl _
 |m::r=>by
  unfold insI
  split
  ·exact List.Perm.refl _
  ·exact (List.Perm.cons m (zt7 n r)).trans (List.Perm.swap n m r)
theorem zj9:∀r:List Int,(zn9 r).Perm r
 |[]=>List.Perm.refl _
 |n::r=>(zt7 n _).trans (List.Perm.cons n (zj9 r))
theorem zt6 (n:Int):∀r:List Int,r.Pairwise (·≤·)→(insI n r).Pairwise (·≤·)
 |[],_=>by simp [insI]
 |m::r,h=>by
  unfold insI
  have hc:=zbc0.mp h
  split
  ·rename_i hle
   refine zbc0.mpr ⟨fun x hx=>?_,h⟩
   rcases zav5.mp hx with rfl | z
   ·exact hle
   ·exact Int.le_trans hle (hc.1 x z)
  ·rename_i hle
   refine zbc0.mpr ⟨fun x hx=>?_,zt6 n r hc.2⟩
   rcases zav5.mp ((zt7 n r).mem_iff.mp hx) with rfl | z
   ·lia
   ·exact hc.1 x z
theorem zn8:∀r:List Int,(zn9 r).Pairwise (·≤·)
 |[]=>List.Pairwise.nil
 |n::r=>zt6 n _ (zn8 r)
theorem zs7:∀ {xs ys:List Int},xs.Perm ys→xs.Pairwise (·≤·)→ys.Pairwise (·≤·)→xs=ys
 |[],ys,p,_,_=>(List.Perm.nil_eq p)
 |x::xs,[],p,_,_=>absurd p.length_eq (by simp)
 |x::xs,y::ys,p,h1,h2=>by
  have c1:=zbc0.mp h1
  have c2:=zbc0.mp h2
  have e:x=y:=by
   have m1:x∈y::ys:=p.mem_iff.mp (zav1 ..)
   have m2:y∈x::xs:=p.mem_iff.mpr (zav1 ..)
   have l1:y≤x:=by rcases zav5.mp m1 with z | z;lia;exact c2.1 x z
   have l2:x≤y:=by rcases zav5.mp m2 with z | z;lia;exact c1.1 y z
   lia
  subst e
  rw [zs7 (List.Perm.cons_inv p) c1.2 c2.2]
theorem zac5:zq6 X (.builtin "sorted") (fun xs H Q => ∃(p:Addr) (ns:List Int),xs=[.ref p]∧SqL X.K H p (ns.map V.int)∧ns.length<64∧∀l,H l=none→Q (.ref l) (upd H l (.lst ((zn9 ns).map V.int)))):=by
 intro pins s σ H xs us Q I r h
 obtain⟨p,ns,rfl,hs,h64,q⟩:=h
 obtain⟨u,rfl,ru⟩:=zad4 r
 cases ru
 obtain⟨its,rv,pl,_⟩:=I.list hs
 have hi:IntsAre its ns:=zm2 rv
 have hl:=hi.length
 refine sorted_ints (PlainL.isL pl) hi (by lia) fun out ns' hI hp ho=>?_
 have e:ns'=zn9 ns:=zs7 (hp.trans (zj9 ns).symm) ho (zn8 ns)
 subst e
 obtain⟨k,ek⟩:=sortedAll_at s.heap its out
 have fr:s.heap.objs.size≤s.heap.objs.size+1:=zbl7 _
 refine⟨.ref _,_,I.laid (o:=HO.lst ((zn9 ns).map V.int)) (t':=s.toks) (fun b o e=>sortedAll_old e) fr ⟨?_,out.toList,k,zs6 hI,by simpa [seqObj] using ek⟩,rfl,q _ (I.hok.fresh fr)⟩
 refine zl3 ?_
 rw [zaw6,(zj9 ns).length_eq];lia
noncomputable def zaa6:List Ev→Option Ev:=fun rs=>match rs with
 |[r]=>(match r.d with
  |.lst ds=>(zk6 ds).bind fun ns=>if ns.length<64 then some (.nw ((zn9 ns).map D.int)) else none
  |_=>none)
 |_=>none
theorem cd_sortI:CallD X F (.builtin "sorted") zaa6:=CallD.of zac5 fun H0 H A xs rs e Q m g q ek hq=>by
 unfold zaa6 at ek
 split at ek
 case h_2=>cases ek
 cases q with
 |cons q1 q2 =>
  cases q2
  split at ek
  case h_2=>cases ek
  rename_i ds z
  cases e1:zk6 ds with
  |none=>rw [e1]at ek;cases ek
  |some ns =>
   rw [e1]at ek
   simp only [zav0]at ek
   split at ek
   case isFalse=>cases ek
   rename_i c
   cases ek
   have p:=q1.full
   rw [z,zp0 e1]at p
   cases p with
   |lst h1 h2 =>
    rw [zh0 h2]at h1
    exact⟨_,ns,rfl,h1,c,fun l hl=>hq _ _ (zc4 hl) ⟨l,_,rfl,Same.free g hl,zb4,Reps.ints _⟩⟩
end
end DL
namespace DL
open PySem.Spec L2
section
variable {X:Cx}{F:List Addr}{a b c o:Expr}{es:List Expr}{fa fb fc:DE}{ga:DA}{pos:Pos}
noncomputable def rIdx (K:zau7):V→List V→Hp→VK→Prop:=fun x vs H Q => ∃(l:Addr) (ns:List Int) (n:Int),x=.ref l∧vs=[.int n]∧SqL K H l (ns.map V.int)∧n∈ns∧ns.length≤100000∧Q (.int (ns.idxOf n:Nat)) H
theorem mt_index:MtR X "list.index" (rIdx X.K):=by
 intro pins s σ H x xs v us Q I rx rs h
 obtain⟨l,ns,n,rfl,rfl,hs,hn,hz,q⟩:=h
 cases rx
 obtain⟨u,rfl,ru⟩:=Vals.one rs
 obtain⟨t,rfl⟩:=ru
 obtain⟨its,rv,pl,_⟩:=I.list hs
 have hi:IntsAre its ns:=zm2 rv
 have hlen:=hi.length
 obtain⟨⟨cls,dd,data,sl⟩,ho,hc,m,hd⟩:=id (PlainL.isL pl)
 simp only at hc hd
 subst hc hd
 have hj:ns.idxOf n<ns.length:=List.idxOf_lt_length_iff.mpr hn
 refine call_meets zbg5 ⟨_,ho,rfl⟩ PySem.F.entry_list_index (PySem.F.args_list_index_2 _ _) (SeqAt.list_indexAt l its.toArray m dd sl (.int n t) (isInt n) (ns.idxOf n) (by simpa [hlen] using hj) (by lia) ?_ ?_)
  ⟨ho,fun y hy=>(eq_isInt n t hi y (by simpa using hy)).at _ _,⟨.int _,H,I.tok _,⟨_,rfl⟩,q⟩⟩
 ·show isInt n its[ns.idxOf n]=true
  rw [isInt_at n hi _ (by lia) hj]
  simpa using zbi7 hj
 ·intro j hjs hlt
  show isInt n its[j]=false
  rw [isInt_at n hi j (by simpa using hjs) (by lia)]
  exact ne_of_lt_idxOf hlt _
noncomputable def kIdx:Ev→Ev→Option Ev:=fun r1 r2=>match r1.d,r2.d with
 |.lst ds,.int n=>(zk6 ds).bind fun ns=>if ns.contains n&&decide (ns.length≤100000) then some (.cl (.int (ns.idxOf n:Nat))) else none
 |_,_=>none
theorem zan6 {apos cpos:Pos} (ha:PE X a (dE X.K F fa)) (hb:PE X b (dE X.K F fb)) (hst:zaw7 [b] X.env=[(false,eval b X.env)]:=by rfl)
  (hbase:attributeBase a "index" X.env (eval a X.env)=eval a X.env:=by rfl)
  (hfew:((zbd6 cpos (zaw7 [b] X.env)).all (fun x=>!x.1)&&(backToKw cpos (keywordEach [] X.env)).all (fun x=>x.1.isSome)
   && decide ([b].length+([]:List Keyword).length+(if ([]:List Keyword).isEmpty then 0 else 1)<30))=true:=by rfl)
  (hline:(apos.endLine == cpos.line)=true:=by rfl) (hplain:(zbd6 cpos (zaw7 [] X.env)).any (·.1)=false:=by rfl):PE X (.Call (.Attribute a "index" apos) [b] [] cpos) (dE X.K F (d2 kIdx fa fb)):=by
 refine PE.imp (pe_bm zbg4 zbg5 PySem.F.type_list_index mt_index ha (zi7 hb zo5 hst) hbase hfew hline hst hplain) ?_
 intro σ H Q h
 obtain⟨A,t,r1,r2,r,R,e1,e2,e,h,w⟩:=two h
 unfold kIdx at e
 split at e
 case h_2=>cases e
 rename_i ds n z1 z2
 cases e3:zk6 ds with
 |none=>rw [e3]at e;cases e
 |some ns =>
  rw [e3]at e
  simp only [zav0]at e
  split at e
  case isFalse=>cases e
  rename_i ok
  simp only [zav3,decide_eq_true_eq,List.contains_iff_mem]at ok
  cases e
  refine⟨A,t,r1,R,e1,fun u H1 gs q=>?_⟩
  have p:=q.full
  rw [z1,zp0 e3]at p
  cases p with
  |@lst _ l vs h1 h2 =>
   rw [zh0 h2]at h1
   refine⟨.inl ⟨rfl,_,h1⟩,A,t,r2,R.grow gs,e2,fun u2 H2 gs2 q2=>?_⟩
   have p2:=q2.full
   rw [z2]at p2
   cases ze5 p2
   exact⟨l,ns,n,rfl,rfl,SqL.mono gs2 h1,ok.1,ok.2,h _ H2 (gs.trans gs2) (.int _)⟩
end
end DL
namespace L2
open PySem.W
def bndS:Nat:=2 ^ 1048576
theorem zv4:∀ {ns:List Int}{n:Int},n∈ns→WData.weight (.int n)≤WData.weightAll (ns.map WData.int)
 |m::r,n,h=>by
  rw [zav6]
  unfold WData.weightAll
  rcases zav5.mp h with rfl | z
  ·lia
  ·have:=zv4 z;lia
theorem bnd_of {ns:List Int} (h:WData.layableAll [WData.list (ns.map WData.int)]=true):∀n∈ns,n.natAbs<bndS:=fun n hn=>by
 have h1:WData.layable (WData.list (ns.map WData.int))=true:=by simpa [WData.layableAll] using h
 have h2:WData.weight (WData.list (ns.map WData.int))≤2 ^ 20:=by
  unfold WData.layable at h1
  simp only [zav3,decide_eq_true_eq]at h1
  exact h1.2
 have h3:WData.weight (.int n)≤2 ^ 20:=by
  refine zax3 (zv4 hn) ?_
  have e:WData.weight (WData.list (ns.map WData.int))=WData.weightAll (ns.map WData.int):=by simp [WData.weight]
  rw [← e];exact h2
 by_cases z:n=0
 ·subst z;unfold bndS;exact Nat.pow_pos (by decide)
 ·have h4:n.natAbs.log2+1≤2 ^ 20:=by
   have:WData.weight (.int n)=n.natAbs.log2+1:=by simp [WData.weight,z]
   rw [← this];exact h3
  have h5:n.natAbs.log2<1048576:=by lia
  exact (Nat.log2_lt (by lia)).mp h5
end L2
namespace DL
open PySem.Spec L2
noncomputable def spM (K:zau7) (G:List D→Option Ev):Sp:=fun vs H Q _ => ∃(Fo:List Addr) (p:Addr) (ws vs':List V) (xs ds:List D) (d:D),vs=.ref p::vs'∧Lists H (p::Fo)∧p∉Fo∧H p=some (.lst ws)∧Reps K (hide (p::Fo) H) xs ws∧Reps K (hide (p::Fo) H) ds vs'∧G (.lst xs::ds)=some (.cl d)∧scD d=true ∧
 ∀v H',(∀b o,b≠p→H b=some o→H' b=some o)→H' p≠none→(∀Hx,Rep K Hx d v)→Q v H'
structure CalM (P:Program) (w:World) (K:zau7) (mg:Str→Option Value) (base:BHeap) (x:Str) (k:Nat) (G:List D→Option Ev):Prop where
 ex:∃(a:Addr) (fd:FuncData) (ps:List Str),mg x=some (.ref a)∧zaz0 K (.ref a)=true∧L2.Binds K fd ps []∧FnOk P w K mg base CX0 k a fd ps (spM K G)
def sV:D→V
 |.bl b=>.bl b
 |.int i=>.int i
 |.str x=>.str x
 |_=>.non
def keyD:D→Option Key
 |.int i=>some (Sum.inl i)
 |.str x=>some (Sum.inr x)
 |_=>none
theorem rep_sc {K:zau7}{H:Hp}{d:D}{v:V} (r:Rep K H d v) (s:scD d=true):v=sV d:=by
 cases r with
 |non=>rfl
 |bl b=>rfl
 |int i=>rfl
 |str x=>rfl
 |tup _ _=>cases s
 |lst _ _=>cases s
 |dct _ _ _=>cases s
 |pdc _=>cases s
theorem sc_rep {K:zau7}{H:Hp}:∀ {d:D},scD d=true→Rep K H d (sV d)
 |.non,_=>.non
 |.bl b,_=>.bl b
 |.int i,_=>.int i
 |.str x,_=>.str x
 |.tup _,s=>by cases s
 |.lst _,s=>by cases s
 |.dct _ _,s=>by cases s
 |.pdc _,s=>by cases s
theorem sc_flatD:∀ {d:D},scD d=true→flat d=true
 |.non,_=>rfl
 |.bl b,_=>rfl
 |.int i,_=>rfl
 |.str x,_=>rfl
 |.tup _,s=>by cases s
 |.lst _,s=>by cases s
 |.dct _ _,s=>by cases s
 |.pdc _,s=>by cases s
theorem zag4 {K:zau7}{H0 H:Hp}:∀ {ds:List D},ds.all scD=true→RepDs K H0 H ds (ds.map sV) []
 |[],_=>.nil
 |d::ds,s=>by
  simp only [zba0,zav3]at s
  exact .cons (B:=[]) (C:=[]) (.flat (sc_flatD s.1) (sc_rep s.1)) (zag4 s.2)
def zab4:List Key→List D→Key→Option D
 |k'::ks,d::ds,k=>if k'=k then some d else zab4 ks ds k
 |_,_,_=>none
def hasK (ks:List Key) (k:Key):Bool:=ks.any fun k'=>decide (k'=k)
noncomputable def zh1 (ks:List Key) (ds:List D) (k:Key) (d:D):List Key×List D :=
 if hasK ks k then (ks,zbf9 (fun k' d'=>if k'=k then d else d') ks ds) else (ks++[k],ds++[d])
theorem zx8 (k:Key):∀ {ks:List Key}{vs:List V},ks.length=vs.length→(valV (mkKV ks vs) k).isSome=hasK ks k
 |[],[],_=>rfl
 |k'::ks,d::ds,h=>by
  have i:=zx8 k (ks:=ks) (vs:=ds) (by simpa using h)
  unfold mkKV hasK at i ⊢
  simp only [zbb0,zba1]
  by_cases e:k'=k
  ·rw [zn6 (p:=(k',d)) e,decide_eq_true e];rfl
  ·rw [zn7 (p:=(k',d)) e,decide_eq_false e,i];rfl
 |[],_::_,h=>by simp at h
 |_::_,[],h=>by simp at h
section
variable {X:Cx}{F:List Addr}{a b c o:Expr}{es:List Expr}{fa fb fc:DE}{ga:DA}{pos:Pos}
def dNewD:DE:=fun _=>some (.dn (.dct [] []))
theorem ped_newD:PE X (.Dict [] [] pos) (dE X.K F dNewD):=by
 refine PE.imp pe_dnewK ?_
 rintro σ H Q ⟨A,t,r,R,e,h⟩
 cases e
 intro p hp
 refine h _ _ (zc4 hp) ⟨[p],by simp,fun b hb=>by simp at hb;subst hb;exact hp,.dct (vs:=[]) rfl zb4 .nil⟩
noncomputable def kInD (neg:Bool):Ev→Ev→Option Ev:=fun r1 r2=>match r2.d with
 |.dct ks ds=>(keyD r1.d).map fun k=>.cl (.bl (if neg then !hasK ks k else hasK ks k))
 |_=>none
theorem zx7 {K:zau7}{H:Hp}{d:D}{v:V}{k:Key} (r:Rep K H d v) (e:keyD d=some k):v=kV k:=by
 cases r<;>cases e<;>rfl
theorem zao2 (hu:X.A.units+64<cLine):OpD X F (compareOp .NotIn) (kInD true):=by
 intro pins s σ H0 H A x y v u Q r1 r2 r I m g0 rx ry q1 q2 e hq
 unfold kInD at e
 split at e
 case h_2=>cases e
 rename_i ks ds z
 cases ek:keyD r1.d with
 |none=>rw [ek]at e;cases e
 |some k =>
  rw [ek]at e
  cases e
  have p1:=zx7 q1.full ek
  have p2:=q2.full
  rw [z]at p2
  cases p2 with
  |@dct _ _ p vs l h1 h2 =>
   subst p1
   cases (show u=Value.ref p from ry)
   refine d_notIn (by lia) I (DGet.k h1) rx fun s' I'=>?_
   rw [zx8 k l]
   exact⟨.bl _,H,I',rfl,hq _ H (Same.refl H) (.bl _)⟩
noncomputable def kLenD:List Ev→Option Ev:=fun rs=>match rs with
 |[r]=>(match r.d with
  |.dct ks _=>some (.cl (.int ks.length))
  |_=>none)
 |_=>none
theorem cd_lenD:CallD X F (.builtin "len") kLenD:=CallD.of zat8 fun H0 H A xs rs e Q m g q ek hq=>by
 unfold kLenD at ek
 split at ek
 case h_2=>cases ek
 rename_i r
 split at ek
 case h_2=>cases ek
 rename_i ks ds z
 cases ek
 cases q with
 |cons q1 q2 =>
  cases q2
  have p:=q1.full
  rw [z]at p
  cases p with
  |@dct _ _ p vs l h1 h2 =>
   refine⟨p,_,rfl,h1,?_⟩
   have:(mkKV ks vs).length=ks.length:=by unfold mkKV;rw [zbc2];lia
   rw [this]
   exact hq _ H (Same.refl H) (.int _)
theorem put_zip (k:Key) (d:D) {ks:List Key}{ds:List D} (h:ks.length=ds.length):putK (mkKV ks (ds.map sV)) k (sV d)=mkKV (zh1 ks ds k d).1 ((zh1 ks ds k d).2.map sV)∧(zh1 ks ds k d).1.length=(zh1 ks ds k d).2.length:=by
 have ha:(mkKV ks (ds.map sV)).any (fun kv=>decide (kv.1=k))=hasK ks k:=by
  rw [zw4,zx8 k (by simpa using h)]
 unfold putK zh1
 rw [ha]
 by_cases hc:hasK ks k=true
 ·rw [if_pos hc,if_pos hc]
  refine⟨?_,by simp;lia⟩
  clear hc ha
  unfold mkKV
  induction ks generalizing ds with
  |nil=>simp
  |cons k' ks ih =>
   cases ds with
   |nil=>simp at h
   |cons d' ds =>
    have i:=ih (ds:=ds) (by simpa using h)
    simp only [zav6,zbb0,zaz2,i]
    by_cases e:k'=k
    ·simp [e]
    ·simp [e]
 ·rw [if_neg hc,if_neg hc]
  refine⟨?_,by simp;lia⟩
  unfold mkKV
  rw [zbc3,List.zip_append (by simpa using h)]
  rfl
theorem put_sc {ks:List Key}{k:Key}{d:D} (sd:scD d=true):∀ {ds:List D},ds.all scD=true→(zh1 ks ds k d).2.all scD=true:=fun {ds} s=>by
 unfold zh1
 split
 ·show (zbf9 _ ks ds).all scD=true
  rename_i hc
  clear hc
  induction ks generalizing ds with
  |nil=>simp
  |cons k' ks ih =>
   cases ds with
   |nil=>simp
   |cons d' ds =>
    simp only [zba0,zav3]at s
    simp only [zaz2,zba0,zav3]
    refine⟨?_,ih s.2⟩
    split
    ·exact sd
    ·exact s.1
 ·show (ds++[d]).all scD=true
  rw [List.all_append,s]
  simp [sd]
end
end DL
namespace DL
open PySem.Spec L2
section
variable {X:Cx}{F:List Addr}{a b c o:Expr}{es:List Expr}{fa fb fc:DE}{ga:DA}{pos pos1:Pos}
noncomputable def spP (G:List (Int×Int)→List Int→Option (List (Int×Int))):Sp:=fun vs H Q _ => ∃(p:Addr) (ps ps':List (Int×Int)) (ns:List Int),vs=.ref p::ns.map V.int∧H p=some (.dT (pkv ps))∧G ps ns=some ps' ∧
 ∀H',(∀b o,b≠p→H b=some o→H' b=some o)→H' p=some (.dT (pkv ps'))→Q .non H'
structure CalP (P:Program) (w:World) (K:zau7) (mg:Str→Option Value) (base:BHeap) (x:Str) (k:Nat) (G:List (Int×Int)→List Int→Option (List (Int×Int))):Prop where
 ex:∃(a:Addr) (fd:FuncData) (ps:List Str),mg x=some (.ref a)∧zaz0 K (.ref a)=true∧L2.Binds K fd ps []∧FnOk P w K mg base CX0 k a fd ps (spP G)
end
end DL
namespace DL
open PySem.Spec L2
def cmpI (mx:Bool) (i j:Int):Bool:=if mx then decide (i > j) else decide (i<j)
def lexI (mx:Bool):List Int→List Int→Bool
 |i::r,j::q=>if decide (i=j) then lexI mx r q else cmpI mx i j
 |_,_=>false
noncomputable def cmpD (mx:Bool):D→D→Option Bool
 |.int i,.int j=>some (cmpI mx i j)
 |.tup xs,.tup ys=>(zk6 xs).bind fun is=>(zk6 ys).bind fun js=>if is.length=js.length then some (lexI mx is js) else none
 |_,_=>none
def pD (K:zau7) (mx:Bool):V→V→Hp→Bool→Prop:=fun y z H c => ∃d e,Rep K H d y∧Rep K H e z∧cmpD mx d e=some c
noncomputable def zau1 (mx:Bool) (fb:DE) (cs:List D):D→D→List D→Option D
 |b,_,[]=>some b
 |b,k,d::ds=>(fb (.val d::cs.map Sl.val)).bind fun r=>if flat r.d then (cmpD mx r.d k).bind fun c=>if c then zau1 mx fb cs d r.d ds else zau1 mx fb cs b k ds else none
noncomputable def dKey (mx:Bool) (cap:List Nat) (fa fb:DE):DE:=fun t=>(fa t).bind fun r=>(capD t cap).bind fun c=>match r.d with
 |.lst (d::ds)=>if (zk6 (d::ds)).isSome then (fb (.val d::c.2.map Sl.val)).bind fun k=>if flat k.d then (zau1 mx fb c.2 d k.d ds).map Ev.cl else none else none
 |_=>none
end DL
namespace L2
open PySem.Spec PySem.W
def lamOf (x:Str):Str:=x++".<locals>."++"<lambda>"
theorem zaa4 {β:Type}:∀ {l:List (Nat×β)}{a:Nat}{o:β},l.lookup a=some o→(a,o)∈l
 |[],_,_,e=>by cases e
 |(b,x)::r,a,o,e=>by
  rw [zax5]at e
  cases hb:a == b with
  |true=>rw [hb]at e;cases e;rw [eq_of_beq hb];exact .head _
  |false=>rw [hb]at e;exact .tail _ (zaa4 e)
def tbOf (K:Frag) (names:List Str):List (Addr×Str):=names.filterMap fun x=>(tabIn K x).map fun q=>(q.2,lamOf x)
theorem of_tbOf {K:Frag}{names:List Str}{p:Addr×Str} (h:p∈tbOf K names):∃x∈names,∃c,tabIn K x=some (c,p.1):=by
 obtain⟨x,hx,e⟩:=zbf2.mp h
 cases q:tabIn K x with
 |none=>rw [q]at e;cases e
 |some r=>rw [q]at e;cases e;exact⟨x,hx,r.1,q⟩
def TbOk (K:Frag) (names:List Str):Prop := ∀p∈tbOf K names,(tbOf K names).lookup p.1=some p.2∧K.lookup p.1=none
theorem tbOk_nil {K:Frag}:TbOk K []:=fun p hp=>by cases hp
theorem zap6 {P:Program}{w:World}{K:Frag}{mg mb:Str→Option Value}{CX:CXT}{k:Nat}{fa a:Addr}{fd:FuncData}{x:Str}{sp:Sp}{s₁:zaw0}{vs:List Value}{ns:List Int}{names:List Str}
  (KX:K.In s₁.heap) (hns:s₁.heap.Ns mainGlobals mg) (hb:s₁.heap.Ns builtinsNs mb) (hbb:∀x:Str,x≠"__name__"→mb x=bootBuiltins x) (hlim:s₁.heap.NoLimit)
  (hbm:∃(bm:Addr) (ob:Obj),mg "__builtins__"=some (.ref bm)∧bm≠builtinsNs∧s₁.heap.get? bm=some ob∧ob.cls=.type "module"∧ob.dict=some builtinsNs∧ob.data=.plain) (hg:s₁.gens = #[])
  (ha:s₁.heap.get? a=some { cls:=.type "list",data:=.seq vs.toArray }) (hi:IntsAre vs ns) (hl:ns.length≤sizeLine) (hr:Room k callerA)
  (hT:∀x∈names,∀c P,tabIn K x=some (c,P)→CodeHd s₁.heap c P∧s₁.heap.get? P=some (tabObj #[])) (hn:TbOk K names)
  (F:∀base:BHeap,base.tabs=tbOf K names→K.In base→base.Ns mainGlobals mg→(∀x∈names,∀c P,tabIn K x=some (c,P)→CodeHd base c P)→FnOk P w K mg base CX k fa fd [x] sp)
  (hbind:∀(s:zaw0) (u:Value),BindsTo s fd ⟨[u],[]⟩ [(x,u)]) (hsp:∀H:Hp,SqL K H a (ns.map V.int)→sp [.ref a] H (fun v _=>v=.bl true) fun _ _ _=>False)
  (hCX:∀H e s',CX [] H s₁ (fun _ _ _=>False) e s'→False) :
  codeAny (model P w) callerA (.call (.ref fa) ⟨[.ref a],[]⟩) (fun r s'=>r=.ok (.ret (.bool true))∧OldK s₁.heap s'.heap∧s'.os=s₁.os∧AllBare s'.gens) s₁:=by
 have rv:=zs6 hi
 have lenV:=hi.length
 have tabH:∀p∈tbOf K names,∃c,CodeHd s₁.heap c p.1∧s₁.heap.get? p.1=some (tabObj #[]):=fun p hp=>by
  obtain⟨y,hy,c,e⟩:=of_tbOf hp
  exact⟨c,hT y hy c p.1 e⟩
 have core:∀H:Hp,SqL K H a (ns.map V.int)→HOk P w H s₁.heap→(∀p∈tbOf K names,H p.1=some (.tbl p.2)) →
   (∀b o,H b=some o→(b=a∧K.lookup a=none∧∃ob xs,o=.frz ob (.lst xs))∨∃q,o=.tbl q∧(b,q)∈tbOf K names) →
   codeAny (model P w) callerA (.call (.ref fa) ⟨[.ref a],[]⟩) (fun r s'=>r=.ok (.ret (.bool true))∧OldK s₁.heap s'.heap∧s'.os=s₁.os∧AllBare s'.gens) s₁:=by
  intro H hS hok hTB hH
  have free:∀ {b:Addr}{o:Obj},s₁.heap.get? b=some o→(o.cls=.type "list"→False)→o≠tabObj #[]→H b=none:=fun {b o} e n1 n2=>by
   cases q:H b with
   |none=>rfl
   |some u =>
    rcases hH b u q with ⟨rfl,_⟩ | ⟨qq,rfl,hm⟩
    ·rw [ha]at e;cases e;exact (n1 rfl).elim
    ·obtain⟨c,_,e2⟩:=tabH _ hm
     have e2:s₁.heap.get? b=some (tabObj #[]):=e2
     rw [e]at e2;cases e2;exact (n2 rfl).elim
  have nsK:∀ {b:Addr}{m:Str→Option Value},s₁.heap.Ns b m→(hidT s₁.heap H).Ns b m:=fun {b m} ⟨o,es,ep,e,d,r⟩=>⟨o,es,ep,zs3 e (by
   cases q:H b with
   |none=>rfl
   |some u =>
    rcases hH b u q with ⟨rfl,_⟩ | ⟨qq,rfl,hm⟩
    ·rw [ha]at e;cases e;cases d
    ·obtain⟨c,_,e2⟩:=tabH _ hm
     have e2:s₁.heap.get? b=some (tabObj #[]):=e2
     rw [e]at e2;cases e2;cases d),d,r⟩
  have hKb:K.In (hidT s₁.heap H):=fun b o e=>zs3 (KX b o e) (by
   cases q:H b with
   |none=>rfl
   |some u =>
    rcases hH b u q with ⟨rfl,n,_⟩ | ⟨qq,rfl,hm⟩
    ·rw [n]at e;cases e
    ·have n:K.lookup b=none:=(hn _ hm).2
     rw [n]at e;cases e)
  have hM:Mod K mg ⟨hidT s₁.heap H,tbOf K names⟩:=⟨hKb,nsK hns,⟨mb,nsK hb,hbb⟩,let ⟨mc,h1,h2⟩:=hlim;⟨mc,nsK h1,h2⟩,by
   obtain⟨bm,ob,b1,b2,b3,b4,b5,b6⟩:=hbm
   exact⟨bm,ob,b1,b2,zs3 b3 (free b3 (fun z=>by rw [b4]at z;simp at z) fun z=>by rw [z]at b4;cases b4),b4,b5,b6⟩⟩
  have hCd:∀x∈names,∀c P,tabIn K x=some (c,P)→CodeHd (hidT s₁.heap H) c P:=fun x hx c P e=>by
   obtain⟨⟨o,vs,file,tf,flags,tg,inF,text,tt,e1,r1,r⟩,_⟩:=hT x hx c P e
   exact⟨o,vs,file,tf,flags,tg,inF,text,tt,zs3 e1 (free e1 (fun z=>by rw [r1]at z;simp at z) fun z=>by rw [z]at r1;cases r1),r1,r⟩
  have e0:Env0 P w K mg ⟨hidT s₁.heap H,tbOf K names⟩ callerA [] s₁ H:=⟨rfl,hM,fun b o e=>of_hidT e,Nat.le_of_eq (zaq2 _ _),trivial,fun b hb=>absurd (show b∈([]:List Addr) from hb) (by simp),hok,.of_eq hg,hTB⟩
  refine codeAny_mono ((F ⟨hidT s₁.heap H,tbOf K names⟩ rfl hKb (nsK hns) hCd).run callerA [] s₁ H ⟨[.ref a],[]⟩ [.ref a] [.ref a] _ _ hr e0 (hbind s₁ (.ref a)) (.cons rfl .nil) (hsp H hS)) fun r s' h=>?_
  cases r with
  |error e=>exact (hCX H e s' h).elim
  |ok fl =>
   cases fl with
   |next=>exact False.elim h
   |brk=>exact False.elim h
   |cont=>exact False.elim h
   |ret u =>
    obtain⟨v,H',os,bare,un,hok',r',q⟩:=h
    have q':v=.bl true:=q
    subst q'
    obtain rfl:u=Value.bool true:=r'
    have kp:∀b o,s₁.heap.get? b=some o→s'.heap.get? b=some o∨∃qq,H b=some (.tbl qq):=fun b o e=>by
     cases q:H b with
     |none=>exact .inl (un.keep b o e q (by intro z;exact absurd (show b∈([]:List Addr) from z) (by simp)) (by simp))
     |some u =>
      rcases hH b u q with ⟨rfl,_,ob,xs,rfl⟩ | ⟨qq,rfl,hm⟩
      ·obtain⟨e1,_⟩:=hok b _ q
       obtain⟨e2,_⟩:=hok' b _ (un.frzs b ob _ q)
       rw [e]at e1;cases e1
       exact .inl e2
      ·exact .inr ⟨qq,rfl⟩
    refine⟨rfl,⟨fun b o e=>?_,fun b o e=>?_⟩,os,bare⟩
    ·rcases kp b o e with z | ⟨qq,z⟩
     ·exact .inl z
     ·rcases hH b _ z with ⟨_,_,ob,xs,z2⟩ | ⟨q2,z2,hm⟩
      ·cases z2
      ·obtain⟨c,C,e2⟩:=tabH _ hm
       have e2:s₁.heap.get? b=some (tabObj #[]):=e2
       rw [e]at e2
       cases e2
       obtain⟨ps,e3,_⟩:=hok' b _ (un.tbls b _ z)
       have C:CodeHd s₁.heap c b:=C
       exact .inr (.inl ⟨(C.tab e).isCodeTable,rfl, #[],ps,rfl,by simpa using e3⟩)
    ·rcases kp b o e with z | ⟨qq,z⟩
     ·exact⟨o,z⟩
     ·obtain⟨ps,e3,_⟩:=hok' b _ (un.tbls b _ z)
      exact⟨_,e3⟩
 have tabO:∀(H:Hp) (p:Addr×Str),p∈tbOf K names→ObjOk P w H s₁.heap p.1 (.tbl p.2):=fun H p hp=>by
  obtain⟨c,_,e⟩:=tabH p hp
  exact⟨#[],e,trivial,fun pos cv z=>by cases z⟩
 have lk:∀b q,(tbOf K names).lookup b=some q→(b,q)∈tbOf K names:=fun b q e=>zaa4 e
 have aT:∀q,(a,q)∈tbOf K names→False:=fun q hm=>by
  obtain⟨c,_,e⟩:=tabH _ hm
  have e:s₁.heap.get? a=some (tabObj #[]):=e
  rw [ha]at e;cases e
 cases hk:K.lookup a with
 |some o =>
  have e:=KX a o hk
  rw [ha]at e
  cases e
  refine core (fun b=>((tbOf K names).lookup b).map HO.tbl) (.inr ⟨_,vs.toArray,_,hk,rfl,rfl,rfl,by rw [zax1,lenV];exact hl,by simpa using rv⟩) (fun b u z=>?_) (fun p hp=>by simp only [(hn p hp).1,zay6]) fun b u z=>?_
  ·cases q:(tbOf K names).lookup b with
   |none=>simp only [q]at z;cases z
   |some qq=>simp only [q]at z;cases z;exact tabO _ _ (lk b qq q)
  ·cases q:(tbOf K names).lookup b with
   |none=>simp only [q]at z;cases z
   |some qq=>simp only [q]at z;cases z;exact .inr ⟨qq,rfl,lk b qq q⟩
 |none =>
  refine core (fun b=>if b=a then some (.frz { cls:=.type "list",data:=.seq vs.toArray } (.lst (ns.map V.int))) else ((tbOf K names).lookup b).map HO.tbl) (.inl (.inr ⟨{ cls:=.type "list",data:=.seq vs.toArray },if_pos rfl⟩)) (fun b u z=>?_) (fun p hp=>?_) fun b u z=>?_
  ·by_cases hb:b=a
   ·have z':=(if_pos hb).symm.trans z
    cases z'
    subst hb
    exact⟨ha,by rw [zaw6];exact hl,vs,_,rv,ha⟩
   ·have z':=(if_neg hb).symm.trans z
    cases q:(tbOf K names).lookup b with
    |none=>simp only [q]at z';cases z'
    |some qq=>simp only [q]at z';cases z';exact tabO _ _ (lk b qq q)
  ·have:p.1≠a:=fun e=>aT p.2 (by rw [← e];exact hp)
   simp only [this,if_false,(hn p hp).1,zay6]
  ·by_cases hb:b=a
   ·have z':=(if_pos hb).symm.trans z
    cases z'
    exact .inl ⟨hb,hk,_,_,rfl⟩
   ·have z':=(if_neg hb).symm.trans z
    cases q:(tbOf K names).lookup b with
    |none=>simp only [q]at z';cases z'
    |some qq=>simp only [q]at z';cases z';exact .inr ⟨qq,rfl,lk b qq q⟩
end L2
namespace L2
open PySem.W
theorem walk_ofT {l:zbk5}{n k:Nat}{q:Program}{loose:List Str}{XP:(Str→Option Value)→Heap→Prop}{YP:World→Heap→Prop}{d:DefRec}{K:Params→zau7}{CX:World→CXT}{sp:World→Sp}{x:Str}{names:List Str}
  (hn:l.most=some n) (hn2:n≤sizeLine) (hdf:d.params.defaults=[]) (hr:Room k callerA)
  (hY:∀(w:World) (h:Heap),YP w h→(K w.params).In h) (hrec:∀x∈names,∃dr,(recsOf q).find? (fun e=>e.name == x)=some dr)
  (F:∀(w:World) (mg:Str→Option Value) (fa:Addr) (h:Heap),(K w.params).In h→h.Ns mainGlobals mg→mg d.name=some (.ref fa) →
   TbOk (K w.params) names∧∃fd:FuncData,(∀(s:zaw0) (u:Value),BindsTo s fd ⟨[u],[]⟩ [(x,u)]) ∧
    ∀base:BHeap,base.tabs=tbOf (K w.params) names→(K w.params).In base→base.Ns mainGlobals mg→(∀x∈names,∀c P,tabIn (K w.params) x=some (c,P)→CodeHd base c P)→FnOk l.prog w (K w.params) mg base (CX w) k fa fd [x] (sp w))
  (hsp:∀(w:World) (H:Hp) (a:Addr) (ns:List Int),ns.length≤n→(∀i∈ns,i.natAbs<bndS)→SqL (K w.params) H a (ns.map V.int)→sp w [.ref a] H (fun v _=>v=.bl true) fun _ _ _=>False)
  (hCX:∀(w:World) (H:Hp) (s:zaw0) (e:Value) (s':zaw0),CX w [] H s (fun _ _ _=>False) e s'→False) :
  zbo0 q loose XP YP l.row.toRowW d [] (fun f vs=>PySem.call f vs):=by
 intro w s₀ s₁ mg mb G Y fa o pm cd doc dV kV ho hd hcd hD hmg hg args vals as hpre hlay hrd hwl hlo
 obtain rfl:dV=.none:=Dflts.none hD hdf
 obtain rfl:kV=.none:=Dflts.noKw hD
 obtain⟨a,vs,ns,rfl,rfl,hobj,hints,hlen⟩:=Att.script_of hn hpre hwl
 have hb:=bnd_of hlay
 have KX:=hY w _ Y
 obtain⟨hok,fd,hbd,hF⟩:=F w mg fa _ KX G.T.g hmg
 refine enter_call (codeAny_mono (zap6 KX G.T.g G.T.b G.T.builtins G.T.nolimit G.T.bmain hg hobj hints (zax3 hlen hn2) hr (fun x hx c P e=>by
  obtain⟨dr,h⟩:=hrec x hx
  exact tab_of G.T KX h e) hok hF hbd (fun H hS=>hsp w H a ns hlen hb hS) fun H e s'=>hCX w H s₁ e s') fun r s' hq=>?_)
 obtain⟨rfl,h2,h3,h4⟩:=hq
 exact⟨.inl ⟨.bool true,.bool true,[],rfl,fun _=>rfl,.bool true,Att.post_true l _,fun _=>⟨List.Pairwise.nil,fun _ hm=>(nomatch hm)⟩⟩,h2,h3,h4⟩
end L2
namespace DL
open PySem.Spec L2
def isSt:Expr→Bool
 |.Starred _ _=>true
 |_=>false
theorem zh4 {a:Expr}{es:List Expr}{env:Env} (h:isSt a=false):zaw7 (a::es) env=(false,eval a env)::zaw7 es env:=by
 cases a<;>first | rfl | cases h
theorem RS.less {K:zau7}{F F' A:List Addr}{H:Hp}{t:Th}{σ:L2.St} (R:RS K F H A t σ) (h:∀b∈F',b∈F):RS K F' H A t σ :=
 ⟨fun p hp=>R.mu p ((zav2.mp hp).elim (zau9 _) fun z=>zau6 _ (h p z)),R.nd,fun p hp z=>R.dj p hp (h p z),
  RSl.mono (za7 H fun x hx=>(zav2.mp hx).elim (zau9 _) fun z=>zau6 _ (h x z)) R.rel fun _ _ _ w=>w⟩
theorem RSl.loseDp {K:zau7}{H0 H:Hp}:∀ {t:Th}{σ:L2.St}{A:List Addr},RSl K H0 H t σ A→A.Nodup→∀ {i:Nat}{d:D},t[i]?=some (.dp d)→∃v B A',σ[i]?=some (some v)∧RepD K H0 H d v B∧RSl K H0 H (t.set i .no) σ A'∧(∀x∈A',x∈A)∧(∀x∈B,x∈A)∧(∀x∈A,x∈B∨x∈A')∧B.Nodup∧A'.Nodup∧(∀x∈A',x∉B):=by
 intro _ _ _ h
 induction h with
 |nil =>
  intro n i d e
  simp at e
 |@no _ _ _ _ r ih =>
  intro n i d e
  cases i with
  |zero =>
   simp at e
  |succ i =>
   obtain⟨v,B,A',a1,a2,a3,a4⟩:=ih n (i:=i) (d:=d) (by simpa using e)
   exact⟨v,B,A',by simpa using a1,a2,.no a3,a4⟩
 |@val _ _ _ _ _ h r ih =>
  intro n i d e
  cases i with
  |zero =>
   simp at e
  |succ i =>
   obtain⟨v,B,A',a1,a2,a3,a4⟩:=ih n (i:=i) (d:=d) (by simpa using e)
   exact⟨v,B,A',by simpa using a1,a2,.val h a3,a4⟩
 |@own p _ _ _ _ _ h1 h2 r ih =>
  intro n i d e
  cases i with
  |zero =>
   simp at e
  |succ i =>
   have n0:=zaw8.mp n
   obtain⟨v,B,A',a1,a2,a3,a4,a5,a6,a7,a8,a9⟩:=ih n0.2 (i:=i) (d:=d) (by simpa using e)
   refine⟨v,B,p::A',by simpa using a1,a2,.own h1 h2 a3,fun x hx=>?_,fun x hx=>zau8 _ (a5 x hx),fun x hx=>?_,a7,zaw8.mpr ⟨fun z=>n0.1 (a4 p z),a8⟩,fun x hx z=>?_⟩
   ·rcases zav5.mp hx with w | w
    ·rw [w];exact zav1 ..
    ·exact zau8 _ (a4 x w)
   ·rcases zav5.mp hx with w | w
    ·rw [w];exact .inr (zav1 ..)
    ·exact (a6 x w).imp id (zau8 _)
   ·rcases zav5.mp hx with w | w
    ·exact n0.1 (w ▸ a5 x z)
    ·exact a9 x w z
 |@dp _ v C _ _ A h r ih =>
  intro n i d e
  cases i with
  |zero =>
   simp at e;subst e
   have n0:=zaw2.mp n
   exact⟨v,C,A,rfl,h,.no r,fun x hx=>zau6 _ hx,fun x hx=>zau9 _ hx,fun x hx=>zav2.mp hx,n0.1,n0.2.1,fun x hx z=>n0.2.2 x z x hx rfl⟩
  |succ i =>
   have n0:=zaw2.mp n
   obtain⟨v,B,A',a1,a2,a3,a4,a5,a6,a7,a8,a9⟩:=ih n0.2.1 (i:=i) (d:=d) (by simpa using e)
   refine⟨v,B,C++A',by simpa using a1,a2,.dp h a3,fun x hx=>?_,fun x hx=>zau6 _ (a5 x hx),fun x hx=>?_,a7,zaw2.mpr ⟨n0.1,a8,fun x hx y hy e=>n0.2.2 x hx y (a4 y hy) e⟩,fun x hx z=>?_⟩
   ·rcases zav2.mp hx with w | w
    ·exact zau9 _ w
    ·exact zau6 _ (a4 x w)
   ·rcases zav2.mp hx with w | w
    ·exact .inr (zau9 _ w)
    ·exact (a6 x w).imp id (zau6 _)
   ·rcases zav2.mp hx with w | w
    ·exact n0.2.2 x w x (a5 x z) rfl
    ·exact a9 x w z
theorem RS.takeDp {K:zau7}{F A:List Addr}{H:Hp}{t:Th}{σ:L2.St}{i:Nat}{d:D} (R:RS K F H A t σ) (e:t[i]?=some (.dp d)) :
  ∃v B A',σ[i]?=some (some v)∧RS K (B++F) H A' (t.set i .no) σ∧B.Nodup∧(∀b∈B,b∉F)∧RepD K (hide (A'++(B++F)) H) H d v B∧(∀x∈A',x∈A)∧(∀x∈B,x∈A):=by
 obtain⟨v,B,A',a1,a2,a3,a4,a5,a6,a7,a8,a9⟩:=R.rel.loseDp R.nd e
 have s:Same (hide (A++F) H) (hide (A'++(B++F)) H):=za7 H fun x hx=>by
  rcases zav2.mp hx with z | z
  ·exact zau9 _ (a4 x z)
  ·rcases zav2.mp z with z | z
   ·exact zau9 _ (a5 x z)
   ·exact zau6 _ z
 refine⟨v,B,A',a1,⟨fun p hp=>?_,a8,fun p hp z=>?_,RSl.mono s a3 fun _ _ _ w=>w⟩,a7,fun b hb=>R.dj b (a5 b hb),RepD.mono s a2 fun _ _ _ w=>w,a4,a5⟩
 ·rcases zav2.mp hp with z | z
  ·exact R.mu p (zau9 _ (a4 p z))
  ·rcases zav2.mp z with z | z
   ·exact R.mu p (zau9 _ (a5 p z))
   ·exact R.mu p (zau6 _ z)
 ·rcases zav2.mp z with z | z
  ·exact a9 p hp z
  ·exact R.dj p (a4 p hp) z
abbrev DM:=Th→Option (D×Th)
abbrev DMs:=Th→Option (List D×Th)
structure Mv (K:zau7) (F A:List Addr) (H H':Hp) (B A':List Addr) (t':Th) (σ:L2.St):Prop where
 sm:Same H H'
 nd:B.Nodup
 dj:∀b∈B,b∉F
 rs:RS K (B++F) H' A' t' σ
 fr:∀b∈B,b∈A∨H b=none
 sb:∀b∈A',b∈A
noncomputable def dM (K:zau7) (F:List Addr) (f:DM):TE:=fun σ H Q => ∃A t d t',RS K F H A t σ∧f t=some (d,t')∧∀v H' B A',Mv K F A H H' B A' t' σ→RepD K (hide (A'++(B++F)) H') H' d v B→Q v H'
noncomputable def dMs (K:zau7) (F:List Addr) (f:DMs):TA:=fun σ H Q => ∃A t ds t',RS K F H A t σ∧f t=some (ds,t')∧∀vs H' B A',Mv K F A H H' B A' t' σ→RepDs K (hide (A'++(B++F)) H') H' ds vs B→Q vs H'
theorem RSl.loseOwn {K:zau7}{H0 H:Hp}:∀ {t:Th}{σ:L2.St}{A:List Addr},RSl K H0 H t σ A→A.Nodup→∀ {i:Nat}{ds:List D},t[i]?=some (.own ds)→∃p vs A',σ[i]?=some (some (.ref p))∧H p=some (.lst vs)∧Reps K H0 ds vs∧RSl K H0 H (t.set i .no) σ A'∧(∀x∈A',x∈A)∧p∈A∧(∀x∈A,x=p∨x∈A')∧A'.Nodup∧p∉A':=by
 intro _ _ _ h
 induction h with
 |nil =>
  intro n i d e
  simp at e
 |@no _ _ _ _ r ih =>
  intro n i d e
  cases i with
  |zero =>
   simp at e
  |succ i =>
   obtain⟨v,B,A',a1,a2,a2',a3,a4⟩:=ih n (i:=i) (ds:=d) (by simpa using e)
   exact⟨v,B,A',by simpa using a1,a2,a2',.no a3,a4⟩
 |@val _ _ _ _ _ h r ih =>
  intro n i d e
  cases i with
  |zero =>
   simp at e
  |succ i =>
   obtain⟨v,B,A',a1,a2,a2',a3,a4⟩:=ih n (i:=i) (ds:=d) (by simpa using e)
   exact⟨v,B,A',by simpa using a1,a2,a2',.val h a3,a4⟩
 |@own q vs _ _ _ A h1 h2 r ih =>
  intro n i d e
  cases i with
  |zero =>
   simp at e;subst e
   have n0:=zaw8.mp n
   exact⟨q,vs,A,rfl,h1,h2,.no r,fun x hx=>zau8 _ hx,zav1 ..,fun x hx=>zav5.mp hx,n0.2,n0.1⟩
  |succ i =>
   have n0:=zaw8.mp n
   obtain⟨p,vs,A',a1,a2,a2',a3,a4,a5,a6,a7,a8⟩:=ih n0.2 (i:=i) (ds:=d) (by simpa using e)
   refine⟨p,vs,q::A',by simpa using a1,a2,a2',.own h1 h2 a3,fun x hx=>?_,zau8 _ a5,fun x hx=>?_,zaw8.mpr ⟨fun z=>n0.1 (a4 q z),a7⟩,fun z=>?_⟩
   ·rcases zav5.mp hx with w | w
    ·rw [w];exact zav1 ..
    ·exact zau8 _ (a4 x w)
   ·rcases zav5.mp hx with w | w
    ·rw [w];exact .inr (zav1 ..)
    ·exact (a6 x w).imp id (zau8 _)
   ·rcases zav5.mp z with w | w
    ·exact n0.1 (w ▸ a5)
    ·exact a8 w
 |@dp _ _ C _ _ _ h r ih =>
  intro n i d e
  cases i with
  |zero =>
   simp at e
  |succ i =>
   have n0:=zaw2.mp n
   obtain⟨p,vs,A',a1,a2,a2',a3,a4,a5,a6,a7,a8⟩:=ih n0.2.1 (i:=i) (ds:=d) (by simpa using e)
   refine⟨p,vs,C++A',by simpa using a1,a2,a2',.dp h a3,fun x hx=>?_,zau6 _ a5,fun x hx=>?_,zaw2.mpr ⟨n0.1,a7,fun x hx y hy e=>n0.2.2 x hx y (a4 y hy) e⟩,fun z=>?_⟩
   ·rcases zav2.mp hx with w | w
    ·exact zau9 _ w
    ·exact zau6 _ (a4 x w)
   ·rcases zav2.mp hx with w | w
    ·exact .inr (zau9 _ w)
    ·exact (a6 x w).imp id (zau6 _)
   ·rcases zav2.mp z with w | w
    ·exact n0.2.2 p w p a5 rfl
    ·exact a8 w
theorem RS.takeOwn {K:zau7}{F A:List Addr}{H:Hp}{t:Th}{σ:L2.St}{i:Nat}{ds:List D} (R:RS K F H A t σ) (e:t[i]?=some (.own ds)) :
  ∃p vs A',σ[i]?=some (some (.ref p))∧RS K ([p]++F) H A' (t.set i .no) σ∧p∉F∧H p=some (.lst vs)∧Reps K (hide (A'++([p]++F)) H) ds vs∧(∀x∈A',x∈A)∧p∈A:=by
 obtain⟨p,vs,A',a1,a2,a2',a3,a4,a5,a6,a7,a8⟩:=R.rel.loseOwn R.nd e
 have s:Same (hide (A++F) H) (hide (A'++([p]++F)) H):=za7 H fun x hx=>by
  rcases zav2.mp hx with z | z
  ·exact zau9 _ (a4 x z)
  ·rcases zav2.mp z with z | z
   ·rw [zax0.mp z];exact zau9 _ a5
   ·exact zau6 _ z
 refine⟨p,vs,A',a1,⟨fun q hp=>?_,a7,fun q hp z=>?_,RSl.mono s a3 fun _ _ _ w=>w⟩,R.dj p a5,a2,Reps.mono s a2',a4,a5⟩
 ·rcases zav2.mp hp with z | z
  ·exact R.mu q (zau9 _ (a4 q z))
  ·rcases zav2.mp z with z | z
   ·rw [zax0.mp z];exact R.mu p (zau9 _ a5)
   ·exact R.mu q (zau6 _ z)
 ·rcases zav2.mp z with z | z
  ·rw [zax0.mp z]at hp;exact a8 hp
  ·exact R.dj q (a4 q hp) z
section
variable {X:Cx}{F:List Addr}{a b c o:Expr}{es:List Expr}{fa fb fc:DE}{fn:DM}{fns:DMs}{pos:Pos}
noncomputable def mOwn (i:Nat):DM:=fun t=>match t[i]? with
 |some (.own xs)=>if flats xs then some (.lst xs,t.set i .no) else none
 |some (.dp d)=>some (d,t.set i .no)
 |some (.val d)=>if flat d then some (d,t) else none
 |_=>none
theorem pm_own (i:Nat) {x:Str} (hN:X.N[i]?=some x:=by rfl) (hv:Vis X.env.scope x:=by first | exact Or.inl rfl | exact Or.inr (Or.inl rfl) |exact Or.inr (Or.inr rfl)) (hd:(x ==("__debug__":Str))=false:=by decide)
  (hcd:(x ==("__classdict__":Str))=false:=by decide):PE X (.Name x pos) (dM X.K F (mOwn i)):=by
 refine PE.imp (zv7 (i:=i) hN hv hd hcd) ?_
 rintro σ H Q ⟨A,t,d,t',R,e,h⟩
 unfold mOwn at e
 split at e
 ·rename_i xs q
  split at e
  case isFalse=>cases e
  rename_i f
  cases e
  obtain⟨p,vs,A',a1,R1,a3,a4,a5,a6,a7⟩:=R.takeOwn q
  exact⟨_,a1,h _ H [p] A' ⟨Same.refl H,by simp,fun b hb=>by rw [zax0.mp hb];exact a3,R1,fun b hb=>by rw [zax0.mp hb];exact .inl a7,a6⟩ (.lst a4 (RepDs.of_flat f a5))⟩
 ·rename_i d0 q
  cases e
  obtain⟨v,B,A',a1,R1,a3,a4,a5,a6,a7⟩:=R.takeDp q
  exact⟨v,a1,h v H B A' ⟨Same.refl H,a3,a4,R1,fun b hb=>.inl (a7 b hb),a6⟩ a5⟩
 ·rename_i d0 q
  split at e
  case isFalse=>cases e
  rename_i f
  cases e
  obtain⟨v,h1,h2⟩:=R.rel.getVal q
  exact⟨v,h1,h v H [] A ⟨Same.refl H,zax6,fun b hb=>(by cases hb),R,fun b hb=>(by cases hb),fun b hb=>hb⟩ (.flat f h2)⟩
 ·cases e
def mNil:DMs:=fun t=>some ([],t)
def zae9 (f:DM) (g:DMs):DMs:=fun t=>(f t).bind fun q=>(g q.2).bind fun w=>some (q.1::w.1,w.2)
theorem pms_nil:PA X [] (dMs X.K F mNil):=PA.imp zo5 fun σ H Q ⟨A,t,ds,t',R,e,h⟩=>by cases e;exact h [] H [] A ⟨Same.refl H,zax6,fun b hb=>(by cases hb),R,fun b hb=>(by cases hb),fun b hb=>hb⟩ .nil
theorem zah3 (ha:∀F,PE X a (dM X.K F fn)) (hr:∀F,PA X es (dMs X.K F fns)) (hs:zaw7 (a::es) X.env=(false,eval a X.env)::zaw7 es X.env:=by rfl):PA X (a::es) (dMs X.K F (zae9 fn fns)):=by
 intro p pins s σ H Q I h
 obtain⟨A,t,ds,t',R,e,h⟩:=h
 unfold zae9 at e
 cases e1:fn t with
 |none=>rw [e1]at e;cases e
 |some q1 =>
  obtain⟨d1,t1⟩:=q1
  rw [e1]at e
  simp only [zav0]at e
  cases e2:fns t1 with
  |none=>rw [e2]at e;cases e
  |some q2 =>
   obtain⟨ds2,t2⟩:=q2
   rw [e2]at e
   cases e
   rw [hs]
   show wpAny _ _ (spliced ((false,eval a X.env)::zbd6 p (zaw7 es X.env))) _ _ s
   refine Calls.spliced_cons (thn (ha F pins s σ H (fun v H1 => ∃B1 A1,Mv X.K F A H H1 B1 A1 t1 σ∧RepD X.K (hide (A1++(B1++F)) H1) H1 d1 v B1) I ⟨A,t,d1,t1,R,e1,fun v H1 B1 A1 m1 r1=>⟨B1,A1,m1,r1⟩⟩) fun u s1 ⟨x,H1,I1,rx,B1,A1,m1,r1⟩=>?_)
   refine thn (hr (B1++F) p pins s1 σ H1 (fun vs H2=>Q (x::vs) H2) I1 ⟨A1,t1,ds2,t2,m1.rs,e2,fun vs H2 B2 A2 m2 r2=>?_⟩) fun us s2 ⟨xs,H2,I2,rx2,q2⟩=>⟨x::xs,H2,I2,.cons rx rx2,q2⟩
   have l1:Lists H2 B1:=r1.lists.mono m2.sm
   have d21:∀b∈B2,b∉B1:=fun b hb z=>m2.dj b hb (zau9 _ z)
   have mem:∀x,x∈A2++((B1++B2)++F)→x∈A2++(B2++(B1++F)):=fun x hx=>by
    simp only [zav2]at hx ⊢
    rcases hx with z | (z | z) |z
    ·exact .inl z
    ·exact .inr (.inr (.inl z))
    ·exact .inr (.inl z)
    ·exact .inr (.inr (.inr z))
   have mem':∀x,x∈(B1++B2)++F→x∈B2++(B1++F):=fun x hx=>by
    simp only [zav2]at hx ⊢
    rcases hx with (z | z) |z
    ·exact .inr (.inl z)
    ·exact .inl z
    ·exact .inr (.inr z)
   refine h (x::vs) H2 (B1++B2) A2 ⟨m1.sm.trans m2.sm,zaw2.mpr ⟨m1.nd,m2.nd,fun y hy z hz e=>d21 z hz (e ▸ hy)⟩,fun b hb=>?_,m2.rs.less mem',fun b hb=>?_,fun b hb=>m1.sb b (m2.sb b hb)⟩ (.cons (B:=B1) (C:=B2) (RepD.hid (fun y hy=>m2.rs.mu y (mem y hy)) (zb3 _ _) (RepD.mono (H0':=hide B1 H2) (fun b o w=>?_) r1 fun _ _ _ w=>m2.sm _ _ w)) (RepDs.mono (za7 H2 mem) r2 fun _ _ _ w=>w))
   ·rcases zav2.mp hb with z | z
    ·exact m1.dj b z
    ·exact fun w=>m2.dj b z (zau6 _ w)
   ·rcases zav2.mp hb with z | z
    ·exact m1.fr b z
    ·rcases m2.fr b z with w | w
     ·exact .inl (m1.sb b w)
     ·exact .inr (Same.free m1.sm w)
   ·obtain⟨n,w⟩:=zk2 w
    exact zc0 (m2.sm _ _ w) fun z=>n (zau6 _ (zau9 _ z))
def mTup (g:DMs):DM:=fun t=>(g t).bind fun q=>if q.1.length≤1000 then some (.tup q.1,q.2) else none
theorem pm_tup {x1} (h:PA X es (dMs X.K F fns)):PE X (.Tuple es x1 pos) (dM X.K F (mTup fns)):=by
 refine PE.imp (pe_tup h) ?_
 rintro σ H Q ⟨A,t,d,t',R,e,h⟩
 unfold mTup at e
 cases e1:fns t with
 |none=>rw [e1]at e;cases e
 |some q =>
  obtain⟨ds,t2⟩:=q
  rw [e1]at e
  simp only [zav0]at e
  split at e
  case isFalse=>cases e
  rename_i hl
  cases e
  refine⟨A,t,ds,t',R,e1,fun vs H1 B A1 m1 r1=>⟨by rw [r1.length];exact zl3 (by lia),fun p hp=>?_⟩⟩
  have s1:=zc4 (o:=HO.tup vs) hp
  have np:p∉A1++(B++F):=zd2 m1.rs.mu hp
  exact h _ _ B A1 ⟨m1.sm.trans s1,m1.nd,m1.dj,m1.rs.grow s1,m1.fr,m1.sb⟩ (.tup (SqT.of (zc0 zb4 np)) (RepDs.mono (za8 s1) r1 fun _ _ _ w=>s1 _ _ w))
def zas0 (f:DM):DS:=fun t=>(f t).bind fun q=>some (.rt (.dn q.1))
theorem psd_retM (ha:PE X a (dM X.K F fn)):PS X (.Return (some a) pos) (dS X.K F (zas0 fn)):=by
 refine PS.imp (zam9 ha) ?_
 rintro E σ H ⟨A,t,o,R,e,h⟩
 unfold zas0 at e
 cases e1:fn t with
 |none=>rw [e1]at e;cases e
 |some q =>
  rw [e1]at e
  cases e
  refine⟨A,t,q.1,q.2,R,e1,fun v H' B A' m r1=>h v H' A (Gr.of_same R.mu.left m.sm) ⟨B,m.nd,fun b hb=>⟨m.fr b hb,m.dj b hb⟩,RepD.mono (za7 H' fun a z=>zau6 _ z) r1 fun _ _ _ w=>w⟩⟩
end
end DL
namespace TS
section
variable (κ π:Keyed→Int)
def rk (x:Keyed):Int:=κ x*1048576+π x
def Ris (l:List Keyed):Prop:=l.Pairwise fun a b=>rk κ π a≤rk κ π b
def Below (l m:List Keyed):Prop := ∀a∈l,∀b∈m,rk κ π a≤rk κ π b
variable {κ π}
structure Lo (X Y out:List Keyed) (i j:Nat):Prop where
 pm:out.Perm (X.take i++Y.take j)
 rs:Ris κ π out
 bx:Below κ π out (X.drop i)
 by':Below κ π out (Y.drop j)
variable {X Y out:List Keyed}{i j:Nat}
structure Hi (X Y out:List Keyed) (i j:Nat):Prop where
 pm:out.Perm (X.drop i++Y.drop j)
 rs:Ris κ π out.reverse
 bx:Below κ π (X.take i) out
 by':Below κ π (Y.take j) out
end
end TS
namespace TS
structure Cmp (M:Model) (A:Around) (E:Value→zaw0→Prop) (s:zaw0) (κ π:Keyed→Int) (a₀:Array Keyed) (kd:SortKind):Prop where
 lt:∀(st:SortSt) (x y:Keyed) (Q:Option Bool→SortSt→Prop),kindOf st=kd→x∈a₀.toList→y∈a₀.toList→Q (some (decide (κ x<κ y))) st→wpS M A E s (lt' x y) Q st
 pi:∀x∈a₀.toList,0≤π x∧π x<1048576
section
variable {M:Model}{A:Around}{E:Value→zaw0→Prop}{s:zaw0}{κ π:Keyed→Int}{a₀:Array Keyed}{kd:SortKind} (C:Cmp M A E s κ π a₀ kd)
structure SameS (st st':SortSt):Prop where
 arr:arrOf st'=arrOf st
 knd:kindOf st'=kindOf st
 pnd:pendingOf st'=pendingOf st
 fld:failedOf st'=failedOf st
theorem SameS.trans {a b c:SortSt} (h:SameS a b) (g:SameS b c):SameS a c:=⟨g.arr.trans h.arr,g.knd.trans h.knd,g.pnd.trans h.pnd,g.fld.trans h.fld⟩
structure Two (κ π:Keyed→Int) (a₀:Array Keyed) (xs ys:Array Keyed):Prop where
 mx:∀x∈xs.toList,x∈a₀.toList
 my:∀y∈ys.toList,y∈a₀.toList
 rx:Ris κ π xs.toList
 ry:Ris κ π ys.toList
 sep:∀x∈xs.toList,∀y∈ys.toList,π x≤π y
 px:0<xs.size
 py:0<ys.size
 first:∀x y,xs[0]?=some x→ys[0]?=some y→κ y<κ x
 last:∀x,xs[xs.size - 1]?=some x→∀y∈ys.toList,κ y<κ x
variable {xs ys:Array Keyed}{st:SortSt} (hk:kindOf st=kd) (T:Two κ π a₀ xs ys)
end
end TS
namespace TS
section
variable {M:Model}{A:Around}{E:Value→zaw0→Prop}{s:zaw0}{κ π:Keyed→Int}{a₀:Array Keyed}{kd:SortKind} (C:Cmp M A E s κ π a₀ kd)
def sepL (π:Keyed→Int) (l m:List Keyed):Prop := ∀a∈l,∀b∈m,π a≤π b
end
end TS
namespace TS
def kA (f:Keyed→Int) (xs:Array Keyed) (i:Nat):Int:=match xs[i]? with
 |some p=>f p
 |none=>0
structure Chg (xs zs:Array Keyed) (lo hi:Nat):Prop where
 pm:zs.Perm xs
 out:∀i,i<lo∨hi≤i→zs[i]?=xs[i]?
 ins:∀i,lo≤i→i<hi→∃j,lo≤j∧j<hi∧zs[i]?=xs[j]?
theorem Chg.size {xs zs:Array Keyed}{lo hi:Nat} (h:Chg xs zs lo hi):zs.size=xs.size:=h.pm.size_eq
section
variable {M:Model}{A:Around}{E:Value→zaw0→Prop}{s:zaw0}{κ π:Keyed→Int}{a₀:Array Keyed}{kd:SortKind} (C:Cmp M A E s κ π a₀ kd)
def rA (κ π:Keyed→Int) (xs:Array Keyed) (i:Nat):Int:=kA κ xs i*1048576+kA π xs i
structure TB (a₀:Array Keyed) (kd:SortKind) (st:SortSt):Prop where
 pm:(arrOf st).Perm a₀
 kind:kindOf st=kd
 fld:failedOf st=none
theorem TB.size {st:SortSt} (h:TB a₀ kd st):(arrOf st).size=a₀.size:=h.pm.size_eq
theorem TB.set {st:SortSt} (h:TB a₀ kd st) {zs:Array Keyed} (hp:zs.Perm (arrOf st)):TB a₀ kd (setArr st zs):=⟨hp.trans h.pm,h.kind,h.fld⟩
end
end TS
namespace TS
section
variable {M:Model}{A:Around}{E:Value→zaw0→Prop}{s:zaw0}{κ π:Keyed→Int}{a₀:Array Keyed}{kd:SortKind} (C:Cmp M A E s κ π a₀ kd)
structure Dn (κ π:Keyed→Int) (a₀:Array Keyed) (kd:SortKind) (st0:SortSt) (lo x q:Nat) (st:SortSt):Prop where
 tb:TB a₀ kd st
 pd:pendingOf st=pendingOf st0
 ch:Chg (arrOf st0) (arrOf st) lo (lo+x)
 le:q+1≤x
 un:∀i,lo+x - (q+1)≤i→(arrOf st)[i]?=(arrOf st0)[i]?
 eq:∀i,lo+x - (q+1)≤i→i<lo+x→kA κ (arrOf st) i=kA κ (arrOf st) (lo+x - 1)
 fl:∀i j,lo≤i→i≤j→j<lo+x - (q+1)→rA κ π (arrOf st) j≤rA κ π (arrOf st) i
 gt:∀i,lo≤i→i<lo+x - (q+1)→kA κ (arrOf st) (lo+x - 1)<kA κ (arrOf st) i
end
end TS
namespace TS
noncomputable def MatchP:Nat→List (List Keyed)→List (Nat×Nat×Nat)→Prop
 |_,[],[]=>True
 |lo,L::Ls,q::ps=>q.1=lo∧q.2.1=L.length∧MatchP (lo+L.length) Ls ps
 |_,_,_=>False
theorem MatchP.len:∀ {lo:Nat}{Ls:List (List Keyed)}{ps:List (Nat×Nat×Nat)},MatchP lo Ls ps→Ls.length=ps.length
 |_,[],[],_=>rfl
 |_,L::Ls,q::ps,h=>by simp [MatchP.len h.2.2]
 |_,[],_::_,h=>h.elim
 |_,_::_,[],h=>h.elim
section
variable {M:Model}{A:Around}{E:Value→zaw0→Prop}{s:zaw0}{κ π:Keyed→Int}{a₀:Array Keyed}{kd:SortKind} (C:Cmp M A E s κ π a₀ kd)
structure Runs (κ π:Keyed→Int) (a₀:Array Keyed) (kd:SortKind) (st:SortSt) (Ls:List (List Keyed)) (post:List Keyed):Prop where
 tb:TB a₀ kd st
 ar:(arrOf st).toList=Ls.flatten++post
 mt:MatchP 0 Ls (pendingOf st).toList
 ok:∀L∈Ls,Ris κ π L∧L≠[]
 sp:Ls.Pairwise (sepL π)
end
end TS
namespace TS
section
variable {M:Model}{A:Around}{E:Value→zaw0→Prop}{s:zaw0}{κ π:Keyed→Int}{a₀:Array Keyed}{kd:SortKind} (C:Cmp M A E s κ π a₀ kd)
structure Btw (κ π:Keyed→Int) (a₀:Array Keyed) (kd:SortKind) (lo:Nat) (st:SortSt) (Ls:List (List Keyed)) (rest:List Keyed):Prop where
 rn:Runs κ π a₀ kd st Ls rest
 ln:Ls.flatten.length=lo
 sp:sepL π Ls.flatten rest
 up:rest.Pairwise fun a b=>π a≤π b
end
end TS
namespace DL
open PySem.Spec L2 TS
def zb0 (n:Nat):List Int:=(zay0 n).map fun (i:Nat)=>(i:Int)
theorem zi1 (n:Nat):(zb0 n).length=n:=by simp [zb0]
theorem zao8 {n i:Nat}{x:Int} (h:(zb0 n)[i]?=some x):x=(i:Int)∧i<n:=by
 unfold zb0 at h
 rw [zay1]at h
 cases e:(zay0 n)[i]? with
 |none=>rw [e]at h;cases h
 |some j =>
  rw [e]at h
  obtain⟨h1,h2⟩:=zba9.mp e
  simp at h1 h2
  cases h
  exact⟨by rw [h2],h1⟩
theorem zs2 {i:Int} (h0:0≤i) (h1:i≤100000):Builtin.Range.rangeFitsLong i=true:=by
 unfold Builtin.Range.rangeFitsLong
 have e:(2:Int) ^ 63=9223372036854775808:=by decide
 rw [e]
 simp only [zav3,decide_eq_true_eq]
 lia
theorem small_of {n:Int} (h0:0≤n) (h1:n≤100000):Builtin.Range.small 0 n 1=true:=by
 have rs:Builtin.Range.rangeSize 0 n 1=n:=by simp only [Builtin.Range.rangeSize];lia
 unfold Builtin.Range.small
 rw [rs,zs2 (i:=0) (by lia) (by lia),zs2 h0 h1,zs2 (i:=1) (by lia) (by lia),if_pos (by lia),zs2 (i:=n+(1 - 1)) (by lia) (by lia),zbd2]
 rfl
end DL
namespace DL
open PySem.Spec L2
def fuelN (i:Nat):Th→Nat:=fun t=>match t[i]? with
 |some (.val (.int n))=>n.natAbs+1
 |_=>0
end DL
namespace TS
section
variable {prog:Program}{w:World}{A:Around}{E:Value→zaw0→Prop}{s:zaw0}
theorem zip_same {α:Type}:∀l:List α,l.zip l=l.map fun x=>(x,x)
 |[]=>rfl
 |x::l=>by rw [zbb0,zip_same l];rfl
end
end TS
namespace TS
def RawD (h:Heap) (d:Addr) (es:Array DictEntry) (ep:Nat):Prop := ∃o,h.get? d=some o∧o.ExactDict∧o.data=.dict es ep
theorem RawD.ty {s:zaw0}{d:Addr}{es:Array DictEntry}{ep:Nat} (x:RawD s.heap d es ep):s.TypeIs (.ref d) "dict":=let ⟨o,a,r,_⟩:=x;⟨o,a,r.1⟩
end TS
namespace DL
open PySem.Spec L2
noncomputable def spT (K:zau7) (G:D→List D→List D→D→Option (List Int×List Int)):Sp:=fun vs H Q _ => ∃(v0 v3:V) (p q:Addr) (ws us:List V) (d0 d3:D) (xs ys:List D) (r:List Int×List Int),vs=[v0,.ref p,.ref q,v3]∧p≠q∧H p=some (.lst ws)∧H q=some (.lst us) ∧
 Rep K (hide [p,q] H) d0 v0∧Reps K (hide [p,q] H) xs ws∧Reps K (hide [p,q] H) ys us∧Rep K (hide [p,q] H) d3 v3∧G d0 xs ys d3=some r ∧
 ∀H',(∀b o,b≠p→b≠q→H b=some o→H' b=some o)→H' p=some (.lst (r.1.map V.int))→H' q=some (.lst (r.2.map V.int))→Q .non H'
structure CalT (P:Program) (w:World) (K:zau7) (mg:Str→Option Value) (base:BHeap) (x:Str) (k:Nat) (G:D→List D→List D→D→Option (List Int×List Int)):Prop where
 ex:∃(a:Addr) (fd:FuncData) (ps:List Str),mg x=some (.ref a)∧zaz0 K (.ref a)=true∧L2.Binds K fd ps []∧FnOk P w K mg base CX0 k a fd ps (spT K G)
end DL
namespace TS
noncomputable def RawS (h:Heap) (a:Addr) (es:Array (Int×Value)) (ep:Nat) (t:SetTable):Prop := ∃o,h.get? a=some o∧o.ExactSet∧o.data=.set es ep t∧t.fits es.size=true
noncomputable def ItS (h:Heap) (I:Addr) (f:Value) (i:Nat) (a:Addr) (n ep:Nat):Prop := ∃o,h.get? I=some o∧o.cls=.type "set_iterator"∧o.data=.fields #[f,.int i 0,.ref a,.int n 0,.int ep 0]
theorem ItS.ty {s:zaw0}{I a:Addr}{f:Value}{i n ep:Nat} (x:ItS s.heap I f i a n ep):s.TypeIs (.ref I) "set_iterator":=let ⟨o,g,c,_⟩:=x;⟨o,g,c⟩
theorem RawS.ty {s:zaw0}{a:Addr}{es:Array (Int×Value)}{ep:Nat}{t:SetTable} (x:RawS s.heap a es ep t):s.TypeIs (.ref a) "set":=let ⟨o,g,r,_⟩:=x;⟨o,g,r.1⟩
end TS
namespace L2
open PySem.Spec
theorem vals_get:∀ {xs:List V}{us:List Value},xs.length=us.length→(∀(j:Nat) (a:V) (b:Value),xs[j]?=some a→us[j]?=some b→RelV a b)→Vals xs us
 |[],[],_,_=>.nil
 |[],_::_,h,_=>by simp at h
 |_::_,[],h,_=>by simp at h
 |x::xs,u::us,h,k=>.cons (k 0 x u rfl rfl) (vals_get (by simpa using h) fun j a b ha hb=>k (j+1) a b (by simpa using ha) (by simpa using hb))
end L2
namespace DL
open PySem.Spec L2
structure Lent (K:zau7) (F:List Addr) (ir jx:Nat) (ds:List D) (k:Nat) (A0:List Addr) (Hb:Hp) (p r:Addr) (C1 C2:List Addr) (A:List Addr) (H:Hp) (σ:L2.St):Prop where
 nd:(p ::(C1++r::C2)).Nodup
 dj:∀b∈p ::(C1++r::C2),b∉F
 s1:σ[ir]?=some (some (.ref p))
 s2:σ[jx]?=some (some (.ref r))
 gr:Gr A0 Hb (A++p ::(C1++C2)) H
 kp:∀b∈p ::(C1++C2),∀o,Hb b=some o→H b=some o
 re:∀(H01 H1:Hp) (xs':List D),xs'.all scD=true→H1 r=some (.lst (xs'.map sV))→(∀b∈p ::(C1++C2),∀o,Hb b=some o→H1 b=some o)→Same (hide (A0++F) Hb) H01→RepD K H01 H1 (.lst (ds.set k (.lst xs'))) (.ref p) (p ::(C1++r::C2))
mutual
theorem RepD.fl {K:zau7}{H0 H:Hp}:∀ {d:D}{v:V}{B:List Addr},RepD K H0 H d v B→flat d=true→Rep K H0 d v∧B=[]
 |_,_,_,.flat _ r,_=>⟨r,rfl⟩
 |_,_,_,.tup h r,f=>⟨.tup h (RepDs.fl r (by simpa [flat] using f)).1,(RepDs.fl r (by simpa [flat] using f)).2⟩
 |_,_,_,.lst _ _,f=>by simp [flat]at f
 |_,_,_,.dct _ _ _,f=>by simp [flat]at f
 |_,_,_,.pdc _,f=>by simp [flat]at f
theorem RepDs.fl {K:zau7}{H0 H:Hp}:∀ {ds:List D}{vs:List V}{B:List Addr},RepDs K H0 H ds vs B→flats ds=true→Reps K H0 ds vs∧B=[]
 |_,_,_,.nil,_=>⟨.nil,rfl⟩
 |_,_,_,.cons h r,f=>by
  simp only [flats,zav3]at f
  obtain⟨a1,a2⟩:=RepD.fl h f.1
  obtain⟨b1,b2⟩:=RepDs.fl r f.2
  exact⟨.cons a1 b1,by rw [a2,b2];rfl⟩
end
end DL
namespace L2
open PySem.Spec
theorem d_set {X:Cx}{pins:List (Addr×Obj)}{σ:L2.St}{H:Hp}{s:zaw0}{a:Addr}{kvs:List (Key×V)}{k:Key}{v:V}{u r:Value}{A:Around}{E:Value→zaw0→Prop}{Q:Unit→zaw0→Prop} (I:Inv X pins σ H s) (e:H a=some (.dK kvs)) (ry:RelV (kV k) u) (rv:RelV v r) (l:kvs.length<sizeLine) (h:∀s',Inv X pins σ (upd H a (.dK (putK kvs k v))) s'→Q () s') :
  wpAny (model X.prog X.w) A (dictSet a u r) Q E s:=by
 obtain⟨z,hd,vs,rel,dd⟩:=dk_of I.hok e
 have hz:vs.length≤sizeLine:=by rw [← rel.length];exact z
 have hl:(putK kvs k v).length≤sizeLine:=by have:=zt3 kvs k v;lia
 refine wpAny_dictSet_pairs (hsz:=hz) (kV_is ry) dd fun h' dd' hs=>h _ ?_
 have he:∃q,h'.get? a=some q:=let ⟨q,_,_,hq,_⟩:=dd';⟨q,hq⟩
 exact zar8 I (by rw [e];exact True.intro) hs he (dk_new hl hd (rel.put k rv) dd')
theorem zac1 {kx vx target iter:Expr}{ifs:List Expr}{g2:Comprehension}{scope:Scope}{pos:Pos}{it acc:Value}{env:Env} (h2:g2.is_async=0) :
  compTurn (.DictComp kx vx [⟨target,iter,ifs,0⟩,g2] scope pos) 0 it acc env=(do
   standAt iter.pos
   match ← pyNext it with
   |none=>pure (.done .next)
   |some v =>
    letOwnedTupleGo target it v
    assign target env v
    let mut ok:=true
    for c in ifs do
     if ok then ok ← isTrue c env (eval c env)
    if ok then emT (.DictComp kx vx [⟨target,iter,ifs,0⟩,g2] scope pos) g2 acc env
    again (.compLoop (.DictComp kx vx [⟨target,iter,ifs,0⟩,g2] scope pos) 0 it acc env)):=by
 obtain⟨t2,i2,f2,a2⟩:=g2
 have h2:a2=0:=h2
 subst h2
 simp only [emT,bind_assoc,pure_bind]
 rfl
theorem zac0 {kx vx iter:Expr}{ifs:List Expr}{g1:Comprehension}{target:Expr}{scope:Scope}{pos:Pos}{it:Value}{D:Addr}{env:Env} :
  compTurn (.DictComp kx vx [g1,⟨target,iter,ifs,0⟩] scope pos) 1 it (.ref D) env=(do
   standAt iter.pos
   match ← pyNext it with
   |none=>pure (.done .next)
   |some v =>
    letOwnedTupleGo target it v
    assign target env v
    let mut ok:=true
    for c in ifs do
     if ok then ok ← isTrue c env (eval c env)
    if ok then (do
      let kv ← eval kx env
      let vv ← holding [kv] (eval vx env)
      standAt { kx.pos with endLine:=vx.pos.endLine,endCol:=vx.pos.endCol }
      holding [kv,vv] (dictSet D kv vv))
    again (.compLoop (.DictComp kx vx [g1,⟨target,iter,ifs,0⟩] scope pos) 1 it (.ref D) env)):=by rfl
theorem zl9 {prog:Program}{w:World}{A:Around}{R:Result→zaw0→Prop}{s:zaw0}{kx vx target:Expr}{ip:Pos}{gens:List Comprehension}{depth:Nat}{ifs:List Expr}{scope:Scope}{pos:Pos}{it acc:Value}{env:Env} (em:Sem Unit)
  (heq:compTurn (.DictComp kx vx gens scope pos) depth it acc env=(do
   standAt ip
   match ← pyNext it with
   |none=>pure (.done .next)
   |some v =>
    letOwnedTupleGo target it v
    assign target env v
    let mut ok:=true
    for c in ifs do
     if ok then ok ← isTrue c env (eval c env)
    if ok then em
    again (.compLoop (.DictComp kx vx gens scope pos) depth it acc env))) (I:Nat→zaw0→Prop)
  (turn:∀n s,I n s→wpAny (model prog w) A (pyNext it) (fun r s₁=>match r with
   |none=>R (.ok .next) s₁
   |some v=>wpAny (model prog w) A (letOwnedTupleGo target it v) (fun _ s₁'=>wpAny (model prog w) A (assign target env v) (fun _ s₂ =>
     wpAny (model prog w) A (forIn ifs true fun c r=>if r=true then do let ok ← isTrue c env (eval c env);pure (ForInStep.yield ok) else pure (ForInStep.yield r)) (fun ok s₃ =>
      if ok=true then wpAny (model prog w) A em (fun _ s₅ => ∃m,m<n∧I m s₅) (fun _ _=>False) s₃
      else ∃m,m<n∧I m s₃) (fun _ _=>False) s₂) (fun _ _=>False) s₁') (fun _ _=>False) s₁) (fun _ _=>False) s)
  (n:Nat) (h:I n s):codeAny (model prog w) A (.compLoop (.DictComp kx vx gens scope pos) depth it acc env) R s:=by
 refine codeAny_loop rfl I (fun n s hI=>?_) n h
 show wpAny _ A ((compTurn (.DictComp kx vx gens scope pos) depth it acc env).onRaise (fun x=>do noteFrame x env;theTreesLotGoes x)) _ _ s
 refine wpAny_noted ?_
 rw [heq]
 refine zaw3 (wpAny_standAt (zaw3 (wpAny_mono (turn n s hI) (fun r s₁ h₁=>?_) fun _ _ h'=>h'.elim)))
 cases r with
 |none=>exact zax9 h₁
 |some v =>
  refine zaw3 (wpAny_mono h₁ (fun _ s₁' h₁'=>?_) fun _ _ h'=>h'.elim)
  refine zaw3 (wpAny_mono h₁' (fun _ s₂ h₂=>zaw3 (wpAny_mono h₂ (fun ok s₃ h₃=>?_) fun _ _ h'=>h'.elim)) fun _ _ h'=>h'.elim)
  cases ok with
  |false=>exact zax9 ⟨rfl,h₃⟩
  |true=>exact zaw3 (wpAny_mono h₃ (fun _ s₅ h₅=>zax9 ⟨rfl,h₅⟩) fun _ _ h'=>h'.elim)
theorem zm7 {prog:Program}{w:World}{A:Around}{R:Result→zaw0→Prop}{s:zaw0}{kx vx target iter ifs g1 scope pos it acc env}
  (h0:codeAny (model prog w) A (.compLoop (.DictComp kx vx [g1,⟨target,iter,ifs,0⟩] scope pos) 1 it acc env) R s)
  (h:wpAny (model prog w) A (pyIter it) (fun it' s'=>codeAny (model prog w) A (.compLoop (.DictComp kx vx [g1,⟨target,iter,ifs,0⟩] scope pos) 1 it' acc env) R s')
   (notedBy (model prog w) A env fun x s'=>R (.error x) s') s) :
  codeAny (model prog w) A (.compStart (.DictComp kx vx [g1,⟨target,iter,ifs,0⟩] scope pos) 1 it acc env) R s:=by
 refine codeAny_of_tree ?_
 show wpAny _ _ ((compStart (.DictComp kx vx [g1,⟨target,iter,ifs,0⟩] scope pos) 1 it acc env).onRaise (fun x=>do noteFrame x env;standAt theWindowsPlace)) _ _ s
 refine wpAny_notedAt ?_
 unfold compStart
 show wpAny _ _ (ask >>= _) _ _ s
 refine zaw3 (wpAny_askSetting (wpAny_ite ?_))
 split
 ·first
   |exact zaw3 (zax9 (zax9 (And.intro rfl h0)))
   |exact zax9 (And.intro rfl h0)
 ·first
   |exact zaw3 (wpAny_rule (zaw3 (wpAny_standAt (zaw3 (wpAny_mono h (fun it' s' h'=>zax9 (And.intro rfl h')) fun _ _ x=>x)))))
   |(refine zaw3 (wpAny_rule ?_);show wpAny _ _ (standAt iter.pos >>= _) _ _ s;exact zaw3 (wpAny_standAt (zaw3 (wpAny_mono h (fun it' s' h'=>zax9 (And.intro rfl h')) fun _ _ x=>x))))
noncomputable def zal8 (n:Nat) (cap:List Nat) (wi:TI) (g:TG) (tt:TT) (em:EMS):TE:=fun σ H Q=>wi σ H fun J H1 => ∀D,H1 D=none→∃W:Nat→Nat→L2.St→Hp→Prop,(∃m,W 0 m (capV n cap σ) (upd H1 D (.dK [])))∧∀i m σ' H',W i m σ' H' →
 (J.stop i H'∧Q (.ref D) H')∨(J.go i H'∧∃N:L2.St→Hp→Prop,(∀σ'' H'',N σ'' H''→∃m',m' < m∧W (i+1) m' σ'' H'')∧∀x H2,J.yld i H' x H2→g x σ' H2 fun σ2 H3=>tt σ2 H3 fun b H4 =>
  if b=true then em D σ2 H4 N else N σ2 H4)
noncomputable def zal7 (wi:TI) (g:TG) (tt:TT) (tk tv:TE):EMS:=fun D σ H R=>wi σ H fun J H1 => ∃W:Nat→Nat→L2.St→Hp→Prop,(∃m,W 0 m σ H1)∧∀i m σ' H',W i m σ' H' →
 (J.stop i H'∧R σ' H')∨(J.go i H'∧∃N:L2.St→Hp→Prop,(∀σ'' H'',N σ'' H''→∃m',m' < m∧W (i+1) m' σ'' H'')∧∀x H2,J.yld i H' x H2→g x σ' H2 fun σ2 H3=>tt σ2 H3 fun b H4 =>
  if b=true then tk σ2 H4 fun x H5=>tv σ2 H5 fun y H6 => ∃kvs k,x=kV k∧H6 D=some (.dK kvs)∧kvs.length<sizeLine∧N σ2 (upd H6 D (.dK (putK kvs k y))) else N σ2 H4)
theorem zaj8 {Y:Cx}{kx vx tg iter:Expr}{ifs:List Expr}{g1:Comprehension}{scope:Scope}{pos:Pos}{wi:TI}{g:TG}{tt:TT}{tk tv:TE}{D:Addr} (yc:Y.calm=true) (yx:Y.xe=fun _ _=>False) (hi:PI Y tg iter wi) (hg:PG Y tg g) (ht:PTs Y ifs tt) (hk:PE Y kx tk) (hv:PE Y vx tv)
  (hs:∀x,foldedSetIterable iter Y.env x=pure x:=by intro _;rfl):PEm Y (emT (.DictComp kx vx [g1,⟨tg,iter,ifs,0⟩] scope pos) ⟨tg,iter,ifs,0⟩ (.ref D) Y.env) (zal7 wi g tt tk tv D):=by
 intro pins s σ H R I h
 unfold emT
 refine zaw3 (thn (hi pins s σ H _ I h) fun v s1 h1=>zaw3 (wpAny_standAt (zaw3 (wpAny_of_eq (hs v) (zaw3 (wpAny_holding (thn h1 fun itv s2 h2=>?_)))))))
 obtain⟨it,fp,tn,J,H2,e,I2,T,st2,f2,W,⟨m0,w0⟩,turn⟩:=h2
 subst e
 refine zaw3 (wpAny_runOwn ?_)
 have stat:∀ {H':Hp},(∀b∈fp,H' b=none)→∀b∈fp,FpOk Y pins H' b:=fun hn b hb=>⟨hn b hb,(f2 b hb).2⟩
 have loop:∀s2',Inv Y pins σ H2 s2'→tn 0 s2'.heap→codeAny (model Y.prog Y.w) Y.A (.compLoop (.DictComp kx vx [g1,⟨tg,iter,ifs,0⟩] scope pos) 1 (.ref it) (.ref D) Y.env)
   (fun r s'=>match r with | .ok f=>wpAny (model Y.prog Y.w) Y.A (pure ()) (fun _ s' => ∃σ' H',Inv Y pins σ' H' s'∧R σ' H') Y.xe s' | .error e=>cameBackBy (model Y.prog Y.w) Y.A Y.env Y.xe e s') s2':=by
  intro s2' I2' st2'
  refine zl9 (do
      let kv ← eval kx Y.env
      let vv ← holding [kv] (eval vx Y.env)
      standAt { kx.pos with endLine:=vx.pos.endLine,endCol:=vx.pos.endCol }
      holding [kv,vv] (dictSet D kv vv)) zac0 (fun n s' => ∃i σ' H',Inv Y pins σ' H' s'∧tn i s'.heap∧(∀b∈fp,H' b=none)∧W i n σ' H') ?_ m0 ⟨0,_,_,I2',st2',fun b hb=>(f2 b hb).1,w0⟩
  rintro n s3 ⟨i,σ3,H3,I5,st3,fr3,w3⟩
  rcases turn i n σ3 H3 w3 with ⟨stop,qn⟩ | ⟨go,N,hNN,step⟩
  ·refine thn (T.done Y rfl rfl rfl yc i pins s3 σ3 H3 (fun _ _=>False) I5 (stat fr3) st3 stop) fun r s4 ⟨hr,I6⟩=>?_
   subst hr
   exact zax9 ⟨σ3,H3,I6,qn⟩
  ·refine thn (T.item Y rfl rfl rfl yc i pins s3 σ3 H3 (fun _ _=>False) I5 (stat fr3) st3 go) fun r s4 ⟨u,hr,h4⟩=>?_
   subst hr
   refine thn h4 fun _ s5 ⟨x,H5,I6,r5,y5,st5,fr5⟩=>?_
   have I6':=I6.pinned (stat fr5) (T.obj _ _ st5)
   have a:=hg _ s5 σ3 H5 x u _ I6' r5 (step x H5 y5)
   rw [yx]at a
   refine thn a fun _ s6 ⟨σ6,H6,I7,q6⟩=>?_
   have b:=ht _ s6 σ6 H6 _ I7 q6
   rw [yx]at b
   refine thn b fun ok s7 ⟨H7,I8,q7⟩=>?_
   have again:∀ {s9:zaw0}{H9:Hp},Inv Y (pins++zk9 fp s5.heap) σ6 H9 s9→N σ6 H9→∃m,m<n∧∃i σ' H',Inv Y pins σ' H' s9∧tn i s9.heap∧(∀b∈fp,H' b=none)∧W i m σ' H':=fun {s9 H9} I9 n9=>by
    obtain⟨m',hm,w9⟩:=hNN σ6 H9 n9
    refine⟨m',hm,i+1,σ6,H9,I9.unpinned,T.keep _ _ _ st5 fun b hb o e=>(I9.pin (b,o) (zau6 _ (zau6 _ (zd4 hb e)))).1,fun b hb=>?_,w9⟩
    obtain⟨o,e,d⟩:=T.obj _ _ st5 b hb
    exact (I9.pin (b,o) (zau6 _ (zau6 _ (zd4 hb e)))).2.1
   cases ok with
   |false=>exact iteF (again I8 (by simpa using q7))
   |true =>
    rw [if_pos rfl]at q7
    refine iteT ?_
    have c:=hk _ s7 σ6 H7 _ I8 q7
    rw [yx]at c
    refine zaw3 (thn c fun kv s8 ⟨vk,H8,I9,rk,q9⟩=>zaw3 (wpAny_holding ?_))
    have d:=hv _ s8 σ6 H8 _ I9 q9
    rw [yx]at d
    refine thn d fun vv s9 ⟨vy,H9,I10,rv,kvs,kk,ek,hD,hl,n9⟩=>zaw3 (wpAny_standAt (wpAny_holding ?_))
    subst ek
    exact d_set I10 hD rk rv hl fun s' I11=>again I11 n9
 exact zm7 (loop s2 I2 st2) (T.self _ 0 _ _ _ st2 (loop s2 I2 st2))
theorem zan9 {X:Cx}{kx vx tg iter:Expr}{ifs:List Expr}{scope:Scope}{pos:Pos}{n:Nat}{cap:List Nat}{N':List Str}{wi:TI}{g:TG}{tt:TT}{em:EMS}{g2:Comprehension} (S:CompSc X scope) (hc:X.calm=true) (hi:PI X tg iter wi)
  (hN:N'.length=n+cap.length) (hcap:∀(k:Nat) (j:Nat),cap[k]?=some j→∃x,N'[n+k]?=some x∧X.N[j]?=some x∧(x,NameKind.free)∈scope.names)
  (hg:∀C s₃ H₃ fp pins,PG (blk X N' scope C s₃ H₃ fp pins) tg g) (ht:∀C s₃ H₃ fp pins,PTs (blk X N' scope C s₃ H₃ fp pins) ifs tt) (he:∀C s₃ H₃ fp pins D,PEm (blk X N' scope C s₃ H₃ fp pins) (emT (.DictComp kx vx [⟨tg,iter,ifs,0⟩,g2] scope pos) g2 (.ref D) (blk X N' scope C s₃ H₃ fp pins).env) (em D))
  (h2:g2.is_async=0) (hs:∀x,foldedSetIterable iter X.env x=pure x:=by intro _;rfl):PE X (.DictComp kx vx [⟨tg,iter,ifs,0⟩,g2] scope pos) (zal8 n cap wi g tt em):=by
 intro pins s σ H Q I h
 rw [arm_eval_DictComp]
 refine wpAny_comprehension_free (use:=none) rfl hs (zm3 (S.frees I.ok)) S.kind (fun x hx hl=>by rw [S.names x hx,hl]) (thn (hi pins s σ H _ I h) fun v s1 h1=>thn h1 fun itv s2 h2=>?_)
 obtain⟨it,fp,tn,J,H2,e,I2,T,st2,f2,R⟩:=h2
 subst e
 have lt2:∀b∈fp,b<s2.heap.objs.size:=fun b hb=>by obtain⟨o,e,_⟩:=T.obj _ _ st2 b hb;exact zaw5 e
 have hD:H2 s2.heap.objs.size=none:=I2.fresh
 obtain⟨W,⟨m0,w0⟩,turn⟩:=R s2.heap.objs.size hD
 have I3:Inv X pins σ (upd H2 s2.heap.objs.size (.dK [])) { s2 with heap:=s2.heap.push { cls:=.type "dict",data:=.dict #[] },toks:=s2.toks }:=I2.laid (a:=s2.heap.objs.size) (o:=.dK []) (t':=s2.toks) (fun _ _ q=>zav8 _ q) (zaw9 _) (zy3 s2.heap I2.big)
 have f3:∀b∈fp,FpOk X pins (upd H2 s2.heap.objs.size (.dK [])) b:=fun b hb=>⟨by rw [zb9 (zax4 (lt2 b hb))];exact (f2 b hb).1,(f2 b hb).2⟩
 refine wpAny_newObj_type (zg7 fun h₁ hns₁ hk hcl₁=>?_)
 have lt3:∀b∈fp,b<(s2.heap.push { cls:=.type "dict",data:=.dict #[] }).objs.size:=fun b hb=>by rw [zbc8];exact zbb2 (lt2 b hb)
 have I4:Inv (blk X N' scope (s2.heap.push { cls:=.type "dict",data:=.dict #[] }).objs.size { s2 with heap:=s2.heap.push { cls:=.type "dict",data:=.dict #[] },toks:=s2.toks } (upd H2 s2.heap.objs.size (.dK [])) fp pins) [] (capV n cap σ) (upd H2 s2.heap.objs.size (.dK [])) { s2 with heap:=h₁,toks:=s2.toks } :=
  zy8 I3 S hc f3 lt3 (t1:=s2.toks) hns₁ hk hcl₁ (by simp [capV,hN]) (fun i x v e1 e2=>by
   unfold capV at e2
   by_cases hi:i<n
   ·rw [zaz3 (by simpa using hi),zaz7]at e2
    split at e2<;>cases e2
   ·rw [zaz1 (by simpa using hi),zba8,zay1]at e2
    cases ej:cap[i - n]? with
    |none=>rw [ej]at e2;cases e2
    |some j =>
     rw [ej]at e2
     obtain⟨x',a1,a2,a3⟩:=hcap (i - n) j ej
     have:n+(i - n)=i:=by lia
     rw [this,e1]at a1
     cases a1
     refine⟨a3,j,a2,?_⟩
     have e2:(σ[j]?).getD none=some v:=by simpa using e2
     cases q:σ[j]? with
     |none=>rw [q]at e2;cases e2
     |some z=>rw [q]at e2;have:z=some v:=e2;rw [this])
 have loop:codeAny (model X.prog X.w) X.A (.compLoop (.DictComp kx vx [⟨tg,iter,ifs,0⟩,g2] scope pos) 0 (.ref it) (.ref s2.heap.objs.size) (compEnvC scope (cellsFrom ((s2.heap.push { cls:=.type "dict",data:=.dict #[] }).objs.size+1) scope.names (clOf X.env.cells scope.names [])) (s2.heap.push { cls:=.type "dict",data:=.dict #[] }).objs.size X.env))
   (compPost (model X.prog X.w) X.A X.xe none (EP X pins σ Q) (.ref s2.heap.objs.size) (s2.heap.push { cls:=.type "dict",data:=.dict #[] }).objs.size) { s2 with heap:=h₁,toks:=s2.toks }:=by
  generalize hY:(blk X N' scope (s2.heap.push { cls:=.type "dict",data:=.dict #[] }).objs.size { s2 with heap:=s2.heap.push { cls:=.type "dict",data:=.dict #[] },toks:=s2.toks } (upd H2 s2.heap.objs.size (.dK [])) fp pins)=Y at I4
  have st4:tn 0 h₁:=T.keep _ _ _ st2 fun b hb o e=>hk b o (zav8 _ e)
  have stat:∀ {H':Hp},(∀b∈fp,H' b=none)→∀b∈fp,FpOk Y [] H' b:=fun hn b hb=>by
   subst hY
   obtain⟨f0,f1,f2',f3',f4,f5⟩:=f3 b hb
   exact⟨hn b hb,zax4 (lt3 b hb),fun z=>(zav5.mp (I3.stkSub b z)).elim f1 f2',.inl hb,fun x c e=>(by
    rcases S.old I3 e with z | z
    ·exact f4 x c z
    ·exact zbd1 (zbe1 (lt3 b hb) z)),fun p hp=>f5 p (by simpa using hp)⟩
  have hgY:PG Y tg g:=hY ▸ hg _ _ _ _ _
  have htY:PTs Y ifs tt:=hY ▸ ht _ _ _ _ _
  have heY:PEm Y (emT (.DictComp kx vx [⟨tg,iter,ifs,0⟩,g2] scope pos) g2 (.ref s2.heap.objs.size) Y.env) (em s2.heap.objs.size):=by subst hY;exact he _ _ _ _ _ _
  have yp:Y.prog=X.prog:=by subst hY;rfl
  have yw:Y.w=X.w:=by subst hY;rfl
  have yK:Y.K=X.K:=by subst hY;rfl
  have yA:Y.A=X.A:=by subst hY;rfl
  have yc:Y.calm=true:=by subst hY;rfl
  have yx:Y.xe=fun _ _=>False:=by subst hY;rfl
  have ye:Y.env=compEnvC scope (cellsFrom ((s2.heap.push { cls:=.type "dict",data:=.dict #[] }).objs.size+1) scope.names (clOf X.env.cells scope.names [])) (s2.heap.push { cls:=.type "dict",data:=.dict #[] }).objs.size X.env:=by subst hY;rfl
  rw [← ye]
  refine zl9 (emT (.DictComp kx vx [⟨tg,iter,ifs,0⟩,g2] scope pos) g2 (.ref s2.heap.objs.size) Y.env) (zac1 h2) (fun n s' => ∃i σ' H',Inv Y [] σ' H' s'∧tn i s'.heap∧(∀b∈fp,H' b=none)∧W i n σ' H') ?_ m0 ⟨0,_,_,I4,st4,fun b hb=>(f3 b hb).1,w0⟩
  rintro n s3 ⟨i,σ3,H3,I5,st3,fr3,w3⟩
  rcases turn i n σ3 H3 w3 with ⟨stop,qn⟩ | ⟨go,N,hNN,step⟩
  ·have d:=T.done Y yp yw yK yc i [] s3 σ3 H3 (fun _ _=>False) I5 (stat fr3) st3 stop
   rw [yA]at d
   refine thn d fun r s4 ⟨hr,I6⟩=>?_
   subst hr
   obtain⟨m,hm,_⟩:=I6.loc
   rw [ye]at hm
   refine⟨m,hm,fun h' hb=>⟨.ref s2.heap.objs.size,H3,?_,rfl,qn⟩⟩
   subst hY
   exact zs5 I3 f3 rfl I6 hb
  ·have d:=T.item Y yp yw yK yc i [] s3 σ3 H3 (fun _ _=>False) I5 (stat fr3) st3 go
   rw [yA]at d
   refine thn d fun r s4 ⟨u,hr,h4⟩=>?_
   subst hr
   refine thn h4 fun _ s5 ⟨x,H5,I6,r5,y5,st5,fr5⟩=>?_
   have I6':=I6.pinned (stat fr5) (T.obj _ _ st5)
   have a:=hgY _ s5 σ3 H5 x u _ I6' r5 (step x H5 y5)
   rw [yp,yw,yA,yx]at a
   refine thn a fun _ s6 ⟨σ6,H6,I7,q6⟩=>?_
   have b:=htY _ s6 σ6 H6 _ I7 q6
   rw [yp,yw,yA,yx]at b
   refine thn b fun ok s7 ⟨H7,I8,q7⟩=>?_
   have again:∀ {s9:zaw0}{σ9:L2.St}{H9:Hp},Inv Y ([]++zk9 fp s5.heap) σ9 H9 s9→N σ9 H9→∃m,m<n∧∃i σ' H',Inv Y [] σ' H' s9∧tn i s9.heap∧(∀b∈fp,H' b=none)∧W i m σ' H':=fun {s9 σ9 H9} I9 n9=>by
    obtain⟨m',hm,w9⟩:=hNN σ9 H9 n9
    refine⟨m',hm,i+1,σ9,H9,I9.unpinned,T.keep _ _ _ st5 fun b hb o e=>(I9.pin (b,o) (zau6 _ (zau6 _ (zd4 hb e)))).1,fun b hb=>?_,w9⟩
    obtain⟨o,e,d⟩:=T.obj _ _ st5 b hb
    exact (I9.pin (b,o) (zau6 _ (zau6 _ (zd4 hb e)))).2.1
   cases ok with
   |false=>exact iteF (again I8 (by simpa using q7))
   |true =>
    rw [if_pos rfl]at q7
    refine iteT ?_
    have c:=heY _ s7 σ6 H7 _ I8 q7
    rw [yp,yw,yA,yx]at c
    exact thn c fun _ s8 ⟨σ8,H8,I9,n9⟩=>again I9 n9
 exact codeAny_compStart_dict loop (T.self _ 0 _ _ _ (T.keep _ _ _ st2 fun b hb o e=>hk b o (zav8 _ e)) loop)
end L2
namespace DL
open PySem.Spec L2
abbrev KD:=List Key×List D
noncomputable def stKD (a:KD) (x y:Ev):Option KD:=match keyD x.d with
 |some kk=>if scD y.d&&decide (a.1.length<50000) then some (zh1 a.1 a.2 kk y.d) else none
 |none=>none
noncomputable def zi9 (k:D→Th→Option Th) (ft:DT) (fk fv:DE):List D→Th→KD→Option (KD×Th)
 |[],t,a=>some (a,t)
 |d::ds,t,a=>(k d t).bind fun t1=>(ft t1).bind fun b=>if b then (fk t1).bind fun x=>(fv t1).bind fun y=>(stKD a x y).bind fun a1=>zi9 k ft fk fv ds t1 a1 else zi9 k ft fk fv ds t1 a
noncomputable def zj0 (k:D→Th→Option Th) (ft:DT) (fs2:DI) (k2:D→Th→Option Th) (ft2:DT) (fk fv:DE):List D→Th→KD→Option KD
 |[],_,a=>some a
 |d::ds,t,a=>(k d t).bind fun t1=>(ft t1).bind fun b=>if b then (fs2 t1).bind fun q=>(zi9 k2 ft2 fk fv q.2 t1 a).bind fun p=>zj0 k ft fs2 k2 ft2 fk fv ds p.2 p.1 else zj0 k ft fs2 k2 ft2 fk fv ds t1 a
noncomputable def zu3 (n:Nat) (cap:List Nat) (fs:DI) (k:D→Th→Option Th) (ft:DT) (fs2:DI) (k2:D→Th→Option Th) (ft2:DT) (fk fv:DE):DE:=fun t=>(fs t).bind fun q=>(capD t cap).bind fun c =>
 (zj0 k ft fs2 k2 ft2 fk fv q.2 (zav7 n Sl.no++c.2.map Sl.val) ([],[])).map fun a=>.dn (.dct a.1 a.2)
def mK (kvs:List (Key×V)):MO:=⟨.dK kvs,rfl⟩
theorem RS.updFK {K:zau7}{P:List Addr}{H:Hp}{t:Th}{σ:L2.St}{p:Addr}{kvs:List (Key×V)} (R:RS K P H [] t σ) (hp:p∈P):RS K P (upd H p (.dK kvs)) [] t σ where
 mu:=fun q hq=>by
  by_cases z:q=p
  ·exact⟨mK kvs,by rw [z];exact zb4⟩
  ·obtain⟨us,w⟩:=R.mu q hq
   exact⟨us,by rw [zb9 z];exact w⟩
 nd:=zax6
 dj:=fun p hp=>by cases hp
 rel:=RSl.mono (ze3 hp) R.rel fun q hq=>by cases hq
def OkKD (a:KD):Prop:=a.1.length=a.2.length∧a.2.all scD=true
abbrev kvKD (a:KD):List (Key×V):=mkKV a.1 (a.2.map sV)
theorem zaj3 {X:Cx}{F:List Addr}{n:Nat}{cap:List Nat}{fs fs2:DI}{g g2:TG}{kt kt2:D→Th→Option Th}{ft ft2:DT}{fk fv:DE} (hk:∀F',TgOk X.K F' g kt) (hk2:∀F',TgOk X.K F' g2 kt2) {σ:L2.St}{H:Hp}{Q:VK} (h:dE X.K F (zu3 n cap fs kt ft fs2 kt2 ft2 fk fv) σ H Q) :
  zal8 n cap (dI X.K F fs) g (fun σ H Q => ∃F',dT X.K F' ft σ H Q) (zal7 (fun σ H R => ∃F',dI X.K F' fs2 σ H R) g2 (fun σ H Q => ∃F',dT X.K F' ft2 σ H Q) (fun σ H Q => ∃F',dE X.K F' fk σ H Q) (fun σ H Q => ∃F',dE X.K F' fv σ H Q)) σ H Q:=by
 obtain⟨A,t,r,R,e,h⟩:=h
 unfold zu3 at e
 cases e1:fs t with
 |none=>rw [e1]at e;cases e
 |some q =>
  obtain⟨b,ds⟩:=q
  cases e2:capD t cap with
  |none=>rw [e1,e2]at e;cases e
  |some q2 =>
   obtain⟨c,caps⟩:=q2
   rw [e1,e2]at e
   simp only [zav0]at e
   cases e3:zj0 kt ft fs2 kt2 ft2 fk fv ds (zav7 n Sl.no++caps.map Sl.val) ([],[]) with
   |none=>rw [e3]at e;cases e
   |some xs =>
    rw [e3]at e
    cases e
    obtain⟨cvs,cv1,cv2⟩:=zp4 R e2
    obtain⟨F',F'def⟩:∃F',F'=hidF (b&&c) A F:=⟨_,rfl⟩
    have subF:∀x∈F',x∈A++F:=fun x hx=>by
     rw [F'def]at hx
     unfold hidF at hx
     split at hx
     ·exact hx
     ·exact zau6 _ hx
    have lessB:∀H:Hp,Same (hide (hidF b A F) H) (hide F' H):=fun H=>za7 H fun x hx=>by
     rw [F'def]at hx
     cases b<;>cases c<;>simp [hidF]at hx ⊢<;>first | exact hx | exact .inr hx | (rcases hx with z | z<;>simp [z])
    have lessC:∀H:Hp,Same (hide (hidF c A F) H) (hide F' H):=fun H=>za7 H fun x hx=>by
     rw [F'def]at hx
     cases b<;>cases c<;>simp [hidF]at hx ⊢<;>first | exact hx | exact .inr hx | (rcases hx with z | z<;>simp [z])
    refine⟨A,t,b,ds,R,e1,fun J H1 Good gs src gd Dd hD=>?_⟩
    have H1A:Lists H1 (A++F):=R.mu.mono gs
    have st0:Same (hide F' H1) (hide (Dd::F') (upd H1 Dd (.dK []))):=zi6 hD
    refine⟨fun i m σ' H'=>i+m=ds.length∧∃th a,RS X.K (Dd::F') H' [] th σ'∧zj0 kt ft fs2 kt2 ft2 fk fv (ds.drop i) th a=some xs∧H' Dd=some (.dK (kvKD a))∧OkKD a∧Same H1 H'∧Good (Dd::F') H',
     ⟨ds.length,by lia,_,([],[]),⟨?_,zax6,fun p hp=>(by cases hp),?_⟩,by simpa using e3,zb4,⟨rfl,rfl⟩,zc4 hD,src.keep _ _ _ _ gd (fun b o z=>st0 _ _ (lessB _ _ _ z))⟩,?_⟩
    ·intro q hq
     have hq:q∈Dd::F':=hq
     rcases zav5.mp hq with z | z
     ·exact⟨mK [],by rw [z];exact zb4⟩
     ·obtain⟨us,w⟩:=H1A q (subF q z)
      exact⟨us,(zc4 hD) _ _ w⟩
    ·unfold capV
     rw [cv1]
     exact RSl.noVals (Reps.mono (fun b o z=>st0 _ _ (lessC H1 _ _ (za8 gs _ _ z))) cv2) n
    ·rintro i m σ' H' ⟨hm,th,a,RR,ec,hv,ok,sm,gg⟩
     cases m with
     |zero =>
      have z:i=ds.length:=by lia
      subst z
      rw [zbb6]at ec
      cases ec
      exact .inl ⟨src.stop _ _ gg,h _ H' (gs.trans sm) ⟨[Dd],by simp,fun b hb=>by simp at hb;subst hb;exact Same.free gs hD,.dct (vs:=xs.2.map sV) (by simpa using ok.1) hv (zag4 ok.2)⟩⟩
     |succ m =>
      have hil:i<ds.length:=by lia
      refine .inr ⟨src.go _ _ i gg hil,fun σ' H'=>i+1+m=ds.length∧∃th a,RS X.K (Dd::F') H' [] th σ'∧zj0 kt ft fs2 kt2 ft2 fk fv (ds.drop (i+1)) th a=some xs∧H' Dd=some (.dK (kvKD a))∧OkKD a∧Same H1 H'∧Good (Dd::F') H',
       fun σ' H' q=>⟨m,zaz6 m,q⟩,fun x H2 y=>?_⟩
      obtain⟨gs2,d,hd,rd⟩:=src.yld _ _ i x H2 gg RR.mu y hil
      have ed:ds.drop i=d::ds.drop (i+1):=by
       have hd':ds[i]=d:=by
        rw [zav4 hil]at hd
        exact Option.some.inj hd
       rw [← hd']
       exact zay3 hil
      rw [ed]at ec
      unfold zj0 at ec
      cases k1:kt d th with
      |none=>rw [k1]at ec;cases ec
      |some t1 =>
       rw [k1]at ec
       simp only [zav0]at ec
       refine hk (Dd::F') σ' H2 [] th t1 d x _ (RR.grow gs2) rd k1 fun σ2 A2 gr2 R2=>?_
       have A20:=zj2 R2 gr2
       subst A20
       cases k2:ft t1 with
       |none=>rw [k2]at ec;cases ec
       |some bb =>
        rw [k2]at ec
        simp only [zav0]at ec
        refine⟨Dd::F',[],t1,bb,R2,k2,fun H3 gs3=>?_⟩
        cases bb with
        |false =>
         refine iteF ⟨by lia,t1,a,R2.grow gs3,by simpa using ec,gs3 _ _ (gs2 _ _ hv),ok,(sm.trans gs2).trans gs3,src.keep _ _ _ _ gg (za8 (gs2.trans gs3))⟩
        |true =>
         simp only [if_true]at ec
         cases k3:fs2 t1 with
         |none=>rw [k3]at ec;cases ec
         |some q2 =>
          obtain⟨b2,ds2⟩:=q2
          rw [k3]at ec
          simp only [zav0]at ec
          cases k4:zi9 kt2 ft2 fk fv ds2 t1 a with
          |none=>rw [k4]at ec;cases ec
          |some pp =>
           obtain⟨aE,tE⟩:=pp
           rw [k4]at ec
           simp only [zav0]at ec
           have k5:=ec
           refine iteT ⟨Dd::F',[],t1,b2,ds2,R2.grow gs3,k3,fun J2 H4 Good2 gs4 src2 gd2=>?_⟩
           have gd2:Good2 (Dd::F') H4:=by
            have e9:hidF b2 [] (Dd::F')=Dd::F':=by unfold hidF;split<;>simp
            rw [e9]at gd2;exact gd2
           have s4:=(gs2.trans gs3).trans gs4
           refine⟨fun j k σj Hj=>j+k=ds2.length∧∃tj aj,RS X.K (Dd::F') Hj [] tj σj∧zi9 kt2 ft2 fk fv (ds2.drop j) tj aj=some (aE,tE)∧Hj Dd=some (.dK (kvKD aj))∧OkKD aj∧Same H1 Hj∧Good (Dd::F') Hj∧Good2 (Dd::F') Hj,
            ⟨ds2.length,by lia,t1,a,(R2.grow gs3).grow gs4,by simpa using k4,s4 _ _ hv,ok,sm.trans s4,src.keep _ _ _ _ gg (za8 s4),gd2⟩,?_⟩
           rintro j k σj Hj ⟨hjk,tj,aj,Rj,ej,hvj,okj,smj,ggj,gg2⟩
           cases k with
           |zero =>
            have z:j=ds2.length:=by lia
            subst z
            rw [zbb6]at ej
            cases ej
            exact .inl ⟨src2.stop _ _ gg2,by lia,_,_,Rj,k5,hvj,okj,smj,ggj⟩
           |succ k =>
            have hjl:j<ds2.length:=by lia
            refine .inr ⟨src2.go _ _ j gg2 hjl,fun σj Hj=>j+1+k=ds2.length∧∃tj aj,RS X.K (Dd::F') Hj [] tj σj∧zi9 kt2 ft2 fk fv (ds2.drop (j+1)) tj aj=some (aE,tE)∧Hj Dd=some (.dK (kvKD aj))∧OkKD aj∧Same H1 Hj∧Good (Dd::F') Hj∧Good2 (Dd::F') Hj,
             fun σ' H' q=>⟨k,zaz6 k,q⟩,fun xj H5 yj=>?_⟩
            obtain⟨gs5,dj,hdj,rdj⟩:=src2.yld _ _ j xj H5 gg2 Rj.mu yj hjl
            have edj:ds2.drop j=dj::ds2.drop (j+1):=by
             have hd':ds2[j]=dj:=by
              rw [zav4 hjl]at hdj
              exact Option.some.inj hdj
             rw [← hd']
             exact zay3 hjl
            rw [edj]at ej
            unfold zi9 at ej
            cases w1:kt2 dj tj with
            |none=>rw [w1]at ej;cases ej
            |some t6 =>
             rw [w1]at ej
             simp only [zav0]at ej
             refine hk2 (Dd::F') σj H5 [] tj t6 dj xj _ (Rj.grow gs5) rdj w1 fun σ6 A6 gr6 R6=>?_
             have A60:=zj2 R6 gr6
             subst A60
             cases w2:ft2 t6 with
             |none=>rw [w2]at ej;cases ej
             |some b6 =>
              rw [w2]at ej
              simp only [zav0]at ej
              refine⟨Dd::F',[],t6,b6,R6,w2,fun H6 gs6=>?_⟩
              cases b6 with
              |false =>
               exact iteF ⟨by lia,t6,aj,R6.grow gs6,by simpa using ej,gs6 _ _ (gs5 _ _ hvj),okj,(smj.trans gs5).trans gs6,src.keep _ _ _ _ ggj (za8 (gs5.trans gs6)),src2.keep _ _ _ _ gg2 (za8 (gs5.trans gs6))⟩
              |true =>
               simp only [if_true]at ej
               cases w3:fk t6 with
               |none=>rw [w3]at ej;cases ej
               |some rk =>
                rw [w3]at ej
                simp only [zav0]at ej
                cases w4:fv t6 with
                |none=>rw [w4]at ej;cases ej
                |some rv =>
                 rw [w4]at ej
                 simp only [zav0]at ej
                 cases w5:stKD aj rk rv with
                 |none=>rw [w5]at ej;cases ej
                 |some a1 =>
                  rw [w5]at ej
                  simp only [zav0]at ej
                  unfold stKD at w5
                  split at w5
                  case h_2=>cases w5
                  rename_i kk ek
                  split at w5
                  case isFalse=>cases w5
                  rename_i c5
                  rw [zav3,decide_eq_true_eq]at c5
                  cases w5
                  refine iteT ⟨Dd::F',[],t6,rk,R6.grow gs6,w3,fun x H7 gs7 q7=>⟨Dd::F',[],t6,rv,(R6.grow gs6).grow gs7,w4,fun y H8 gs8 q8=>?_⟩⟩
                  have ex:=zx7 q7.full ek
                  have ey:=rep_sc q8.full c5.1
                  subst ex ey
                  have s8:=((gs5.trans gs6).trans gs7).trans gs8
                  obtain⟨pz,pl⟩:=put_zip kk rv.d okj.1
                  have hu:Same (hide (Dd::F') H8) (hide (Dd::F') (upd H8 Dd (.dK (putK (kvKD aj) kk (sV rv.d))))):=ze3 (zav1 ..)
                  refine⟨kvKD aj,kk,rfl,s8 _ _ hvj,?_,by lia,t6,zh1 aj.1 aj.2 kk rv.d,RS.updFK (((R6.grow gs6).grow gs7).grow gs8) (zav1 ..),ej,?_,⟨pl,put_sc c5.1 okj.2⟩,?_,?_,?_⟩
                  ·unfold kvKD mkKV
                   rw [zbc2]
                   exact zaz4 (zbf0 _ _) (zaw1 c5.2 (by rw [sizeLine_eq];decide))
                  ·rw [zb4];exact congrArg (fun z=>some (HO.dK z)) pz
                  ·exact fun b o z=>by
                    rw [zb9 (fun w=>by rw [w,hD]at z;cases z)]
                    exact s8 _ _ (smj _ _ z)
                  ·exact src.keep _ _ _ _ ggj (fun b o z=>hu _ _ (za8 s8 _ _ z))
                  ·exact src2.keep _ _ _ _ gg2 (fun b o z=>hu _ _ (za8 s8 _ _ z))
theorem zae2 {X:Cx}{F:List Addr}{kx vx tg iter tg2 iter2:Expr}{ifs ifs2:List Expr}{scope:Scope}{pos:Pos}{fs fs2:DI}{g g2:TG}{kt kt2:D→Th→Option Th}{ft ft2:DT}{fk fv:DE} (n:Nat) (cap:List Nat) (N':List Str) (hc:X.calm=true) (hi:PI X tg iter (dI X.K F fs))
  (hg:∀C s₃ H₃ fp pins,PG (blk X N' scope C s₃ H₃ fp pins) tg g) (hk:∀F',TgOk X.K F' g kt) (ht:∀C s₃ H₃ fp pins F',PTs (blk X N' scope C s₃ H₃ fp pins) ifs (dT X.K F' ft))
  (hi2:∀C s₃ H₃ fp pins F',PI (blk X N' scope C s₃ H₃ fp pins) tg2 iter2 (dI X.K F' fs2)) (hg2:∀C s₃ H₃ fp pins,PG (blk X N' scope C s₃ H₃ fp pins) tg2 g2) (hk2:∀F',TgOk X.K F' g2 kt2) (ht2:∀C s₃ H₃ fp pins F',PTs (blk X N' scope C s₃ H₃ fp pins) ifs2 (dT X.K F' ft2))
  (hkx:∀C s₃ H₃ fp pins F',PE (blk X N' scope C s₃ H₃ fp pins) kx (dE X.K F' fk)) (hvx:∀C s₃ H₃ fp pins F',PE (blk X N' scope C s₃ H₃ fp pins) vx (dE X.K F' fv))
  (hkd:scope.kind=.function:=by rfl) (hcs:zr4 scope.names X.env.kindOf=true:=by rfl) (hN:N'.length=n+cap.length:=by rfl) (hcap:zv3 N' X.N n scope.names 0 cap=true:=by rfl)
  (hs:∀x,foldedSetIterable iter X.env x=pure x:=by intro _;rfl) (hs2:∀C s₃ H₃ fp pins x,foldedSetIterable iter2 (blk X N' scope C s₃ H₃ fp pins).env x=pure x:=by intros;rfl) :
  PE X (.DictComp kx vx [⟨tg,iter,ifs,0⟩,⟨tg2,iter2,ifs2,0⟩] scope pos) (dE X.K F (zu3 n cap fs kt ft fs2 kt2 ft2 fk fv)) :=
 PE.imp (zan9 (g:=g) (zac2 hkd hcs) hc hi hN (fun k j e=>by simpa using zm4 hcap k j e) hg (fun C s₃ H₃ fp pins pins' s σ H Q I ⟨F',q⟩=>ht C s₃ H₃ fp pins F' pins' s σ H Q I q)
  (fun C s₃ H₃ fp pins D=>zaj8 rfl rfl (fun pins' s σ H R I ⟨F',q⟩=>hi2 C s₃ H₃ fp pins F' pins' s σ H R I q) (hg2 C s₃ H₃ fp pins) (fun pins' s σ H Q I ⟨F',q⟩=>ht2 C s₃ H₃ fp pins F' pins' s σ H Q I q) (fun pins' s σ H Q I ⟨F',q⟩=>hkx C s₃ H₃ fp pins F' pins' s σ H Q I q) (fun pins' s σ H Q I ⟨F',q⟩=>hvx C s₃ H₃ fp pins F' pins' s σ H Q I q) (hs2 C s₃ H₃ fp pins)) rfl hs) fun _ _ _ h=>zaj3 hk hk2 h
def zas1:DS:=fun _=>none
theorem zam8 {X:Cx}{F:List Addr}{st:Stmt}:PS X st (dS X.K F zas1):=by
 intro E pins s σ H I h
 obtain⟨A,t,o,R,e,h⟩:=h
 cases e
end DL
namespace L2
open PySem.Spec
noncomputable def tCompD (n:Nat) (cap:List Nat) (wi:TI) (g:TG) (tt:TT) (tk tv:TE):TE:=fun σ H Q=>wi σ H fun J H1 => ∀D,H1 D=none→∃W:Nat→Nat→L2.St→Hp→Prop,(∃m,W 0 m (capV n cap σ) (upd H1 D (.dK [])))∧∀i m σ' H',W i m σ' H' →
 (J.stop i H'∧Q (.ref D) H')∨(J.go i H'∧∃N:L2.St→Hp→Prop,(∀σ'' H'',N σ'' H''→∃m',m' < m∧W (i+1) m' σ'' H'')∧∀x H2,J.yld i H' x H2→g x σ' H2 fun σ2 H3=>tt σ2 H3 fun b H4 =>
  if b=true then tk σ2 H4 fun x H5=>tv σ2 H5 fun y H6 => ∃kvs k,x=kV k∧H6 D=some (.dK kvs)∧kvs.length<sizeLine∧N σ2 (upd H6 D (.dK (putK kvs k y))) else N σ2 H4)
theorem pe_compD {X:Cx}{kx vx tg iter:Expr}{ifs:List Expr}{scope:Scope}{pos:Pos}{n:Nat}{cap:List Nat}{N':List Str}{wi:TI}{g:TG}{tt:TT}{tk tv:TE} (S:CompSc X scope) (hc:X.calm=true) (hi:PI X tg iter wi)
  (hN:N'.length=n+cap.length) (hcap:∀(k:Nat) (j:Nat),cap[k]?=some j→∃x,N'[n+k]?=some x∧X.N[j]?=some x∧(x,NameKind.free)∈scope.names)
  (hg:∀C s₃ H₃ fp pins,PG (blk X N' scope C s₃ H₃ fp pins) tg g) (ht:∀C s₃ H₃ fp pins,PTs (blk X N' scope C s₃ H₃ fp pins) ifs tt) (hkx:∀C s₃ H₃ fp pins,PE (blk X N' scope C s₃ H₃ fp pins) kx tk) (hvx:∀C s₃ H₃ fp pins,PE (blk X N' scope C s₃ H₃ fp pins) vx tv)
  (hs:∀x,foldedSetIterable iter X.env x=pure x:=by intro _;rfl):PE X (.DictComp kx vx [⟨tg,iter,ifs,0⟩] scope pos) (tCompD n cap wi g tt tk tv):=by
 intro pins s σ H Q I h
 rw [arm_eval_DictComp]
 refine wpAny_comprehension_free (use:=none) rfl hs (zm3 (S.frees I.ok)) S.kind (fun x hx hl=>by rw [S.names x hx,hl]) (thn (hi pins s σ H _ I h) fun v s1 h1=>thn h1 fun itv s2 h2=>?_)
 obtain⟨it,fp,tn,J,H2,e,I2,T,st2,f2,R⟩:=h2
 subst e
 have lt2:∀b∈fp,b<s2.heap.objs.size:=fun b hb=>by obtain⟨o,e,_⟩:=T.obj _ _ st2 b hb;exact zaw5 e
 have hD:H2 s2.heap.objs.size=none:=I2.fresh
 obtain⟨W,⟨m0,w0⟩,turn⟩:=R s2.heap.objs.size hD
 have I3:Inv X pins σ (upd H2 s2.heap.objs.size (.dK [])) { s2 with heap:=s2.heap.push { cls:=.type "dict",data:=.dict #[] },toks:=s2.toks }:=I2.laid (a:=s2.heap.objs.size) (o:=.dK []) (t':=s2.toks) (fun _ _ q=>zav8 _ q) (zaw9 _) (zy3 s2.heap I2.big)
 have f3:∀b∈fp,FpOk X pins (upd H2 s2.heap.objs.size (.dK [])) b:=fun b hb=>⟨by rw [zb9 (zax4 (lt2 b hb))];exact (f2 b hb).1,(f2 b hb).2⟩
 refine wpAny_newObj_type (zg7 fun h₁ hns₁ hk hcl₁=>?_)
 have lt3:∀b∈fp,b<(s2.heap.push { cls:=.type "dict",data:=.dict #[] }).objs.size:=fun b hb=>by rw [zbc8];exact zbb2 (lt2 b hb)
 have I4:Inv (blk X N' scope (s2.heap.push { cls:=.type "dict",data:=.dict #[] }).objs.size { s2 with heap:=s2.heap.push { cls:=.type "dict",data:=.dict #[] },toks:=s2.toks } (upd H2 s2.heap.objs.size (.dK [])) fp pins) [] (capV n cap σ) (upd H2 s2.heap.objs.size (.dK [])) { s2 with heap:=h₁,toks:=s2.toks } :=
  zy8 I3 S hc f3 lt3 (t1:=s2.toks) hns₁ hk hcl₁ (by simp [capV,hN]) (fun i x v e1 e2=>by
   unfold capV at e2
   by_cases hi:i<n
   ·rw [zaz3 (by simpa using hi),zaz7]at e2
    split at e2<;>cases e2
   ·rw [zaz1 (by simpa using hi),zba8,zay1]at e2
    cases ej:cap[i - n]? with
    |none=>rw [ej]at e2;cases e2
    |some j =>
     rw [ej]at e2
     obtain⟨x',a1,a2,a3⟩:=hcap (i - n) j ej
     have:n+(i - n)=i:=by lia
     rw [this,e1]at a1
     cases a1
     refine⟨a3,j,a2,?_⟩
     have e2:(σ[j]?).getD none=some v:=by simpa using e2
     cases q:σ[j]? with
     |none=>rw [q]at e2;cases e2
     |some z=>rw [q]at e2;have:z=some v:=e2;rw [this])
 have loop:codeAny (model X.prog X.w) X.A (.compLoop (.DictComp kx vx [⟨tg,iter,ifs,0⟩] scope pos) 0 (.ref it) (.ref s2.heap.objs.size) (compEnvC scope (cellsFrom ((s2.heap.push { cls:=.type "dict",data:=.dict #[] }).objs.size+1) scope.names (clOf X.env.cells scope.names [])) (s2.heap.push { cls:=.type "dict",data:=.dict #[] }).objs.size X.env))
   (compPost (model X.prog X.w) X.A X.xe none (EP X pins σ Q) (.ref s2.heap.objs.size) (s2.heap.push { cls:=.type "dict",data:=.dict #[] }).objs.size) { s2 with heap:=h₁,toks:=s2.toks }:=by
  generalize hY:(blk X N' scope (s2.heap.push { cls:=.type "dict",data:=.dict #[] }).objs.size { s2 with heap:=s2.heap.push { cls:=.type "dict",data:=.dict #[] },toks:=s2.toks } (upd H2 s2.heap.objs.size (.dK [])) fp pins)=Y at I4
  have st4:tn 0 h₁:=T.keep _ _ _ st2 fun b hb o e=>hk b o (zav8 _ e)
  have stat:∀ {H':Hp},(∀b∈fp,H' b=none)→∀b∈fp,FpOk Y [] H' b:=fun hn b hb=>by
   subst hY
   obtain⟨f0,f1,f2',f3',f4,f5⟩:=f3 b hb
   exact⟨hn b hb,zax4 (lt3 b hb),fun z=>(zav5.mp (I3.stkSub b z)).elim f1 f2',.inl hb,fun x c e=>(by
    rcases S.old I3 e with z | z
    ·exact f4 x c z
    ·exact zbd1 (zbe1 (lt3 b hb) z)),fun p hp=>f5 p (by simpa using hp)⟩
  have hgY:PG Y tg g:=hY ▸ hg _ _ _ _ _
  have htY:PTs Y ifs tt:=hY ▸ ht _ _ _ _ _
  have hkY:PE Y kx tk:=hY ▸ hkx _ _ _ _ _
  have hvY:PE Y vx tv:=hY ▸ hvx _ _ _ _ _
  have yp:Y.prog=X.prog:=by subst hY;rfl
  have yw:Y.w=X.w:=by subst hY;rfl
  have yK:Y.K=X.K:=by subst hY;rfl
  have yA:Y.A=X.A:=by subst hY;rfl
  have yc:Y.calm=true:=by subst hY;rfl
  have yx:Y.xe=fun _ _=>False:=by subst hY;rfl
  have ye:Y.env=compEnvC scope (cellsFrom ((s2.heap.push { cls:=.type "dict",data:=.dict #[] }).objs.size+1) scope.names (clOf X.env.cells scope.names [])) (s2.heap.push { cls:=.type "dict",data:=.dict #[] }).objs.size X.env:=by subst hY;rfl
  rw [← ye]
  refine zl9 (do
      let kv ← eval kx Y.env
      let vv ← holding [kv] (eval vx Y.env)
      standAt { kx.pos with endLine:=vx.pos.endLine,endCol:=vx.pos.endCol }
      holding [kv,vv] (dictSet s2.heap.objs.size kv vv)) (compTurn_dict _ _ _ _ _ _ _ _ _ _) (fun n s' => ∃i σ' H',Inv Y [] σ' H' s'∧tn i s'.heap∧(∀b∈fp,H' b=none)∧W i n σ' H') ?_ m0 ⟨0,_,_,I4,st4,fun b hb=>(f3 b hb).1,w0⟩
  rintro n s3 ⟨i,σ3,H3,I5,st3,fr3,w3⟩
  rcases turn i n σ3 H3 w3 with ⟨stop,qn⟩ | ⟨go,N,hNN,step⟩
  ·have d:=T.done Y yp yw yK yc i [] s3 σ3 H3 (fun _ _=>False) I5 (stat fr3) st3 stop
   rw [yA]at d
   refine thn d fun r s4 ⟨hr,I6⟩=>?_
   subst hr
   obtain⟨m,hm,_⟩:=I6.loc
   rw [ye]at hm
   refine⟨m,hm,fun h' hb=>⟨.ref s2.heap.objs.size,H3,?_,rfl,qn⟩⟩
   subst hY
   exact zs5 I3 f3 rfl I6 hb
  ·have d:=T.item Y yp yw yK yc i [] s3 σ3 H3 (fun _ _=>False) I5 (stat fr3) st3 go
   rw [yA]at d
   refine thn d fun r s4 ⟨u,hr,h4⟩=>?_
   subst hr
   refine thn h4 fun _ s5 ⟨x,H5,I6,r5,y5,st5,fr5⟩=>?_
   have I6':=I6.pinned (stat fr5) (T.obj _ _ st5)
   have a:=hgY _ s5 σ3 H5 x u _ I6' r5 (step x H5 y5)
   rw [yp,yw,yA,yx]at a
   refine thn a fun _ s6 ⟨σ6,H6,I7,q6⟩=>?_
   have b:=htY _ s6 σ6 H6 _ I7 q6
   rw [yp,yw,yA,yx]at b
   refine thn b fun ok s7 ⟨H7,I8,q7⟩=>?_
   have again:∀ {s9:zaw0}{H9:Hp},Inv Y ([]++zk9 fp s5.heap) σ6 H9 s9→N σ6 H9→∃m,m<n∧∃i σ' H',Inv Y [] σ' H' s9∧tn i s9.heap∧(∀b∈fp,H' b=none)∧W i m σ' H':=fun {s9 H9} I9 n9=>by
    obtain⟨m',hm,w9⟩:=hNN σ6 H9 n9
    refine⟨m',hm,i+1,σ6,H9,I9.unpinned,T.keep _ _ _ st5 fun b hb o e=>(I9.pin (b,o) (zau6 _ (zau6 _ (zd4 hb e)))).1,fun b hb=>?_,w9⟩
    obtain⟨o,e,d⟩:=T.obj _ _ st5 b hb
    exact (I9.pin (b,o) (zau6 _ (zau6 _ (zd4 hb e)))).2.1
   cases ok with
   |false=>exact iteF (again I8 (by simpa using q7))
   |true =>
    rw [if_pos rfl]at q7
    refine iteT ?_
    have c:=hkY _ s7 σ6 H7 _ I8 q7
    rw [yp,yw,yA,yx]at c
    refine zaw3 (thn c fun kv s8 ⟨vk,H8,I9,rk,q9⟩=>zaw3 (wpAny_holding ?_))
    have d:=hvY _ s8 σ6 H8 _ I9 q9
    rw [yp,yw,yA,yx]at d
    refine thn d fun vv s9 ⟨vy,H9,I10,rv,kvs,kk,ek,hD',hl,n9⟩=>zaw3 (wpAny_standAt (wpAny_holding ?_))
    subst ek
    have e:=d_set (A:=Y.A) (E:=fun _ _=>False) (Q:=fun _ s' => ∃m,m<n∧∃i σ' H',Inv Y [] σ' H' s'∧tn i s'.heap∧(∀b∈fp,H' b=none)∧W i m σ' H') I10 hD' rk rv hl fun s' I11=>again I11 n9
    rw [yp,yw,yA]at e
    exact e
 exact codeAny_compStart_dict loop (T.self _ 0 _ _ _ (T.keep _ _ _ st2 fun b hb o e=>hk b o (zav8 _ e)) loop)
end L2
namespace DL
open PySem.Spec L2
theorem zah0 {K:zau7}{H:Hp} (k:Key) {d:D}{v:V} (rd:Rep K H d v) {ks:List Key}{ds:List D}{vs:List V} (l:ks.length=vs.length) (r:Reps K H ds vs) :
  ∃vs':List V,putK (mkKV ks vs) k v=mkKV (zh1 ks ds k d).1 vs'∧(zh1 ks ds k d).1.length=vs'.length∧Reps K H (zh1 ks ds k d).2 vs':=by
 have ha:(mkKV ks vs).any (fun kv=>decide (kv.1=k))=hasK ks k:=by
  rw [zw4,zx8 k l]
 unfold putK zh1
 rw [ha]
 by_cases hc:hasK ks k=true
 ·rw [if_pos hc,if_pos hc]
  refine⟨zbf9 (fun k' v'=>if k'=k then v else v') ks vs,?_,by simp;lia,?_⟩
  ·clear hc ha r
   unfold mkKV
   induction ks generalizing vs with
   |nil=>simp
   |cons k' ks ih =>
    cases vs with
    |nil=>simp at l
    |cons v' vs =>
     have i:=ih (vs:=vs) (by simpa using l)
     simp only [zbb0,zav6,zaz2,i]
     by_cases e:k'=k
     ·simp [e]
     ·simp [e]
  ·clear hc ha
   induction ks generalizing vs ds with
   |nil=>exact .nil
   |cons k' ks ih =>
    cases vs with
    |nil=>simp at l
    |cons v' vs =>
     cases r with
     |cons r1 r2 =>
      have i:=ih (by simpa using l) r2
      simp only [zaz2]
      refine .cons ?_ i
      by_cases e:k'=k
      ·rw [if_pos e,if_pos e];exact rd
      ·rw [if_neg e,if_neg e];exact r1
 ·rw [if_neg hc,if_neg hc]
  refine⟨vs++[v],?_,by simp;lia,r.app (Reps.one rd)⟩
  unfold mkKV
  rw [List.zip_append l]
  rfl
theorem zz6 {ks:List Key}{k:Key}{d:D} (sd:flat d=true):∀ {ds:List D},flats ds=true→flats (zh1 ks ds k d).2=true:=fun {ds} s=>by
 have ap:∀l:List D,flats l=true→flats (l++[d])=true:=by
  intro l
  induction l with
  |nil=>intro _;simp [flats,sd]
  |cons a l ih =>
   intro h
   simp only [flats,zav3]at h
   simp only [List.cons_append,flats,zav3]
   exact⟨h.1,ih h.2⟩
 unfold zh1
 split
 ·show flats (zbf9 _ ks ds)=true
  rename_i hc
  clear hc
  induction ks generalizing ds with
  |nil=>simp [flats]
  |cons k' ks ih =>
   cases ds with
   |nil=>simp [flats]
   |cons d' ds =>
    simp only [flats,zav3]at s
    simp only [zaz2,flats,zav3]
    refine⟨?_,ih s.2⟩
    split
    ·exact sd
    ·exact s.1
 ·exact ap ds s
noncomputable def stKF (a:KD) (x y:Ev):Option KD:=match keyD x.d with
 |some kk=>if flat y.d&&decide (a.1.length<50000) then some (zh1 a.1 a.2 kk y.d) else none
 |none=>none
noncomputable def zh7 (k:D→Th→Option Th) (ft:DT) (fk fv:DE):List D→Th→KD→Option KD
 |[],_,a=>some a
 |d::ds,t,a=>(k d t).bind fun t1=>(ft t1).bind fun b=>if b then (fk t1).bind fun x=>(fv t1).bind fun y=>(stKF a x y).bind fun a1=>zh7 k ft fk fv ds t1 a1 else zh7 k ft fk fv ds t1 a
noncomputable def zq5 (n:Nat) (cap:List Nat) (fs:DI) (k:D→Th→Option Th) (ft:DT) (fk fv:DE):DE:=fun t=>(fs t).bind fun q=>(capD t cap).bind fun c =>
 (zh7 k ft fk fv q.2 (zav7 n Sl.no++c.2.map Sl.val) ([],[])).map fun a=>.dn (.dct a.1 a.2)
theorem zaj4 {X:Cx}{F:List Addr}{n:Nat}{cap:List Nat}{fs:DI}{g:TG}{kt:D→Th→Option Th}{ft:DT}{fk fv:DE} (hk:∀F',TgOk X.K F' g kt) {σ:L2.St}{H:Hp}{Q:VK} (h:dE X.K F (zq5 n cap fs kt ft fk fv) σ H Q) :
  tCompD n cap (dI X.K F fs) g (fun σ H Q => ∃F',dT X.K F' ft σ H Q) (fun σ H Q => ∃F',dE X.K F' fk σ H Q) (fun σ H Q => ∃F',dE X.K F' fv σ H Q) σ H Q:=by
 obtain⟨A,t,r,R,e,h⟩:=h
 unfold zq5 at e
 cases e1:fs t with
 |none=>rw [e1]at e;cases e
 |some q =>
  obtain⟨b,ds⟩:=q
  cases e2:capD t cap with
  |none=>rw [e1,e2]at e;cases e
  |some q2 =>
   obtain⟨c,caps⟩:=q2
   rw [e1,e2]at e
   simp only [zav0]at e
   cases e3:zh7 kt ft fk fv ds (zav7 n Sl.no++caps.map Sl.val) ([],[]) with
   |none=>rw [e3]at e;cases e
   |some xs =>
    rw [e3]at e
    cases e
    obtain⟨cvs,cv1,cv2⟩:=zp4 R e2
    obtain⟨F',F'def⟩:∃F',F'=hidF (b&&c) A F:=⟨_,rfl⟩
    have subF:∀x∈F',x∈A++F:=fun x hx=>by
     rw [F'def]at hx
     unfold hidF at hx
     split at hx
     ·exact hx
     ·exact zau6 _ hx
    have lessB:∀H:Hp,Same (hide (hidF b A F) H) (hide F' H):=fun H=>za7 H fun x hx=>by
     rw [F'def]at hx
     cases b<;>cases c<;>simp [hidF]at hx ⊢<;>first | exact hx | exact .inr hx | (rcases hx with z | z<;>simp [z])
    have lessC:∀H:Hp,Same (hide (hidF c A F) H) (hide F' H):=fun H=>za7 H fun x hx=>by
     rw [F'def]at hx
     cases b<;>cases c<;>simp [hidF]at hx ⊢<;>first | exact hx | exact .inr hx | (rcases hx with z | z<;>simp [z])
    refine⟨A,t,b,ds,R,e1,fun J H1 Good gs src gd Dd hD=>?_⟩
    have H1A:Lists H1 (A++F):=R.mu.mono gs
    have st0:Same (hide F' H1) (hide (Dd::F') (upd H1 Dd (.dK []))):=zi6 hD
    refine⟨fun i m σ' H'=>i+m=ds.length∧∃th a vs,RS X.K (Dd::F') H' [] th σ'∧zh7 kt ft fk fv (ds.drop i) th a=some xs∧H' Dd=some (.dK (mkKV a.1 vs))∧a.1.length=vs.length∧Reps X.K (hide (Dd::F') H') a.2 vs∧flats a.2=true∧Same H1 H'∧Good (Dd::F') H',
     ⟨ds.length,by lia,_,([],[]),[],⟨?_,zax6,fun p hp=>(by cases hp),?_⟩,by simpa using e3,zb4,rfl,.nil,rfl,zc4 hD,src.keep _ _ _ _ gd (fun b o z=>st0 _ _ (lessB _ _ _ z))⟩,?_⟩
    ·intro q hq
     have hq:q∈Dd::F':=hq
     rcases zav5.mp hq with z | z
     ·exact⟨mK [],by rw [z];exact zb4⟩
     ·obtain⟨us,w⟩:=H1A q (subF q z)
      exact⟨us,(zc4 hD) _ _ w⟩
    ·unfold capV
     rw [cv1]
     exact RSl.noVals (Reps.mono (fun b o z=>st0 _ _ (lessC H1 _ _ (za8 gs _ _ z))) cv2) n
    ·rintro i m σ' H' ⟨hm,th,a,vs,RR,ec,hv,lv,hr,fl,sm,gg⟩
     cases m with
     |zero =>
      have z:i=ds.length:=by lia
      subst z
      rw [zbb6]at ec
      cases ec
      refine .inl ⟨src.stop _ _ gg,h _ H' (gs.trans sm) ⟨[Dd],by simp,fun b hb=>by simp at hb;subst hb;exact Same.free gs hD,.dct (vs:=vs) lv hv (RepDs.of_flat fl (Reps.hid (fun q hq=>?_) fl (Reps.mono (zb3 _ _) hr)))⟩⟩
      rcases zav2.mp hq with z | z
      ·exact⟨mK (mkKV xs.1 vs),by rw [zax0.mp z];exact hv⟩
      ·obtain⟨us,w⟩:=H1A q z
       exact⟨us,sm _ _ w⟩
     |succ m =>
      have hil:i<ds.length:=by lia
      refine .inr ⟨src.go _ _ i gg hil,fun σ' H'=>i+1+m=ds.length∧∃th a vs,RS X.K (Dd::F') H' [] th σ'∧zh7 kt ft fk fv (ds.drop (i+1)) th a=some xs∧H' Dd=some (.dK (mkKV a.1 vs))∧a.1.length=vs.length∧Reps X.K (hide (Dd::F') H') a.2 vs∧flats a.2=true∧Same H1 H'∧Good (Dd::F') H',
       fun σ' H' q=>⟨m,zaz6 m,q⟩,fun x H2 y=>?_⟩
      obtain⟨gs2,d,hd,rd⟩:=src.yld _ _ i x H2 gg RR.mu y hil
      have ed:ds.drop i=d::ds.drop (i+1):=by
       have hd':ds[i]=d:=by
        rw [zav4 hil]at hd
        exact Option.some.inj hd
       rw [← hd']
       exact zay3 hil
      rw [ed]at ec
      unfold zh7 at ec
      cases k1:kt d th with
      |none=>rw [k1]at ec;cases ec
      |some t1 =>
       rw [k1]at ec
       simp only [zav0]at ec
       refine hk (Dd::F') σ' H2 [] th t1 d x _ (RR.grow gs2) rd k1 fun σ2 A2 gr2 R2=>?_
       have A20:=zj2 R2 gr2
       subst A20
       cases k2:ft t1 with
       |none=>rw [k2]at ec;cases ec
       |some bb =>
        rw [k2]at ec
        simp only [zav0]at ec
        refine⟨Dd::F',[],t1,bb,R2,k2,fun H3 gs3=>?_⟩
        cases bb with
        |false =>
         refine iteF ⟨by lia,t1,a,vs,R2.grow gs3,by simpa using ec,gs3 _ _ (gs2 _ _ hv),lv,Reps.mono (za8 (gs2.trans gs3)) hr,fl,(sm.trans gs2).trans gs3,src.keep _ _ _ _ gg (za8 (gs2.trans gs3))⟩
        |true =>
         simp only [if_true]at ec
         cases w3:fk t1 with
         |none=>rw [w3]at ec;cases ec
         |some rk =>
          rw [w3]at ec
          simp only [zav0]at ec
          cases w4:fv t1 with
          |none=>rw [w4]at ec;cases ec
          |some rv =>
           rw [w4]at ec
           simp only [zav0]at ec
           cases w5:stKF a rk rv with
           |none=>rw [w5]at ec;cases ec
           |some a1 =>
            rw [w5]at ec
            simp only [zav0]at ec
            unfold stKF at w5
            split at w5
            case h_2=>cases w5
            rename_i kk ek
            split at w5
            case isFalse=>cases w5
            rename_i c5
            rw [zav3,decide_eq_true_eq]at c5
            cases w5
            refine iteT ⟨Dd::F',[],t1,rk,R2.grow gs3,w3,fun x' H7 gs7 q7=>⟨Dd::F',[],t1,rv,(R2.grow gs3).grow gs7,w4,fun y' H8 gs8 q8=>?_⟩⟩
            have ex:=zx7 q7.full ek
            subst ex
            have s8:=((gs2.trans gs3).trans gs7).trans gs8
            have cv:=q8.cleanF (((R2.grow gs3).grow gs7).mu)
            obtain⟨vs',pz,pl,pr⟩:=zah0 kk cv lv (Reps.mono (za8 s8) hr)
            have hu:Same (hide (Dd::F') H8) (hide (Dd::F') (upd H8 Dd (.dK (putK (mkKV a.1 vs) kk y')))):=ze3 (zav1 ..)
            refine⟨mkKV a.1 vs,kk,rfl,s8 _ _ hv,?_,by lia,t1,zh1 a.1 a.2 kk rv.d,vs',RS.updFK (((R2.grow gs3).grow gs7).grow gs8) (zav1 ..),ec,?_,pl,Reps.mono hu pr,zz6 c5.1 fl,?_,?_⟩
            ·unfold mkKV
             rw [zbc2]
             exact zaz4 (zbf0 _ _) (zaw1 c5.2 (by rw [sizeLine_eq];decide))
            ·rw [zb4];exact congrArg (fun z=>some (HO.dK z)) pz
            ·exact fun b o z=>by
              rw [zb9 (fun w=>by rw [w,hD]at z;cases z)]
              exact s8 _ _ (sm _ _ z)
            ·exact src.keep _ _ _ _ gg (fun b o z=>hu _ _ (za8 s8 _ _ z))
theorem zae3 {X:Cx}{F:List Addr}{kx vx tg iter:Expr}{ifs:List Expr}{scope:Scope}{pos:Pos}{fs:DI}{g:TG}{kt:D→Th→Option Th}{ft:DT}{fk fv:DE} (n:Nat) (cap:List Nat) (N':List Str) (hc:X.calm=true) (hi:PI X tg iter (dI X.K F fs))
  (hg:∀C s₃ H₃ fp pins,PG (blk X N' scope C s₃ H₃ fp pins) tg g) (hk:∀F',TgOk X.K F' g kt) (ht:∀C s₃ H₃ fp pins F',PTs (blk X N' scope C s₃ H₃ fp pins) ifs (dT X.K F' ft)) (hkx:∀C s₃ H₃ fp pins F',PE (blk X N' scope C s₃ H₃ fp pins) kx (dE X.K F' fk)) (hvx:∀C s₃ H₃ fp pins F',PE (blk X N' scope C s₃ H₃ fp pins) vx (dE X.K F' fv))
  (hkd:scope.kind=.function:=by rfl) (hcs:zr4 scope.names X.env.kindOf=true:=by rfl) (hN:N'.length=n+cap.length:=by rfl) (hcap:zv3 N' X.N n scope.names 0 cap=true:=by rfl)
  (hs:∀x,foldedSetIterable iter X.env x=pure x:=by intro _;rfl):PE X (.DictComp kx vx [⟨tg,iter,ifs,0⟩] scope pos) (dE X.K F (zq5 n cap fs kt ft fk fv)) :=
 PE.imp (pe_compD (g:=g) (zac2 hkd hcs) hc hi hN (fun k j e=>by simpa using zm4 hcap k j e) hg (fun C s₃ H₃ fp pins pins' s σ H Q I ⟨F',q⟩=>ht C s₃ H₃ fp pins F' pins' s σ H Q I q)
  (fun C s₃ H₃ fp pins pins' s σ H Q I ⟨F',q⟩=>hkx C s₃ H₃ fp pins F' pins' s σ H Q I q) (fun C s₃ H₃ fp pins pins' s σ H Q I ⟨F',q⟩=>hvx C s₃ H₃ fp pins F' pins' s σ H Q I q) hs) fun _ _ _ h=>zaj4 hk h
end DL
namespace L2
open PySem.Spec
theorem d_update {X:Cx}{pins:List (Addr×Obj)}{σ:L2.St}{H:Hp}{s:zaw0}{a b:Addr}{kvs more:List (Key×V)}{A:Around}{E:Value→zaw0→Prop}{Q:Value→zaw0→Prop} (I:Inv X pins σ H s) (ne:a≠b) (e:H a=some (.dK kvs)) (e2:H b=some (.dK more)) (l:kvs.length+more.length≤sizeLine)
  (h:∀s',Inv X pins σ (upd H a (.dK (zr1 kvs more))) s'→Q .none s'):wpAny (model X.prog X.w) A (call (.builtin "dict.update") [.ref a,.ref b]) Q E s:=by
 obtain⟨z,hd,vs,rel,dd⟩:=dk_of I.hok e
 obtain⟨z2,hd2,vs2,rel2,dd2⟩:=dk_of I.hok e2
 have hl:vs.length+vs2.length≤sizeLine:=by rw [← rel.length, ← rel2.length];exact l
 have hz:(zr1 kvs more).length≤sizeLine:=zax3 (zo8 more kvs) l
 refine call_meetsIn zbg0 dd.typeIs PySem.F.entry_dict_update (PySem.F.args_dict_update_2 _ _) (meets_dict_update (zf8 X.prog X.w) a b ne hd2) ⟨vs,vs2,dd,dd2,hl,fun h' dd' _ hs=>h _ ?_⟩
 have he:∃q,h'.get? a=some q:=let ⟨q,_,_,hq,_⟩:=dd';⟨q,hq⟩
 exact zar8 (t':=s.toks) I (by rw [e];exact True.intro) hs he (dk_new hz hd (rel2.merge rel) dd')
end L2
namespace DL
open PySem.Spec L2
theorem RS.placeF {K:zau7}{F A:List Addr}{H:Hp}{t:Th}{σ:L2.St}{i:Nat}{ks:List Key}{ds:List D} (R:RS K F H A t σ) (e:t[i]?=some (.dp (.dct ks ds))) (fl:flats ds=true) :
  ∃p vs,σ[i]?=some (some (.ref p))∧p∈A∧ks.length=vs.length∧H p=some (.dK (mkKV ks vs))∧Reps K (hide (A++F) H) ds vs ∧
   ∀H1 ks2 ds2 vs2,Same H H1→ks2.length=vs2.length→flats ds2=true→Reps K (hide (A++F) H1) ds2 vs2 →
    ∃A2,RS K F (L2.upd H1 p (.dK (mkKV ks2 vs2))) A2 (t.set i (.dp (.dct ks2 ds2))) σ∧Gr A H A2 (L2.upd H1 p (.dK (mkKV ks2 vs2))):=by
 obtain⟨v,B,a1,a2,a3,a4,a5⟩:=R.rel.focusDp R.nd e
 cases a4 with
 |flat f _=>simp [flat]at f
 |@dct _ _ p vs B' l h r =>
  obtain⟨rr,rfl⟩:=RepDs.fl r fl
  have pA:p∈A:=a2 p (by simp)
  refine⟨p,vs,a1,pA,l,h,rr,fun H1 ks2 ds2 vs2 gs l2 fl2 r2=>?_⟩
  have hh:Same (hide (A++F) H) (hide (A++F) (L2.upd H1 p (.dK (mkKV ks2 vs2)))):=fun b o q=>by
   obtain⟨n,q⟩:=zk2 q
   have nb:b≠p:=fun z=>n (zau9 _ (z ▸ pA))
   exact zc0 (by rw [zb9 nb];exact gs _ _ q) n
  have h2:Same (hide (A++F) H1) (hide (A++F) (L2.upd H1 p (.dK (mkKV ks2 vs2)))):=ze3 (zau9 _ pA)
  obtain⟨A2,d1,d3⟩:=a5 _ _ (.dct ks2 ds2) [p] hh (.dct l2 zb4 (RepDs.of_flat fl2 (Reps.mono h2 r2))) (List.Sublist.refl _) (fun q hq nq o w=>by rw [zb9 (by simpa using nq)];exact gs _ _ w)
  have sub:∀x∈A2,x∈A:=fun x hx=>d3.subset hx
  have mu:Lists (L2.upd H1 p (.dK (mkKV ks2 vs2))) (A++F):=fun q hq=>by
   by_cases z:q=p
   ·exact⟨mD _,by rw [z];exact zb4⟩
   ·obtain⟨us,w⟩:=R.mu q hq
    exact⟨us,by rw [zb9 z];exact gs _ _ w⟩
  refine⟨A2,⟨fun q hq=>mu q ?_,R.nd.sublist d3,fun q hq=>R.dj q (sub q hq),RSl.mono (za7 _ fun a z=>?_) d1 fun _ _ _ h=>h⟩,fun b o n h=>?_,fun b hb=>?_,fun b hb=>.inl (sub b hb)⟩
  ·exact (zav2.mp hq).elim (fun z=>zau9 _ (sub q z)) (fun z=>zau6 _ z)
  ·exact (zav2.mp z).elim (fun z=>zau9 _ (sub a z)) (fun z=>zau6 _ z)
  ·rw [zb9 (fun z=>n (by rw [z];exact pA))];exact gs _ _ h
  ·obtain⟨us,w⟩:=mu b (zau9 _ hb)
   rw [w];simp
def mgKD:List Key→List D→KD→KD
 |k::ks,d::ds,a=>mgKD ks ds (zh1 a.1 a.2 k d)
 |_,_,a=>a
theorem zap0 {K:zau7}{H:Hp}:∀ {ks2:List Key}{ds2:List D}{vs2:List V}{a:KD}{vs:List V},ks2.length=vs2.length→Reps K H ds2 vs2→a.1.length=vs.length→Reps K H a.2 vs→flats ds2=true→flats a.2=true →
  ∃vs':List V,zr1 (mkKV a.1 vs) (mkKV ks2 vs2)=mkKV (mgKD ks2 ds2 a).1 vs'∧(mgKD ks2 ds2 a).1.length=vs'.length∧Reps K H (mgKD ks2 ds2 a).2 vs'∧flats (mgKD ks2 ds2 a).2=true
 |[],ds2,vs2,a,vs,l2,r2,l,r,_,f=>by
  cases vs2 with
  |nil=>cases r2;exact⟨vs,rfl,l,r,f⟩
  |cons _ _=>simp at l2
 |k::ks2,ds2,vs2,a,vs,l2,r2,l,r,f2,f=>by
  cases r2 with
  |nil=>simp at l2
  |@cons d v ds vs3 r1 rs =>
   simp only [flats,zav3]at f2
   obtain⟨vs1,e1,l1,r1'⟩:=zah0 k r1 l r
   obtain⟨vs',e',l',r',f'⟩:=zap0 (ks2:=ks2) (a:=zh1 a.1 a.2 k d) (by simpa using l2) rs l1 r1' f2.2 (zz6 f2.1 f)
   refine⟨vs',?_,l',r',f'⟩
   show zr1 (putK (mkKV a.1 vs) k v) (mkKV ks2 vs3)=_
   rw [e1]
   exact e'
end DL
namespace L2
open PySem.Spec
noncomputable def tDUpd (td ty:TE):TE:=fun σ H Q=>td σ H fun x H1 => ∃a,x=.ref a∧IsD H1 a∧ty σ H1 fun y H2 => ∃b kvs more,y=.ref b∧a≠b∧H2 a=some (.dK kvs)∧H2 b=some (.dK more)∧kvs.length+more.length≤sizeLine∧Q .non (upd H2 a (.dK (zr1 kvs more)))
theorem pe_dupd {X:Cx}{o e:Expr}{apos cpos:Pos}{td ty:TE} (ho:PE X o td) (he:PE X e ty) (m:M1 X o "update" apos e cpos):PE X (.Call (.Attribute o "update" apos) [e] [] cpos) (tDUpd td ty):=by
 intro pins s σ H Q I h
 refine wpAny_Call_method m.base m.few m.line PySem.F.plainAttrs_dict zbg0 PySem.F.type_dict_update (thn (ho pins s σ H _ I h) fun u s1 ⟨x,H1,I1,rx,a,ex,d,q1⟩=>?_)
 subst ex
 obtain rfl:u=Value.ref a:=rx
 obtain⟨t1,t2,_⟩:=isD_at I1 d
 refine⟨t1,t2,?_⟩
 rw [m.trees]
 refine Calls.callWith_builtin rfl (Calls.evalArgs_plain (Calls.spliced_cons (thn (he pins s1 σ H1 _ I1 q1) fun iv s2 ⟨y,H2,I2,ry,b,kvs,more,ey,ne,e1,e2,l,q2⟩=>Calls.spliced_nil ?_)))
 subst ey
 obtain rfl:iv=Value.ref b:=ry
 exact d_update I2 ne e1 e2 l fun s3 I3=>⟨.non,_,I3,rfl,q2⟩
end L2
namespace DL
open PySem.Spec L2
noncomputable def kUpd (t:Th) (i:Nat) (r:Ev):Option Out:=match t[i]?,r with
 |some (.dp (.dct ks ds)),.dn (.dct ks2 ds2)=>if (flats ds&&flats ds2)&&decide (ks.length+ks2.length≤50000) then some (.nx (t.set i (.dp (.dct (mgKD ks2 ds2 (ks,ds)).1 (mgKD ks2 ds2 (ks,ds)).2)))) else none
 |_,_=>none
def dUpd (i:Nat) (f:DE):DS:=fun t=>(f t).bind (kUpd t i)
section
variable {X:Cx}{F:List Addr}{a:Expr}{fa:DE}{pos:Pos}
theorem psd_upd (i:Nat) {x:Str}{p0 apos cpos:Pos} (he:PE X a (dE X.K F fa)) (hN:X.N[i]?=some x:=by rfl) (hv:Vis X.env.scope x:=by first | exact Or.inl rfl | exact Or.inr (Or.inl rfl) |exact Or.inr (Or.inr rfl)) (hd:(x ==("__debug__":Str))=false:=by decide)
  (hcd:(x ==("__classdict__":Str))=false:=by decide)
  (hbase:attributeBase (.Name x p0) "update" X.env (eval (.Name x p0) X.env)=eval (.Name x p0) X.env:=by rfl)
  (hfew:((zbd6 cpos (zaw7 [a] X.env)).all (fun x=>!x.1)&&(backToKw cpos (keywordEach [] X.env)).all (fun x=>x.1.isSome)
   && decide ([a].length+([]:List Keyword).length+(if ([]:List Keyword).isEmpty then 0 else 1)<30))=true:=by rfl)
  (hline:(apos.endLine == cpos.line)=true:=by rfl) (htr:zbd6 cpos (zaw7 [a] X.env)=[(false,eval a X.env)]:=by rfl)
  (hsw:swapsWith (.Call (.Attribute (.Name x p0) "update" apos) [a] [] cpos) none pos.line X.env=pure false:=by rfl) :
  PS X (.Expr (.Call (.Attribute (.Name x p0) "update" apos) [a] [] cpos) pos) (dS X.K F (dUpd i fa)):=by
 refine PS.imp (zan1 (pe_dupd (zv7 (i:=i) hN hv hd hcd) he ⟨hbase,hfew,hline,htr⟩) hsw) ?_
 rintro E σ H ⟨A,t,o,R,e,h⟩
 unfold dUpd at e
 cases e1:fa t with
 |none=>rw [e1]at e;cases e
 |some r =>
  rw [e1]at e
  have e:kUpd t i r=some o:=e
  unfold kUpd at e
  split at e
  case h_2=>cases e
  rename_i ks ds ks2 ds2 z _
  split at e
  case isFalse=>cases e
  rename_i ok
  simp only [zav3,decide_eq_true_eq]at ok
  cases e
  obtain⟨p,vs,a1,a2,l,hp,hr,mk⟩:=R.placeF z ok.1.1
  refine⟨_,a1,p,rfl,.inl ⟨_,.inl hp⟩,A,t,_,R,e1,fun y H1 gs q=>?_⟩
  obtain⟨B,nB,fB,rd⟩:=q
  cases rd with
  |flat f _=>simp [flat]at f
  |@dct _ _ b vs2 B' l2 hb r2 =>
   obtain⟨rr,rfl⟩:=RepDs.fl r2 ok.1.2
   have nb:p≠b:=fun w=>by
    have:=fB b (by simp)
    rw [← w,hp]at this
    cases this
   obtain⟨vs',e',l',r',f'⟩:=zap0 (a:=(ks,ds)) l2 (Reps.mono (za7 H1 fun x hx=>zau6 _ hx) rr) l (Reps.mono (za8 gs) hr) ok.1.2 ok.1.1
   refine⟨b,mkKV ks vs,mkKV ks2 vs2,rfl,nb,gs _ _ hp,hb,?_,?_⟩
   ·unfold mkKV
    rw [zbc2,zbc2,sizeLine_eq]
    have:=zbf0 ks.length vs.length
    have:=zbf0 ks2.length vs2.length
    lia
   ·obtain⟨A2,R',g'⟩:=mk H1 _ _ vs' gs l' f' r'
    rw [e']
    exact h _ _ _ g' R'
end
end DL
namespace DL
open PySem.Spec L2
theorem zai2 {K:zau7}{H:Hp}{k:Key}{d:D}:∀ {ks:List Key}{ds:List D}{vs:List V},ks.length=vs.length→Reps K H ds vs→zab4 ks ds k=some d→∃v,valV (mkKV ks vs) k=some v∧Rep K H d v
 |[],ds,vs,l,r,e=>by simp [zab4]at e
 |k'::ks,ds,vs,l,r,e=>by
  cases r with
  |nil=>simp at l
  |@cons d' v' ds vs r1 r2 =>
   unfold zab4 at e
   by_cases z:k'=k
   ·rw [if_pos z]at e
    cases e
    exact⟨v',zn6 (p:=(k',v')) z,r1⟩
   ·rw [if_neg z]at e
    obtain⟨v,e1,e2⟩:=zai2 (ks:=ks) (by simpa using l) r2 e
    exact⟨v,(zn7 (p:=(k',v')) z).trans e1,e2⟩
section
variable {X:Cx}{F:List Addr}{a b c o:Expr}{es:List Expr}{fa fb fc:DE}{ga:DA}{pos:Pos}
noncomputable def zv9:Ev→Ev→Option Ev:=fun r1 r2=>match r1.d,keyD r2.d with
 |.dct ks ds,some k=>(match zab4 ks ds k with
  |some d=>if flat d then some (.cl d) else none
  |none=>none)
 |_,_=>none
theorem zan7 (hu:X.A.units+64<cLine) (ha:PE X a (dE X.K F fa)) (hb:PE X b (dE X.K F fb)) (hs:NoSl b:=by intro _ _;rfl):PE X (.Subscript a b pos) (dE X.K F (d2 zv9 fa fb)):=by
 refine PE.imp (pe_dget (by lia) ha hb hs) ?_
 intro σ H Q h
 obtain⟨A,t,r1,r2,r,R,e1,e2,e,h,w⟩:=two h
 refine⟨A,t,r1,R,e1,fun x H1 gs1 q1=>⟨A,t,r2,R.grow gs1,e2,fun y H2 gs2 q2=>?_⟩⟩
 have gs:=gs1.trans gs2
 have p1:=(q1.mono gs2).full
 have p2:=q2.full
 unfold zv9 at e
 split at e
 case h_2=>cases e
 rename_i ks ds k z ek
 split at e
 case h_2=>cases e
 rename_i d eg
 split at e
 case isFalse=>cases e
 rename_i fl
 cases e
 rw [z]at p1
 cases p1 with
 |@dct _ _ p vs l h1 h2 =>
  have ey:=zx7 p2 ek
  subst ey
  obtain⟨v,hv,rv⟩:=zai2 l h2 eg
  refine⟨p,v,rfl,?_,h _ H2 gs (Rep.hid (R.mu.mono gs) fl rv)⟩
  have:=DGet.k (k:=k) h1
  rw [hv]at this
  exact this
end
end DL
namespace KX
open PySem.Spec L2 DL
abbrev qA:=kOr (kI tt2 fun i j=>.int (i+j)) kCat
abbrev qM:=kOr (kI cMul fun i j=>.int (i*j)) kRep
abbrev qV:=kI cDiv fun i j=>.int (i.fdiv j)
abbrev qR:=kI cMod fun i j=>.int (i.fmod j)
abbrev qL:=kI tt2 fun i j=>.bl (decide (i<j))
abbrev qG:=kI tt2 fun i j=>.bl (decide (j<i))
abbrev qN:=k2I fun i j=>if j<i then j else i
theorem bnd_big:1000000000000000000000000000000000000≤bndS:=by
 have:(2:Nat) ^ 120≤2 ^ 1048576:=zbc6 (by decide) (by decide)
 unfold bndS
 exact zax3 (by decide) this
theorem app_of (t:Th) {f:DE}{i:Nat}{xs:List D}{d:D} (hf:f t=some (.cl d)) (hi:t[i]?=some (.own xs)) (hl:xs.length<100000):dApp i f t=some (.nx (t.set i (.own (xs++[d])))):=by
 unfold dApp
 rw [hf]
 simp only [zav0,kApp,hi,Ev.ok,Ev.d,hl,decide_true,Bool.and_self,if_true]
theorem asg_of (t:Th) {f:DE}{i:Nat}{d:D} (hf:f t=some (.cl d)) (hi:i<t.length):dAsg i f t=some (.nx (t.set i (.val d))):=by
 unfold dAsg
 rw [hf]
 simp only [zav0,zm6,hi,if_true,zay6]
theorem zc2:∀xs:List Int,flats (xs.map D.int)=true
 |[]=>rfl
 |x::xs=>by
  have:=zc2 xs
  simp [flats,flat,this]
theorem zk5 {k:List Ev→Option Ev}{fa fb:DE}{t:Th}{ra rb:Ev} (h1:fa t=some ra) (h2:fb t=some rb):dT1 k (za2 fa (za2 fb dNil)) t=k [ra,rb]:=by
 simp [dT1,za2,dNil,h1,h2]
theorem zh6 {k:Ev→Ev→Option Ev}{fa fb:DE}{t:Th}{ra rb:Ev} (h1:fa t=some ra) (h2:fb t=some rb):d2 k fa fb t=k ra rb:=by
 simp [d2,h1,h2]
theorem zu0 (n:Nat):∀xs:List Int,eqOk (n+1) (.lst (xs.map D.int)) (.lst (xs.map D.int))=true
 |[]=>rfl
 |x::xs=>by
  have:=zu0 n xs
  simp only [eqOk]at this ⊢
  simp only [zav6,zbb0,zba0,this,zbj0]
  cases n<;>rfl
theorem t4_of {k:List Ev→Option Ev}{fa fb fc fd:DE}{t:Th}{ra rb rc rd:Ev} (h1:fa t=some ra) (h2:fb t=some rb) (h3:fc t=some rc) (h4:fd t=some rd):dT1 k (za2 fa (za2 fb (za2 fc (za2 fd dNil)))) t=k [ra,rb,rc,rd]:=by
 simp [dT1,za2,dNil,h1,h2,h3,h4]
theorem t3_of {k:List Ev→Option Ev}{fa fb fc:DE}{t:Th}{ra rb rc:Ev} (h1:fa t=some ra) (h2:fb t=some rb) (h3:fc t=some rc):dT1 k (za2 fa (za2 fb (za2 fc dNil))) t=k [ra,rb,rc]:=by
 simp [dT1,za2,dNil,h1,h2,h3]
theorem zz3 {k:List Ev→Option Ev}{fa:DE}{t:Th}{ra:Ev} (h1:fa t=some ra):dT1 k (za2 fa dNil) t=k [ra]:=by
 simp [dT1,za2,dNil,h1]
theorem zp5 {t:Th}{f:DE}{i:Nat}{d:D} (hf:f t=some (.cl d)) (hi:i<t.length):dAsg i f t=some (.nx (t.set i (.val d))):=asg_of t hf hi
theorem zn1 {t:Th}{f:DE}{i:Nat}{xs:List D} (hf:f t=some (.nw xs)) (hi:i<t.length):dAsg i f t=some (.nx (t.set i (.own xs))):=by
 unfold dAsg
 rw [hf]
 simp only [zav0,zm6,hi,if_true,zay6]
theorem ne_ints {r1 r2:Ev} (xs:List Int) (h1:r1.d=.lst (xs.map D.int)) (h2:r2.d=.lst (xs.map D.int)):kNe r1 r2=some (.cl (.bl false)):=by
 unfold kNe
 rw [h1,h2,if_pos (zu0 5 xs),zai6]
 rfl
theorem zab0 (n b:Nat) (h:b<n):ixN n (b:Int)=some b:=by unfold ixN;rw [if_pos (by lia),if_pos (by lia)];simp
theorem get_map (L:List Int) (b:Nat) (h:b<L.length):(L.map D.int)[b]?=some (.int (L.getD b 0)):=by simp [zav9,h]
theorem at_map (L:List Int) (b:Nat) (h:b<L.length):atI (L.map D.int) (b:Int)=some (.int (L.getD b 0)):=by
 unfold atI
 rw [zab0 _ _ (by simpa using h)]
 exact get_map L b h
theorem ixEv {r1 r2:Ev} (L:List Int) (b:Nat) (h:b<L.length) (h1:r1.d=.lst (L.map D.int)) (h2:r2.d=.int (b:Int)):kIx r1 r2=some (.cl (.int (L.getD b 0))):=by
 unfold kIx
 rw [h1,h2]
 show (atI (L.map D.int) (b:Int)).map _=_
 rw [at_map L b h]
 simp [flat]
theorem ifs_of {c:DT}{g1 g2:DS}{t:Th}{b:Bool} (h:c t=some b):dIfS c g1 g2 t=if b then g1 t else g2 t:=by
 unfold dIfS;rw [h];rfl
theorem ifs_t {c:DT}{g1 g2:DS}{t:Th}{b:Bool} (h:c t=some b) (hb:b=true):dIfS c g1 g2 t=g1 t:=by
 rw [ifs_of h,hb];rfl
theorem ifs_f {c:DT}{g1 g2:DS}{t:Th}{b:Bool} (h:c t=some b) (hb:b=false):dIfS c g1 g2 t=g2 t:=by
 rw [ifs_of h,hb];rfl
theorem in_ints {r1 r2:Ev} (p:Int) (K:List Int) (h1:r1.d=.int p) (h2:r2.d=.lst (K.map D.int)):kIn r1 r2=some (.cl (.bl (decide (p∈K)))):=by
 unfold kIn
 rw [h1,h2]
 clear h2
 have e1:(K.map D.int).all (fun d=>scD d&&eqOk 0 d (.int p))=true:=by
  rw [zbe2]
  intro d hd
  obtain⟨k,_,rfl⟩:=zax8.mp hd
  rfl
 have e2:(K.map D.int).any (fun d=>eqD d (.int p))=decide (p∈K):=by
  induction K with
  |nil=>rfl
  |cons k K ih =>
   have e1':(K.map D.int).all (fun d=>scD d&&eqOk 0 d (.int p))=true:=by
    simp only [zav6,zba0,zav3]at e1;exact e1.2
   rw [zav6,zba1,ih e1',zar0]
   by_cases h:k=p
   ·subst h;simp
   ·have : ¬ p=k:=fun q=>h q.symm
    simp [h,this]
 show (if scD (.int p)&&(K.map D.int).all (fun d=>scD d&&eqOk 0 d (.int p)) then some (Ev.cl (.bl ((K.map D.int).any fun d=>eqD d (.int p)))) else none)=_
 rw [e1,e2]
 rfl
theorem bo_in {fa fb:DE}{t:Th}{r1 r2:Ev} (p:Int) (K:List Int) (ha:fa t=some r1) (hb:fb t=some r2) (h1:r1.d=.int p) (h2:r2.d=.lst (K.map D.int)):dBo (d2 kIn fa fb) t=some (decide (p∈K)):=by
 unfold dBo
 rw [zh6 ha hb,in_ints p K h1 h2]
 rfl
theorem zu8 (t:Th) {f:DE}{i:Nat}{xs:List Int}{p:Int} (hf:f t=some (.cl (.int p))) (hi:t[i]?=some (.own (xs.map D.int))) (hl:xs.length<100000):dApp i f t=some (.nx (t.set i (.own ((xs++[p]).map D.int)))):=by
 rw [app_of t hf hi (by simpa using hl)]
 simp
theorem grd {c:DT}{g:DS}{t:Th}{b:Bool} (h:c t=some b) (hb:b=false):dIfS c g zl8 t=some (.nx t):=(ifs_f h hb).trans rfl
theorem bnd {g:Option Out}{r:Ev} (h:g=some (.rt r)):g.bind zi3=some r:=by rw [h];rfl
theorem zk4 {fa fb:DE}{t:Th}{a b:Int} (h1:fa t=some (.cl (.int a))) (h2:fb t=some (.cl (.int b))):(d2 qA fa fb) t=some (.cl (.int (a+b))):=(zh6 h1 h2).trans rfl
theorem zr0 {fa fb:DE}{t:Th}{a b:Int} (h1:fa t=some (.cl (.int a))) (h2:fb t=some (.cl (.int b))) (hb:b≠0):(d2 qR fa fb) t=some (.cl (.int (a.fmod b))):=by
 rw [zh6 h1 h2]
 show (if cMod a b=true then _ else none)=_
 rw [if_pos (by unfold cMod;exact decide_eq_true hb)]
theorem zar3 {fa fb:DE}{t:Th}{a b:Int} (h1:fa t=some (.cl (.int a))) (h2:fb t=some (.cl (.int b))) (hb:b≠0) (hs:sm b=true):(d2 qV fa fb) t=some (.cl (.int (a.fdiv b))):=by
 rw [zh6 h1 h2]
 show (if cDiv a b=true then _ else none)=_
 rw [if_pos (by unfold cDiv;rw [hs];simp [hb])]
theorem zm9 {fa fb:DE}{t:Th}{a b:Int} (h1:fa t=some (.cl (.int a))) (h2:fb t=some (.cl (.int b))) (ha:sm a=true) (hb:sm b=true):(d2 qM fa fb) t=some (.cl (.int (a*b))):=by
 rw [zh6 h1 h2]
 have:cMul a b=true:=by simp only [cMul];rw [ha,hb];rfl
 simp [kOr,kI,Ev.d,this]
theorem lt_of {fa fb:DE}{t:Th}{a b:Int} (h1:fa t=some (.cl (.int a))) (h2:fb t=some (.cl (.int b))):dBo (d2 qL fa fb) t=some (decide (a<b)):=by
 unfold dBo;rw [zh6 h1 h2];rfl
theorem gt_of {fa fb:DE}{t:Th}{a b:Int} (h1:fa t=some (.cl (.int a))) (h2:fb t=some (.cl (.int b))):dBo (d2 qG fa fb) t=some (decide (b<a)):=by
 unfold dBo;rw [zh6 h1 h2];rfl
theorem zai5 {fa fb:DE}{t:Th}{a b:Int} (h1:fa t=some (.cl (.int a))) (h2:fb t=some (.cl (.int b))):dBo (d2 kEq fa fb) t=some (decide (a=b)):=by
 unfold dBo;rw [zh6 h1 h2]
 have:kEq (.cl (.int a)) (.cl (.int b))=some (.cl (.bl (eqD (.int a) (.int b)))):=rfl
 rw [this,zar0];rfl
theorem or_of {f g:DT}{t:Th}{a b:Bool} (h1:f t=some a) (h2:a=false→g t=some b):dOr f g t=some (a||b):=by
 unfold dOr;rw [h1]
 cases a with
 |true=>rfl
 |false=>simp [h2 rfl]
theorem or_of2 {f g:DT}{t:Th}{a b:Bool} (h1:f t=some a) (h2:g t=some b):dOr f g t=some (a||b):=or_of h1 fun _=>h2
theorem zy9 {f g:DT}{t:Th}{a b:Bool} (h1:f t=some a) (h2:g t=some b):dAnd f g t=some (a&&b):=by
 unfold dAnd;rw [h1];cases a<;>simp [h2]
theorem zt4 {t:Th}{f:DE}{r:Ev}{xs:List Int} (h:f t=some r) (hr:r.d=.lst (xs.map D.int)):(dT1 kLen (za2 f dNil)) t=some (.cl (.int (xs.length:Int))):=by
 rw [zz3 h]
 unfold kLen
 simp only [hr,zaw6]
theorem zaa9 {fa fb:DE}{t:Th}{r1 r2:Ev} (L:List Int) (b:Nat) (ha:fa t=some r1) (hb:fb t=some r2) (h:b<L.length) (h1:r1.d=.lst (L.map D.int)) (h2:r2.d=.int (b:Int)):(d2 kIx fa fb) t=some (.cl (.int (L.getD b 0))):=by
 rw [zh6 ha hb,ixEv L b h h1 h2]
theorem zau3 {t:Th}{f:Int→Int→Int}{fk fv:DE}{i:Nat}{L:List Int}{b:Nat}{v:Int} (hk:fk t=some (.cl (.int (b:Int)))) (hv:fv t=some (.cl (.int v))) (hi:t[i]?=some (.own (L.map D.int))) (hb:b<L.length):zak9 f i fk fv t=some (.nx (t.set i (.own ((L.set b (f (L.getD b 0) v)).map D.int)))):=by
 unfold zak9
 rw [hv,hk]
 show zap9 f t i (.cl (.int (b:Int))) (.cl (.int v))=_
 unfold zap9
 rw [hi]
 show (ixN (L.map D.int).length (b:Int)).bind _=_
 rw [zab0 _ b (by simpa using hb)]
 simp only [zav0,get_map L b hb,List.map_set]
theorem calln {G:List D→Option Ev}{rs:List Ev}{xs:List Int} (h:G (rs.map Ev.d)=some (.nw (xs.map D.int))):zc8 G rs=some (.nw (xs.map D.int)):=by
 unfold zc8
 rw [h]
 simp only [zay6,upEv]
 split
 ·rfl
 ·simp [zc2]
theorem callc {G:List D→Option Ev}{rs:List Ev}{d:D} (h:G (rs.map Ev.d)=some (.cl d)) (hf:flat d=true):zc8 G rs=some (.cl d):=by
 unfold zc8
 rw [h]
 simp only [zay6,upEv]
 split
 ·rfl
 ·simp [hf]
theorem cns {f:DE}{g:DA}{t:Th}{r:Ev}{rs:List Ev} (h1:f t=some r) (h2:g t=some rs):za2 f g t=some (r::rs):=by
 unfold za2;rw [h1,h2];rfl
theorem zm8 {f:DE}{t:Th}{r:Ev} (h:f t=some r):dRet f t=some (.rt r):=by
 unfold dRet;rw [h];rfl
theorem zaq3 {k:D→Th→Option Th}{f:DE}{b:DS}{t:Th}{r:Ev}{ds:List D} (h:f t=some r) (hd:r.d=.lst ds) (ho:r.ok=true):dFor k f b t=forD k b ds t:=by
 unfold dFor
 rw [h]
 simp only [zav0,hd,ho,if_true]
theorem zag8 (x:Int):∀m:Nat,(zav7 m [D.int x]).flatten=(zav7 m x).map D.int
 |0=>rfl
 |m+1=>by rw [zay7,zbc4,zag8 x m,zay7];rfl
theorem repn_of {fa fb:DE}{t:Th}{x:Int}{m:Nat} (h1:fa t=some (.nw [.int x])) (h2:fb t=some (.cl (.int (m:Int)))) (hm:m≤900):(d2 qM fa fb) t=some (.nw ((zav7 m x).map D.int)):=by
 rw [zh6 h1 h2]
 show (if ([D.int x].length≤100&&decide (-1000000≤(m:Int)∧(m:Int)≤1000))=true then some (Ev.nw (zav7 (m:Int).toNat [D.int x]).flatten) else none)=_
 rw [if_pos (by simp;lia),zay9,zag8]
theorem zad6 (n:Nat):Builtin.Range.rangeSize 0 (n:Int) 1=(n:Int):=by
 unfold Builtin.Range.rangeSize
 rw [if_pos (by lia)]
 split<;>lia
theorem ok_of {n:Nat} (hn:n≤1000):zs8 0 (n:Int) 1=true:=by
 unfold zs8
 rw [small_of (by lia) (by lia),zad6,decide_eq_true (by lia)]
 rfl
theorem lr_of {f:DE}{t:Th}{n:Nat} (h:f t=some (.cl (.int (n:Int)))) (hn:n≤1000):(zw2 (za2 f dNil)) t=some (.nw ((zb0 n).map D.int)):=by
 have e:(za2 f dNil) t=some [.cl (.int (n:Int))]:=by simp [za2,dNil,h]
 have e2:rArgs ([Ev.cl (.int (n:Int))].map Ev.d)=some (0,(n:Int),1):=rfl
 have c:(zs8 0 (n:Int) 1&&decide (Builtin.Range.rangeSize 0 (n:Int) 1≤50000))=true:=by
  rw [ok_of hn,zad6,decide_eq_true (by lia)];rfl
 unfold zw2
 rw [e,zav0,e2,zav0,if_pos c]
 unfold rng3 zb0
 rw [zad6,zay9]
 simp
theorem zad9 {k0:D→Th→Option Th}{b:DS}{t:Th}{f:DE}{r:Ev}{n:Nat} (h:f t=some r) (hr:r.d=.int (n:Int)) (hn:n≤100000):zv2 k0 f b t=forD k0 b ((zb0 n).map D.int) t:=by
 unfold zv2
 rw [h]
 simp only [zav0,hr]
 rw [if_pos (by unfold bigI;exact decide_eq_true (by lia)),zay9]
 congr 1
 unfold rngD zb0
 simp
theorem zap4 {f:DE}{t:Th}{r:Ev}{xs:List Int} (h:f t=some r) (hr:r.d=.lst (xs.map D.int)):(dT1 zaa7 (za2 f dNil)) t=some (.nw (xs.map D.int)):=by
 rw [zz3 h]
 unfold zaa7
 simp only [hr,zc2,zbd2,if_true]
theorem zah7 {fa fb:DE}{t:Th}{r1 r2:Ev} (xs:List Int) (ha:fa t=some r1) (hb:fb t=some r2) (h1:r1.d=.lst (xs.map D.int)) (h2:r2.d=.lst (xs.map D.int)):dBo (d2 kNe fa fb) t=some false:=by
 unfold dBo
 rw [zh6 ha hb,ne_ints xs h1 h2]
 rfl
theorem sorti_of {f:DE}{t:Th}{r:Ev}{xs:List Int} (h:f t=some r) (hr:r.d=.lst (xs.map D.int)) (hl:xs.length<64):(dT1 zaa6 (za2 f dNil)) t=some (.nw ((zn9 xs).map D.int)):=by
 rw [zz3 h]
 unfold zaa6
 simp only [hr,zl4,zav0]
 rw [if_pos hl]
theorem sum_of {f:DE}{t:Th}{r:Ev}{xs:List Int} (h:f t=some r) (hr:r.d=.lst (xs.map D.int)):(dT1 kSum (za2 f dNil)) t=some (.cl (.int xs.sum)):=by
 rw [zz3 h]
 unfold kSum
 simp only [hr,zl4]
 rfl
def stG (W:Int→Int) (b x:Int):Int:=if W b<W x then x else b
theorem zau0 {fb:DE}{W:Int→Int}{cs:List D}:∀(l:List Int) (b:Int),(∀x∈l,fb (.val (.int x)::cs.map Sl.val)=some (.cl (.int (W x))))→zau1 true fb cs (.int b) (.int (W b)) (l.map D.int)=some (.int (l.foldl (stG W) b))
 |[],b,_=>rfl
 |x::l,b,h=>by
  have e:=h x (zav1 ..)
  simp only [zav6,zau1,e,zav0,Ev.d,flat,if_true,cmpD,cmpI,zbe7]
  have ih:=fun b=>zau0 l b fun y hy=>h y (zau8 _ hy)
  by_cases c:W b<W x
  ·rw [if_pos (decide_eq_true c),show stG W b x=x from if_pos c];exact ih x
  ·rw [if_neg (by simpa using c),show stG W b x=b from if_neg c];exact ih b
theorem key_of {fa fb:DE}{W:Int→Int}{cs:List D}{b:Bool}{cap:List Nat}{t:Th}{r:Ev}{x:Int}{l:List Int} (ha:fa t=some r) (hr:r.d=.lst ((x::l).map D.int)) (hc:capD t cap=some (b,cs)) (h:∀y∈x::l,fb (.val (.int y)::cs.map Sl.val)=some (.cl (.int (W y)))):dKey true cap fa fb t=some (.cl (.int (l.foldl (stG W) x))):=by
 unfold dKey
 rw [ha,hc]
 simp only [zav0,hr,zav6]
 rw [show (zk6 (D.int x::l.map D.int)).isSome=true by rw [← zav6 (f:=D.int),zl4];rfl,if_pos rfl,h x (zav1 ..)]
 simp only [zav0,Ev.d,flat,if_true]
 rw [zau0 l x fun y hy=>h y (zau8 _ hy)]
 rfl
def rwD (r:List Int):D:=.lst (r.map D.int)
def mD (M:List (List Int)):D:=.lst (M.map rwD)
structure Sq (n:Nat) (M:List (List Int)):Prop where
 len:M.length=n
 row:∀r∈M,r.length=n
theorem zam2 {fa fb:DE}{t:Th}{r1:Ev}{M:List (List Int)}{i:Int} (ha:fa t=some r1) (h1:r1.d=mD M) (hb:fb t=some (.cl (.int i))) (i0:0≤i) (il:i<(M.length:Int)):∃r,(d2 kIx fa fb) t=some r∧r.d=rwD (M.getD i.toNat []):=by
 rw [zh6 ha hb]
 unfold kIx
 rw [h1]
 have hl:i.toNat<M.length:=by lia
 have e:atI (M.map rwD) i=some (rwD (M.getD i.toNat [])):=by
  unfold atI
  have:ixN (M.map rwD).length i=some i.toNat:=by
   have:=zab0 (M.map rwD).length i.toNat (by simpa using hl)
   rwa [zba2 i0]at this
  rw [this]
  simp [zav9,hl]
 show ∃r,((atI (M.map rwD) i).map _)=some r∧_
 rw [e]
 refine⟨_,rfl,?_⟩
 dsimp only
 split<;>rfl
theorem zaq9 (n:Nat):∀M:List (List Int),eqOk (n+2) (mD M) (mD M)=true
 |[]=>rfl
 |r::M=>by
  have:=zaq9 n M
  unfold mD at this ⊢
  simp only [eqOk]at this ⊢
  simp only [zav6,zbb0,zba0,this,zbj0]
  exact zu0 n r
theorem ne_mD {r1 r2:Ev} (M:List (List Int)) (h1:r1.d=mD M) (h2:r2.d=mD M):kNe r1 r2=some (.cl (.bl false)):=by
 unfold kNe
 rw [h1,h2,if_pos (zaq9 4 M),zai6]
 rfl
theorem lenM_of {t:Th}{f:DE}{r:Ev}{M:List (List Int)} (h:f t=some r) (hr:r.d=mD M):(dT1 kLen (za2 f dNil)) t=some (.cl (.int (M.length:Int))):=by
 rw [zz3 h]
 unfold kLen
 simp only [hr,mD,zaw6]
theorem zaa3 {fa fb:DE}{t:Th}{r1 r2:Ev} (p:Int) (K:List Int) (ha:fa t=some r1) (hb:fb t=some r2) (h1:r1.d=.int p) (h2:r2.d=.lst (K.map D.int)):dBo (d2 kNin fa fb) t=some (!decide (p∈K)):=by
 have e:=bo_in p K ha hb h1 h2
 unfold dBo at e ⊢
 rw [zh6 ha hb]at e ⊢
 unfold kIn at e
 unfold kNin
 rw [h2]at e ⊢
 simp only at e ⊢
 split at e
 ·rename_i c
  rw [if_pos c]
  simp only [zav0,Ev.d,Option.some.injEq]at e ⊢
  rw [e]
 ·cases e
def topI' (L:List Int):Int:=zl2 (L.headD 0) L.tail
theorem zaq8 {f:DE}{t:Th}{r:Ev}{L:List Int} (h:f t=some r) (hr:r.d=.lst (L.map D.int)) (hl:0<L.length):(dT1 (zaa8 zl2) (za2 f dNil)) t=some (.cl (.int (topI' L))):=by
 rw [zz3 h]
 unfold zaa8
 simp only [hr,zl4]
 cases L with
 |nil=>simp at hl
 |cons x r=>rfl
theorem zf4 {n:Nat}{x:Int} (h:x∈zb0 n):0≤x∧x<(n:Int):=by
 obtain⟨i,hi⟩:=List.mem_iff_getElem?.mp h
 obtain⟨q,l⟩:=zao8 hi
 lia
theorem zg9 {n:Nat}{x:Int} (h0:0≤x) (h1:x<(n:Int)):x∈zb0 n:=by
 unfold zb0
 exact zax8.mpr ⟨x.toNat,zbd9.mpr (by lia),by lia⟩
theorem zp6:∀ {l C:List Int},l.Nodup→(∀x∈l,x∈C)→l.length≤C.length
 |[],C,_,_=>zbl4 _
 |x::l,C,nd,h=>by
  rw [zaw8]at nd
  have hx:=h x (zav1 ..)
  have:=zp6 (l:=l) (C:=C.erase x) nd.2 fun y hy=>(zbi1 (fun e=>nd.1 (by rw [← e];exact hy))).mpr (h y (zau8 _ hy))
  rw [zbg1 hx]at this
  have:=zbb7 hx
  simp only [zax7]
  lia
theorem zx1 (n:Nat):(zb0 n).Nodup:=by
 unfold zb0
 refine List.pairwise_map.mpr ?_
 exact (List.nodup_range (n:=n)).imp fun h e=>h (by lia)
theorem rng_is {f:DE}{t:Th}{n:Nat} (hf:f t=some (.cl (.int (n:Int)))) (hn:n≤50000):fsR1 f t=some (true,(zb0 n).map D.int):=by
 unfold fsR1
 rw [hf]
 simp only [zav0,Ev.d]
 rw [if_pos (by unfold bigI;exact decide_eq_true (by lia)),zay9]
 congr 2
 unfold rngD zb0
 simp
theorem zr3 {ft:DT}{p:Int→Bool}{ext:Th}:∀(l:List Int) (s:Sl),(∀x∈l,ft (.val (.int x)::ext)=some (p x))→zd7 (za3 0) ft (dVar 0) (l.map D.int) (s::ext)=some ((l.filter p).map D.int)
 |[],s,_=>rfl
 |x::l,s,h=>by
  have e0:za3 0 (.int x) (s::ext)=some (.val (.int x)::ext):=rfl
  have e1:=h x (zav1 ..)
  have ih:=zr3 l (.val (.int x)) fun y hy=>h y (zau8 _ hy)
  simp only [zav6,zd7,e0,zav0,e1]
  cases c:p x with
  |true=>rw [zbb4 c,if_pos rfl,ih];rfl
  |false=>rw [zbb5 (by simp [c]),if_neg (by simp),ih]
theorem zac3 {cap:List Nat}{f:DE}{ft:DT}{t:Th}{n:Nat}{p:Int→Bool}{b:Bool}{c:List D} (hf:f t=some (.cl (.int (n:Int)))) (hn:n≤50000) (hc:capD t cap=some (b,c)) (he:∀x∈zb0 n,ft (.val (.int x)::c.map Sl.val)=some (p x)) :
  (zd1 1 cap (fsR1 f) (za3 0) ft (dVar 0)) t=some (.nw (((zb0 n).filter p).map D.int)):=by
 unfold zd1
 have e2:zd7 (za3 0) ft (dVar 0) ((zb0 n).map D.int) (Sl.no::c.map Sl.val)=some (((zb0 n).filter p).map D.int):=zr3 _ _ he
 rw [rng_is hf hn,hc]
 simp only [zav0]
 rw [if_pos (by rw [zaw6,zi1];exact hn)]
 show (zd7 (za3 0) ft (dVar 0) ((zb0 n).map D.int) (Sl.no::c.map Sl.val)).bind _=_
 rw [e2]
 simp only [zav0,zc2,zbd2,if_true]
structure CIn (n:Nat) (C:List Int):Prop where
 ne:0<C.length
 rg:∀x∈C,0≤x∧x<(n:Int)
def dV (P:List Int) (V:Int→Int):D:=.dct (P.map Sum.inl) (P.map fun p=>.int (V p))
def ltr (n:Int):Nat→List Int→Int→Int
 |_,[],_=>n
 |i,x::xs,p=>if x=p then (i:Int) else ltr n (i+1) xs p
def Fo (v:Int→Int) (p q:Int):Prop:=v q<v p∨(v q=v p∧p≤q)
theorem for_I {k:D→Th→Option Th}{b:DS}{f:Nat→D}{P:Nat→Th→Prop}{n:Nat} (hb:∀x,x<n→∀t,P x t→∃t1 t2,k (f x) t=some t1∧b t1=some (.nx t2)∧P (x+1) t2):∀(m i:Nat) (t:Th),i+m=n→P i t→∃t',forD k b ((List.range' i m).map f) t=some (.nx t')∧P n t'
 |0,i,t,e,h=>⟨t,rfl,by rw [← e];exact h⟩
 |m+1,i,t,e,h=>by
  obtain⟨t1,t2,e1,e2,h2⟩:=hb i (by lia) t h
  obtain⟨t',e3,h'⟩:=for_I hb m (i+1) t2 (by lia) h2
  refine⟨t',?_,h'⟩
  rw [List.range'_succ,zav6]
  simp only [forD,e1,e2,zav0,e3]
theorem zaq4 {k:D→Th→Option Th}{b:DS}{f:Nat→D}{P:Nat→Th→Prop}{n:Nat} (hb:∀x,x<n→∀t,P x t→∃t1 t2,k (f x) t=some t1∧b t1=some (.nx t2)∧P (x+1) t2) (t:Th) (h:P 0 t):∃t',forD k b ((zay0 n).map f) t=some (.nx t')∧P n t':=by
 have:=for_I hb n 0 t (by lia) h
 rwa [List.range_eq_range']
def DI (n:Int) (P:List Int) (V:Int→Int) (i:Nat) (ps:List Int):Prop := ∀q,(if q∈P then V q else n)=ltr n i (ps.drop i) q
structure Pol (room:Nat) (K:List Int) (x:Int) (K':List Int):Prop where
 has:x∈K'
 hit:x∈K→∀q,q∈K'↔q∈K
 old:∀q∈K',q=x∨q∈K
 nd:K'.Nodup
 len:K'.length≤room
inductive Rn (room:Nat):List Int→List Int→Nat→Prop
 |nil (K:List Int):Rn room K [] 0
 |cons {K K' xs:List Int}{x:Int}{m:Nat}:Pol room K x K'→Rn room K' xs m→Rn room K (x::xs) ((if x∈K then 0 else 1)+m)
def pD (p:Int×Int):D:=.tup [.int p.1,.int p.2]
abbrev Pr:=Int×Nat
def sb:List Pr→Nat→Int
 |[],_=>0
 |p::ps,b=>(if p.2=b then p.1 else 0)+sb ps b
theorem getD_mem {L:List Int}{k:Nat} (h:k<L.length):L.getD k 0∈L:=by
 rw [zav9,zav4 h];exact zbb8 h
theorem mem_getD {L:List Int}{x:Int} (h:x∈L):∃k,k<L.length∧L.getD k 0=x:=by
 obtain⟨k,hk,e⟩:=List.getElem_of_mem h
 exact⟨k,hk,by rw [zav9,zav4 hk];exact e⟩
theorem ixi_of {fa fb:DE}{t:Th}{r1 r2:Ev} (L:List Int) (b:Int) (ha:fa t=some r1) (hb:fb t=some r2) (h0:0≤b) (h:b<(L.length:Int)) (h1:r1.d=.lst (L.map D.int)) (h2:r2.d=.int b):(d2 kIx fa fb) t=some (.cl (.int (L.getD b.toNat 0))) :=
 zaa9 L b.toNat ha hb (by lia) h1 (by rw [h2,zba2 h0])
def prC (L:List Int) (u:Nat×Nat):Int:=if L.getD u.2 0<L.getD u.1 0 then L.getD u.2 0 else L.getD u.1 0
noncomputable def lfC (L:List Int) (u:Nat×Nat):List Int:=(L.set u.1 (L.getD u.1 0 - prC L u)).set u.2 ((L.set u.1 (L.getD u.1 0 - prC L u)).getD u.2 0 - prC L u)
def stC (s:List Int×List Int) (u:Nat×Nat):List Int×List Int:=(lfC s.1 u,s.2++[prC s.1 u])
theorem zx5 (L:List Int) (u:Nat×Nat):(lfC L u).length=L.length:=by unfold lfC;simp
theorem zx9 (L:List Int) (i j:Nat) (v:Int) (h:i<L.length):(L.set i v).getD j 0=if j=i then v else L.getD j 0:=by
 rw [zav9,List.getElem?_set]
 by_cases e:j=i
 ·subst e;simp [h]
 ·rw [if_neg (fun z=>e z.symm),if_neg e, ← zav9]
theorem zt2 {L:List Int}{u:Nat×Nat} (h:u.1<u.2) (h2:u.2<L.length) (j:Nat):(lfC L u).getD j 0=if j=u.1∨j=u.2 then L.getD j 0 - prC L u else L.getD j 0:=by
 unfold lfC
 rw [zx9 _ _ _ _ (by simpa using h2),zx9 _ _ _ _ (by lia),zx9 _ _ _ _ (by lia)]
 by_cases a:j=u.2
 ·subst a
  rw [if_pos rfl,if_neg (by lia),if_pos (Or.inr rfl)]
 ·rw [if_neg a]
  by_cases b:j=u.1
  ·rw [if_pos b,if_pos (Or.inl b),b]
  ·rw [if_neg b,if_neg (by lia)]
def sumX (X:List Int) (L:List Int):Int:=(X.map fun p=>L.getD p.toNat 0).sum
theorem zag0:∀(X:List Int) (L:List Int) (u:Nat×Nat),u.1<u.2→u.2<L.length→X.Nodup→(∀p∈X,0≤p)→sumX X (lfC L u)=sumX X L - (if (u.1:Int)∈X then prC L u else 0) - (if (u.2:Int)∈X then prC L u else 0)
 |[],L,u,_,_,_,_=>by simp [sumX]
 |p::X,L,u,h,h2,nd,h0=>by
  rw [zaw8]at nd
  have ih:=zag0 X L u h h2 nd.2 fun q hq=>h0 q (zau8 _ hq)
  have p0:=h0 p (zav1 ..)
  unfold sumX at ih ⊢
  rw [zav6,zba3,zav6,zba3,ih,zt2 h h2]
  have m:∀k:Nat,((k:Int)∈p::X)↔(p.toNat=k∨(k:Int)∈X):=fun k=>by
   rw [zav5]
   exact⟨fun z=>z.elim (fun y=>.inl (by lia)) .inr,fun z=>z.elim (fun y=>.inl (by lia)) .inr⟩
  have nn:∀k:Nat,p.toNat=k→(k:Int)∉X:=fun k e z=>nd.1 (by rw [show p=(k:Int) by lia];exact z)
  simp only [m]
  by_cases a:p.toNat=u.1
  ·have b:p.toNat≠u.2:=by lia
   have:=nn _ a
   simp only [a,true_or,if_true,this,if_false]
   have e2:(u.1=u.2∨(u.2:Int)∈X)↔(u.2:Int)∈X:=⟨fun z=>z.elim (fun y=>absurd y (by lia)) id,.inr⟩
   simp only [e2]
   split<;>lia
  ·by_cases b:p.toNat=u.2
   ·have:=nn _ b
    have e1:(u.2=u.1∨(u.1:Int)∈X)↔(u.1:Int)∈X:=⟨fun z=>z.elim (fun y=>absurd y (by lia)) id,.inr⟩
    simp only [b,or_true,true_or,if_true,this,if_false,e1]
    split<;>lia
   ·rw [if_neg (by lia)]
    simp only [a,b,false_or]
    lia
def nnL (L:List Int):Prop := ∀j,0≤L.getD j 0
theorem prC_le (L:List Int) (u:Nat×Nat):prC L u≤L.getD u.1 0∧prC L u≤L.getD u.2 0:=by unfold prC;split<;>lia
theorem prC_nn {L:List Int} (h:nnL L) (u:Nat×Nat):0≤prC L u:=by
 have:=h u.1;have:=h u.2
 unfold prC;split<;>lia
theorem zap5 {L:List Int}{u:Nat×Nat} (h:nnL L) (hu:u.1<u.2) (h2:u.2<L.length):nnL (lfC L u):=fun j=>by
 rw [zt2 hu h2]
 have:=h j
 have p:=prC_le L u
 split
 ·rename_i z
  rcases z with rfl | rfl<;>lia
 ·exact this
theorem zai8 {M:Nat}{X:List Int} (nd:X.Nodup) (x0:∀p∈X,0≤p):∀(us:List (Nat×Nat)) (s:List Int×List Int),s.1.length=M→nnL s.1→(∀u∈us,u.1<u.2∧u.2<M)→(∀u∈us,(u.1:Int)∈X∨(u.2:Int)∈X)→(us.foldl stC s).2.sum+sumX X (us.foldl stC s).1≤s.2.sum+sumX X s.1∧nnL (us.foldl stC s).1
 |[],s,_,h,_,_=>⟨zbm0 _,h⟩
 |u::us,s,hM,hn,hu,hX=>by
  obtain⟨u1,u2⟩:=hu u (zav1 ..)
  have h2:u.2<s.1.length:=by lia
  have ih:=zai8 nd x0 us (stC s u) ((zx5 _ _).trans hM) (zap5 hn u1 h2) (fun v hv=>hu v (zau8 _ hv)) fun v hv=>hX v (zau8 _ hv)
  refine⟨Int.le_trans ih.1 ?_,ih.2⟩
  show (s.2++[prC s.1 u]).sum+sumX X (lfC s.1 u)≤_
  rw [List.sum_append,zag0 X s.1 u u1 h2 nd x0]
  have p:=prC_nn hn u
  have e:[prC s.1 u].sum=prC s.1 u:=by simp
  rw [e]
  rcases hX u (zav1 ..) with z | z
  ·rw [if_pos z];split<;>lia
  ·rw [if_pos z];split<;>lia
theorem sumX_nn {X L:List Int} (h:nnL L):0≤sumX X L:=by
 unfold sumX
 induction X with
 |nil=>simp
 |cons p X ih=>rw [zav6,zba3];have:=h p.toNat;lia
structure Ms where
 E:List Int
 Pr:List Int
 T:List Int
def uA (us:List (Nat×Nat)) (a:Int):Nat×Nat:=us.getD a.toNat (0,0)
structure Fe (us:List (Nat×Nat)) (ws:List Int) (s:Ms) (seen:List Int) (lo:Int):Prop where
 nn:∀j,0≤s.Pr.getD j 0
 hi:∀j:Nat,(j:Int)∈s.E→lo≤s.Pr.getD j 0
 ok:∀a∈seen,ws.getD a.toNat 0≤s.Pr.getD (uA us a).1 0+s.Pr.getD (uA us a).2 0
 zr:∀j:Nat,(j:Int)∉s.E→s.Pr.getD j 0=0
def en1 (us:List (Nat×Nat)) (T:List Int):List Int:=T.map fun a=>((uA us a).1:Int)
def en2 (us:List (Nat×Nat)) (T:List Int):List Int:=T.map fun a=>((uA us a).2:Int)
structure Jn (M:Nat) (us:List (Nat×Nat)) (i:Nat) (c:List Int×List Int) (s:Ms):Prop where
 l1:c.1.length=M
 l2:s.Pr.length=M
 left:∀j:Nat,j<M→c.1.getD j 0=if (j:Int)∈s.E then 0 else 1
 prc:∀j:Nat,j<M→s.Pr.getD j 0=if (j:Int)∈s.E then 1 else 0
 pay:c.2=(zb0 i).map fun a=>if a∈s.T then 1 else 0
 lt:∀a∈s.T,0≤a∧a<(i:Int)
 up:s.T.Pairwise (· < ·)
 mem:∀q,q∈s.E↔q∈en1 us s.T∨q∈en2 us s.T
 nd:(en1 us s.T++en2 us s.T).Nodup
end KX
set_option maxHeartbeats 1000000
namespace KX
theorem zah9:∀ {A B:List Int},A.Nodup→(∀x∈A,x∈B)→A.length≤B.length
 |[],B,_,_=>by simp
 |a::A,B,n,h=>by
  have ha:a∈B:=h a (by simp)
  have n':=zaw8.mp n
  have:=zah9 (A:=A) (B:=B.erase a) n'.2 fun x hx=>by
   have ne:x≠a:=fun z=>n'.1 (z ▸ hx)
   exact (zbi1 ne).mpr (h x (zau8 _ hx))
  rw [zbg1 ha]at this
  have:0<B.length:=zbb7 ha
  simp only [zax7]
  lia
def mxL:List Nat→Nat
 |[]=>0
 |a::l=>max a (mxL l)
theorem zai0:∀ {l:List Nat}{a:Nat},a∈l→a≤mxL l
 |b::l,a,h=>by
  rcases zav5.mp h with rfl | h
  ·exact Nat.le_max_left _ _
  ·exact zax3 (zai0 h) (Nat.le_max_right _ _)
theorem zx2:∀ {l:List Nat},l≠[]→mxL l∈l
 |[a],_=>by simp [mxL]
 |a::b::l,_=>by
  have:=zx2 (l:=b::l) (by simp)
  show max a (mxL (b::l))∈_
  by_cases h:a≤mxL (b::l)
  ·rw [Nat.max_eq_right h];exact zau8 _ this
  ·rw [Nat.max_eq_left (by lia)];exact zav1 ..
theorem mxL_le {l:List Nat}{n:Nat} (h:∀a∈l,a≤n):mxL l≤n:=by
 by_cases z:l=[]
 ·subst z;exact zbl4 _
 ·exact h _ (zx2 z)
abbrev Hd:=List (Int×Nat)
def nwS (hd:Hd) (s:List Int):List Int:=s.filter fun x=>decide (x∉hd.map Prod.fst)
def lnS (hd:Hd) (ss:List (List Int)):List Nat:=ss.map fun s=>(nwS hd s).length
def bst (hd:Hd) (ss:List (List Int)):Nat:=(lnS hd ss).idxOf (mxL (lnS hd ss))
def adS (hd:Hd) (ss:List (List Int)):Hd:=hd++(nwS hd (ss.getD (bst hd ss) [])).map fun x=>(x,mxL (lnS hd ss))
theorem zac8 {hd:Hd}{ss:List (List Int)} (h:ss≠[]):bst hd ss<ss.length:=by
 have e:(lnS hd ss).length=ss.length:=by simp [lnS]
 rw [← e]
 refine List.idxOf_lt_length_of_mem (zx2 fun z=>h ?_)
 rw [lnS,zbe6]at z
 exact z
theorem zy6 {hd:Hd}{ss:List (List Int)} (h:ss≠[]):ss.getD (bst hd ss) []∈ss:=by
 have:=zac8 (hd:=hd) h
 rw [zav9,zav4 this]
 exact zbb8 _
theorem zy7 {hd:Hd}{ss:List (List Int)} (h:ss≠[]):(nwS hd (ss.getD (bst hd ss) [])).length=mxL (lnS hd ss):=by
 have l:=zac8 (hd:=hd) h
 have l':bst hd ss<(lnS hd ss).length:=by simpa [lnS] using l
 have e:(lnS hd ss)[bst hd ss]=mxL (lnS hd ss):=zbi7 l'
 rw [zav9,zav4 l]
 rw [← e]
 simp [lnS]
structure Pt (w:Nat→Nat) (L N:Nat):Prop where
 eq:∀m,1≤m→m≤N→m*w m=L
theorem Pt.anti {w:Nat→Nat}{L N:Nat} (p:Pt w L N) {a b:Nat} (ha:1≤a) (hab:a≤b) (hb:b≤N):w b≤w a:=by
 refine Nat.le_of_not_lt fun c=>?_
 have e1:=p.eq a ha (by lia)
 have e2:=p.eq b (by lia) hb
 have h1:a*w a<a*w b:=Nat.mul_lt_mul_of_pos_left c ha
 have h2:a*w b≤b*w b:=zbe3 _ hab
 lia
def Hw (w:Nat→Nat):Nat→Nat
 |0=>0
 |n+1=>Hw w n+w (n+1)
theorem zaf8 (w:Nat→Nat) {a b:Nat} (h:a≤b):Hw w a≤Hw w b:=by
 induction b with
 |zero=>rw [Nat.le_zero.mp h];exact zaw9 _
 |succ b ih =>
  rcases zbf4 h with h | h
  ·exact zax3 (ih (by lia)) (Nat.le_add_right _ _)
  ·rw [h];exact zaw9 _
theorem Hw_add {w:Nat→Nat}{L N m:Nat} (p:Pt w L N) (hm:m≤N) (r:Nat):∀c,r+c≤m→c*w m+Hw w r≤Hw w (r+c)
 |0,_=>by simp
 |c+1,h=>by
  have i:=Hw_add p hm r c (by lia)
  have a:=p.anti (a:=r+c+1) (b:=m) (by lia) (by lia) hm
  show (c+1)*w m+Hw w r≤Hw w (r+c)+w (r+c+1)
  rw [zbe0]
  lia
def paid (w:Nat→Nat) (hd:Hd) (s:List Int):Nat:=(hd.map fun p=>if p.1∈s then w p.2 else 0).sum
def totW (w:Nat→Nat) (hd:Hd):Nat:=(hd.map fun p=>w p.2).sum
theorem tot_app (w:Nat→Nat) (a b:Hd):totW w (a++b)=totW w a+totW w b:=by simp [totW]
theorem paid_app (w:Nat→Nat) (a b:Hd) (s:List Int):paid w (a++b) s=paid w a s+paid w b s:=by simp [paid]
theorem zal5 (w:Nat→Nat) (m:Nat):∀xs:List Int,totW w (xs.map fun x=>(x,m))=xs.length*w m
 |[]=>by simp [totW]
 |x::xs=>by
  have:=zal5 w m xs
  unfold totW at this ⊢
  simp only [zav6,zba3,zax7,zbe0,this]
  lia
theorem zah5 (w:Nat→Nat) (m:Nat) (s:List Int):∀xs:List Int,paid w (xs.map fun x=>(x,m)) s=(xs.filter fun x=>decide (x∈s)).length*w m
 |[]=>by simp [paid]
 |x::xs=>by
  have:=zah5 w m s xs
  unfold paid at this ⊢
  by_cases h:x∈s
  ·simp only [zav6,zba3,h,if_true,this,zbb4,decide_true,zax7,zbe0]
   lia
  ·simp only [zav6,zba3,h,if_false,this,decide_false,zbb5,zbf3,not_false_eq_true]
   lia
structure GI (ss:List (List Int)) (w:Nat→Nat) (L:Nat) (hd:Hd) (n:Nat):Prop where
 nd:(hd.map Prod.fst).Nodup
 tt:totW w hd=n*L
 pay:∀s∈ss,paid w hd s+Hw w (nwS hd s).length≤Hw w s.length
 sub:∀x∈hd.map Prod.fst,∃s∈ss,x∈s
theorem GI.nil (ss:List (List Int)) (w:Nat→Nat) (L:Nat):GI ss w L [] 0:=by
 refine⟨zax6,by simp [totW],fun s _=>?_,fun x hx=>nomatch hx⟩
 show 0+Hw w (nwS [] s).length≤_
 rw [zbf8]
 exact zaf8 w (zay2 _ _)
theorem mem_nwS {hd:Hd}{s:List Int}{x:Int}:x∈nwS hd s↔x∈s∧x∉hd.map Prod.fst:=by
 unfold nwS
 rw [zay5,decide_eq_true_eq]
theorem zn0 (hd:Hd) (ss:List (List Int)):(adS hd ss).map Prod.fst=hd.map Prod.fst++nwS hd (ss.getD (bst hd ss) []):=by
 unfold adS
 rw [zbc3,zbd3]
 congr 1
 simp [Function.comp_def]
theorem GI.step {ss:List (List Int)}{w:Nat→Nat}{L N:Nat}{hd:Hd}{n:Nat} (p:Pt w L N) (h:GI ss w L hd n) (hs:∀s∈ss,s.Nodup∧s.length≤N) (h0:0<mxL (lnS hd ss)):GI ss w L (adS hd ss) (n+1):=by
 have ne:ss≠[]:=fun z=>by rw [z]at h0;simp [lnS,mxL]at h0
 have bl:=zy7 (hd:=hd) ne
 have bm:=zy6 (hd:=hd) ne
 have nn:(nwS hd (ss.getD (bst hd ss) [])).Nodup:=(hs _ bm).1.filter _
 have mN:mxL (lnS hd ss)≤N:=by
  rw [← bl]
  exact zax3 (zay2 _ _) (hs _ bm).2
 refine⟨?_,?_,fun s hs'=>?_,fun x hx=>?_⟩
 ·rw [zn0]
  exact zaw2.mpr ⟨h.nd,nn,fun a ha b hb e=>(mem_nwS.mp hb).2 (e ▸ ha)⟩
 ·show totW w (hd++_)=_
  rw [tot_app,zal5,h.tt,bl,p.eq _ h0 mN,zbe0,Nat.one_mul]
 ·have h1:=h.pay s hs'
  show paid w (hd++_) s+_≤_
  rw [paid_app,zah5]
  let c:=((nwS hd (ss.getD (bst hd ss) [])).filter fun x=>decide (x∈s)).length
  let r:=(nwS hd s).length
  let r':=(nwS (adS hd ss) s).length
  have hr:r≤mxL (lnS hd ss):=zai0 (zax8.mpr ⟨s,hs',rfl⟩)
  have hc:c+r'≤r:=by
   have:=zah9 (A:=((nwS hd (ss.getD (bst hd ss) [])).filter fun x=>decide (x∈s))++nwS (adS hd ss) s) (B:=nwS hd s) ?_ ?_
   ·rw [zax2]at this;exact this
   ·refine zaw2.mpr ⟨nn.filter _,(hs s hs').1.filter _,fun a ha b hb e=>?_⟩
    subst e
    have:=(mem_nwS.mp hb).2
    rw [zn0]at this
    exact this (zau6 _ (zay5.mp ha).1)
   ·intro x hx
    rcases zav2.mp hx with hx | hx
    ·obtain⟨a,b⟩:=zay5.mp hx
     exact mem_nwS.mpr ⟨by simpa using b,(mem_nwS.mp a).2⟩
    ·obtain⟨a,b⟩:=mem_nwS.mp hx
     rw [zn0]at b
     exact mem_nwS.mpr ⟨a,fun z=>b (zau9 _ z)⟩
  have h2:=Hw_add p mN r' c (by lia)
  have h3:=zaf8 w (a:=r' + c) (b:=r) (by lia)
  show paid w hd s+c*w (mxL (lnS hd ss))+Hw w r'≤Hw w s.length
  have h1:paid w hd s+Hw w r≤Hw w s.length:=h1
  lia
 ·rw [zn0]at hx
  rcases zav2.mp hx with hx | hx
  ·exact h.sub x hx
  ·exact⟨_,bm,(mem_nwS.mp hx).1⟩
theorem zal6 (w:Nat→Nat) {cs:List (List Int)}:∀ {hd:Hd},(∀x∈hd.map Prod.fst,∃c∈cs,x∈c)→totW w hd≤(cs.map (paid w hd)).sum
 |[],_=>by simp [totW]
 |p::hd,h=>by
  have i:=zal6 w (hd:=hd) fun x hx=>h x (by simp only [zav6];exact zau8 _ hx)
  have e:∀cs:List (List Int),(cs.map (paid w (p::hd))).sum=(cs.map fun c=>if p.1∈c then w p.2 else 0).sum+(cs.map (paid w hd)).sum:=by
   intro cs
   induction cs with
   |nil=>rfl
   |cons c cs ih =>
    simp only [zav6,zba3,ih]
    show ((if p.1∈c then w p.2 else 0)+paid w hd c)+_=_
    lia
  have l:∀cs:List (List Int),(∃c∈cs,p.1∈c)→w p.2≤(cs.map fun c=>if p.1∈c then w p.2 else 0).sum:=by
   intro cs
   induction cs with
   |nil=>intro ⟨c,hc,_⟩;exact nomatch hc
   |cons c cs ih =>
    intro ⟨d,hd,m⟩
    simp only [zav6,zba3]
    rcases zav5.mp hd with z | z
    ·subst z;rw [if_pos m];lia
    ·have:=ih ⟨d,z,m⟩;lia
  have:=l cs (h p.1 (by simp))
  rw [e]
  show w p.2+totW w hd≤_
  lia
theorem zag2 {f:List Int→Nat}{B:Nat}:∀ {cs:List (List Int)},(∀c∈cs,f c≤B)→(cs.map f).sum≤cs.length*B
 |[],_=>by simp
 |c::cs,h=>by
  have:=zag2 (cs:=cs) fun x hx=>h x (zau8 _ hx)
  have:=h c (zav1 ..)
  simp only [zav6,zba3,zax7,zbe0]
  lia
theorem GI.cover {ss:List (List Int)}{w:Nat→Nat}{L B n:Nat}{hd:Hd} (h:GI ss w L hd n) {cs:List (List Int)} (hc:∀c∈cs,c∈ss) (hB:∀s∈ss,s.length≤B) (hv:∀x∈hd.map Prod.fst,∃c∈cs,x∈c):n*L≤cs.length*Hw w B:=by
 rw [← h.tt]
 refine zax3 (zal6 w hv) (zag2 fun c hc'=>?_)
 have:=h.pay c (hc c hc')
 have:=zaf8 w (hB c (hc c hc'))
 lia
end KX
namespace KX
open PySem.Spec L2 DL
theorem asg_dn {t:Th}{f:DE}{i:Nat}{d:D} (hf:f t=some (.dn d)) (hi:i<t.length):dAsg i f t=some (.nx (t.set i (.dp d))):=by
 unfold dAsg
 rw [hf]
 simp only [zav0,zm6,hi,if_true,zay6]
theorem zaq5 {k:D→Th→Option Th}{b:DS}{d:D}{ds:List D}{t t1 t2:Th} (h1:k d t=some t1) (h2:b t1=some (.nx t2)):forD k b (d::ds) t=forD k b ds t2:=by simp [forD,h1,h2]
theorem zag7 {k0:D→Th→Option Th}{b:DS}{t:Th}{f f':DE}{lo n:Int}{k:Nat} (h1:f t=some (.cl (.int lo))) (h2:f' t=some (.cl (.int n))) (hk:(n - lo).toNat=k) (hb:(bigI n&&bigI lo)=true):zaf3 k0 f f' b t=forD k0 b (rngD lo k) t:=by
 unfold zaf3
 rw [h1,h2]
 show (if bigI n&&bigI lo then forD k0 b (rngD lo (n - lo).toNat) t else none)=_
 rw [if_pos hb,hk]
theorem zas5 {α:Type}{e:α→D}{ft:DT}{fe:DE}{p:α→Bool}{f:α→D}{ext:Th}:∀(xs:List α) (s:Sl),(∀x∈xs,ft (.val (e x)::ext)=some (p x))→(∀x∈xs,p x=true→∃r,fe (.val (e x)::ext)=some r∧r.d=f x)→zd7 (za3 0) ft fe (xs.map e) (s::ext)=some ((xs.filter p).map f)
 |[],s,_,_=>rfl
 |x::l,s,h,h'=>by
  have i:=zas5 (p:=p) (f:=f) l (.val (e x)) (fun y hy=>h y (zau8 _ hy)) (fun y hy=>h' y (zau8 _ hy))
  show ((ft (.val (e x)::ext)).bind fun b=>if b then (fe (.val (e x)::ext)).bind fun r=>(zd7 (za3 0) ft fe (l.map e) (.val (e x)::ext)).map fun xs=>r.d::xs else zd7 (za3 0) ft fe (l.map e) (.val (e x)::ext))=_
  rw [h x (zav1 ..),i]
  cases hp:p x with
  |false=>rw [zbb5 (by rw [hp];decide)];rfl
  |true =>
   obtain⟨r,e1,e2⟩:=h' x (zav1 ..) hp
   rw [e1,zbb4 hp,zav6, ← e2]
   rfl
theorem zaf4 {α:Type}{e:α→D}{fe:DE}{f:α→D}{ext:Th}:∀(xs:List α) (s:Sl),(∀x∈xs,∃r,fe (.val (e x)::ext)=some r∧toDn r=some (f x))→zg4 (za3 0) zc9 fe (xs.map e) (s::ext)=some (xs.map f)
 |[],s,_=>rfl
 |x::l,s,h'=>by
  have i:=zaf4 (f:=f) l (.val (e x)) (fun y hy=>h' y (zau8 _ hy))
  obtain⟨r,e1,e2⟩:=h' x (zav1 ..)
  show ((fe (.val (e x)::ext)).bind fun r=>(toDn r).bind fun d=>(zg4 (za3 0) zc9 fe (l.map e) (.val (e x)::ext)).map fun xs=>d::xs)=_
  rw [e1,i]
  show ((toDn r).bind fun d=>_)=_
  rw [e2]
  rfl
theorem zu2 {α:Type}{e:α→D}{ft:DT}{fe f:DE}{p:α→Bool}{g:α→D}{cap:List Nat}{t:Th}{r:Ev}{xs:List α}{b:Bool}{c:List D} (hf:f t=some r) (hr:r.d=.lst (xs.map e)) (hc:capD t cap=some (b,c)) (hl:xs.length≤50000)
  (h1:∀x∈xs,ft (.val (e x)::c.map Sl.val)=some (p x)) (h2:∀x∈xs,p x=true→∃r,fe (.val (e x)::c.map Sl.val)=some r∧r.d=g x) (h3:flats ((xs.filter p).map g)=true∨(r.ok&&b)=true):zd1 1 cap (fsL f) (za3 0) ft fe t=some (.nw ((xs.filter p).map g)):=by
 unfold zd1
 have e1:fsL f t=some (r.ok,xs.map e):=by
  unfold fsL;rw [hf];simp only [zav0,hr]
 have e2:zd7 (za3 0) ft fe (xs.map e) (Sl.no::c.map Sl.val)=some ((xs.filter p).map g):=zas5 xs _ h1 h2
 rw [e1,hc]
 simp only [zav0]
 rw [if_pos (by simpa using hl)]
 show (zd7 (za3 0) ft fe (xs.map e) (Sl.no::c.map Sl.val)).bind _=_
 rw [e2]
 show (if ((r.ok&&b)||flats ((xs.filter p).map g))=true then _ else _)=_
 rw [if_pos (by rcases h3 with h | h<;>rw [h]<;>simp)]
theorem zag5 (n:Nat):rngD 0 n=(zb0 n).map D.int:=by
 unfold rngD zb0
 rw [zbd3]
 refine zbc9 fun x _=>?_
 show D.int (0+(x:Int))=D.int (x:Int)
 rw [Int.zero_add]
theorem zai7 {ft:DT}{fe f:DE}{p:Int→Bool}{g:Int→D}{cap:List Nat}{t:Th}{r:Ev}{n:Nat}{b:Bool}{c:List D} (hf:f t=some r) (hr:r.d=.int (n:Int)) (hc:capD t cap=some (b,c)) (hl:n≤50000)
  (h1:∀x∈zb0 n,ft (.val (.int x)::c.map Sl.val)=some (p x)) (h2:∀x∈zb0 n,p x=true→∃r,fe (.val (.int x)::c.map Sl.val)=some r∧r.d=g x) (h3:flats (((zb0 n).filter p).map g)=true∨b=true):zd1 1 cap (fsR1 f) (za3 0) ft fe t=some (.nw (((zb0 n).filter p).map g)):=by
 unfold zd1
 have e1:fsR1 f t=some (true,(zb0 n).map D.int):=by
  unfold fsR1;rw [hf];simp only [zav0,hr]
  rw [if_pos (by unfold bigI;simp;lia), ← zag5]
  rfl
 have e2:zd7 (za3 0) ft fe ((zb0 n).map D.int) (Sl.no::c.map Sl.val)=some (((zb0 n).filter p).map g):=zas5 (zb0 n) _ h1 h2
 rw [e1,hc]
 simp only [zav0]
 rw [if_pos (by simpa [zb0] using hl)]
 show (zd7 (za3 0) ft fe ((zb0 n).map D.int) (Sl.no::c.map Sl.val)).bind _=_
 rw [e2]
 show (if ((true&&b)||flats (((zb0 n).filter p).map g))=true then _ else _)=_
 rw [if_pos (by rcases h3 with h | h<;>rw [h]<;>simp)]
theorem zar7 {α:Type}{e:α→D}{fe f:DE}{g:α→D}{cap:List Nat}{t:Th}{r:Ev}{xs:List α}{b:Bool}{c:List D} (hf:f t=some r) (hr:r.d=.lst (xs.map e)) (hc:capD t cap=some (b,c)) (hl:xs.length≤50000)
  (h2:∀x∈xs,∃r,fe (.val (e x)::c.map Sl.val)=some r∧toDn r=some (g x)):zh2 1 cap (fsL f) (za3 0) zc9 fe t=some (.dn (.lst (xs.map g))):=by
 unfold zh2
 have e1:fsL f t=some (r.ok,xs.map e):=by
  unfold fsL;rw [hf];simp only [zav0,hr]
 have e2:zg4 (za3 0) zc9 fe (xs.map e) (Sl.no::c.map Sl.val)=some (xs.map g):=zaf4 xs _ h2
 rw [e1,hc]
 simp only [zav0]
 rw [if_pos (by simpa using hl)]
 show (zg4 (za3 0) zc9 fe (xs.map e) (Sl.no::c.map Sl.val)).map _=_
 rw [e2]
 rfl
def kN (n:Int):Key:=Sum.inl n
def tP (m:Nat):D:=.tup [.int 1,.int (m:Int)]
def dctH (hd:Hd):D:=.dct ((hd.map Prod.fst).map kN) (hd.map fun p=>tP p.2)
theorem zab3 (x:Int):∀ks:List Int,hasK (ks.map kN) (kN x)=decide (x∈ks)
 |[]=>rfl
 |k::ks=>by
  have i:=zab3 x ks
  unfold hasK at i ⊢
  rw [zav6,zba1,i]
  by_cases h:k=x
  ·subst h;simp
  ·have h' : ¬ kN k=kN x:=fun z=>h (by cases z;rfl)
   rw [decide_eq_false h']
   have:(x∈k::ks)=(x∈ks):=by rw [zav5];simp [show ¬ x=k from fun z=>h z.symm]
   simp only [this,zbi9]
def putN (ks:List Int) (x:Int):List Int:=if x∈ks then ks else ks++[x]
def ttD (_:Int):D:=.bl true
theorem zip_same {ks:List Int}{x:Int}:∀ls:List Int,zbf9 (fun k' d'=>if k'=kN x then D.bl true else d') (ls.map kN) (ls.map ttD)=ls.map ttD
 |[]=>rfl
 |l::ls=>by
  rw [zav6,zav6,zaz2,zip_same (ks:=ks) ls]
  congr 1
  split<;>rfl
theorem put_tt (ks:List Int) (x:Int):zh1 (ks.map kN) (ks.map ttD) (kN x) (.bl true)=((putN ks x).map kN,(putN ks x).map ttD):=by
 unfold zh1 putN
 rw [zab3]
 by_cases h:x∈ks
 ·rw [decide_eq_true h,if_pos rfl,if_pos h,zip_same (ks:=ks) ks]
 ·rw [decide_eq_false h,if_neg (by decide),if_neg h]
  simp [kN,ttD]
structure AllK (M:Nat) (ks:List Int):Prop where
 nd:ks.Nodup
 lt:∀x∈ks,0≤x∧x<(M:Int)
theorem AllK.len {M:Nat}{ks:List Int} (h:AllK M ks):ks.length≤M:=by
 have:=zp6 (l:=ks) (C:=zb0 M) h.nd fun x hx=>zg9 (h.lt x hx).1 (h.lt x hx).2
 simpa [zb0] using this
theorem AllK.put {M:Nat}{ks:List Int}{x:Int} (h:AllK M ks) (h0:0≤x) (h1:x<(M:Int)):AllK M (putN ks x):=by
 unfold putN
 split
 ·exact h
 ·rename_i n
  refine⟨zaw2.mpr ⟨h.nd,by simp,fun a ha b hb e=>?_⟩,fun y hy=>?_⟩
  ·rw [zax0]at hb;subst hb;subst e;exact n ha
  ·rcases zav2.mp hy with z | z
   ·exact h.lt y z
   ·rw [zax0]at z;subst z;exact⟨h0,h1⟩
theorem mem_putN {ks:List Int}{x y:Int}:y∈putN ks x↔y∈ks∨y=x:=by
 unfold putN
 split
 ·rename_i h
  exact⟨.inl,fun z=>z.elim id fun e=>e ▸ h⟩
 ·simp
theorem AllK.fold {M:Nat}:∀ {s ks:List Int},AllK M ks→(∀x∈s,0≤x∧x<(M:Int))→AllK M (s.foldl putN ks)
 |[],ks,h,_=>h
 |x::s,ks,h,hs=>AllK.fold (s:=s) (h.put (hs x (by simp)).1 (hs x (by simp)).2) fun y hy=>hs y (zau8 _ hy)
theorem zaa5 {y:Int}:∀ {s ks:List Int},y∈s.foldl putN ks↔y∈ks∨y∈s
 |[],ks=>by simp
 |x::s,ks=>by
  rw [zbe7,zaa5 (s:=s),mem_putN,zav5,or_assoc]
def hads (ss:List (List Int)) (ns:List Int):List Int:=ns.foldl (fun ks n=>(ss.getD n.toNat []).foldl putN ks) []
def kdT (ks:List Int):KD:=(ks.map kN,ks.map ttD)
theorem lk_in {M:Nat} (hM:M≤1000) {a S:Sl}:∀ {s:List Int}{ks:List Int}{u:Sl},AllK M ks→(∀x∈s,0≤x∧x<(M:Int))→∃u',zi9 (za3 1) zc9 (dVar 1) (dC (.bl true)) (s.map D.int) [a,u,S] (kdT ks)=some (kdT (s.foldl putN ks),[a,u',S])
 |[],ks,u,_,_=>⟨u,rfl⟩
 |x::s,ks,u,h,hs=>by
  have hx:=hs x (by simp)
  obtain⟨u',e⟩:=lk_in hM (a:=a) (S:=S) (s:=s) (u:=.val (.int x)) (h.put hx.1 hx.2) fun y hy=>hs y (zau8 _ hy)
  refine⟨u',?_⟩
  have st:stKD (kdT ks) (.cl (.int x)) (.cl (.bl true))=some (kdT (putN ks x)):=by
   unfold stKD
   show (if (true&&decide ((ks.map kN).length<50000))=true then some (zh1 (ks.map kN) (ks.map ttD) (kN x) (.bl true)) else none)=_
   have:=h.len
   rw [if_pos (by rw [decide_eq_true (by rw [zaw6];lia)];rfl),put_tt]
   rfl
  show ((stKD (kdT ks) (.cl (.int x)) (.cl (.bl true))).bind fun a1=>zi9 (za3 1) zc9 (dVar 1) (dC (.bl true)) (s.map D.int) [a,.val (.int x),S] a1)=_
  rw [st]
  exact e
theorem lk_out {M:Nat} (hM:M≤1000) {ss:List (List Int)} (hs:∀s∈ss,∀x∈s,0≤x∧x<(M:Int)):∀ {ns ks:List Int}{u v:Sl},AllK M ks→(∀n∈ns,0≤n∧n<(ss.length:Int)) →
  zj0 (za3 0) zc9 (fsL (d2 kIx (dVar 2) (dVar 0))) (za3 1) zc9 (dVar 1) (dC (.bl true)) (ns.map D.int) [u,v,.val (mD ss)] (kdT ks)=some (kdT (ns.foldl (fun ks n=>(ss.getD n.toNat []).foldl putN ks) ks))
 |[],ks,u,v,_,_=>rfl
 |n::ns,ks,u,v,h,hn=>by
  have h0:=hn n (by simp)
  obtain⟨r,er,hr⟩:=zam2 (fa:=dVar 2) (fb:=dVar 0) (t:=[.val (.int n),v,.val (mD ss)]) (i:=n) (M:=ss) (rfl:dVar 2 _=some (.cl (mD ss))) rfl rfl h0.1 h0.2
  have hm:ss.getD n.toNat []∈ss:=by
   rw [zav9,zav4 (by lia)]
   exact zbb8 _
  have hx:=hs _ hm
  obtain⟨u',e⟩:=lk_in hM (a:=.val (.int n)) (S:=.val (mD ss)) (u:=v) h hx
  have i:=lk_out hM hs (ns:=ns) (u:=.val (.int n)) (v:=u') (AllK.fold h hx) fun m hm=>hn m (zau8 _ hm)
  have ef:fsL (d2 kIx (dVar 2) (dVar 0)) [.val (.int n),v,.val (mD ss)]=some (r.ok,(ss.getD n.toNat []).map D.int):=by
   unfold fsL;rw [er];simp only [zav0,hr,rwD]
  show ((fsL (d2 kIx (dVar 2) (dVar 0)) [.val (.int n),v,.val (mD ss)]).bind fun q=>(zi9 (za3 1) zc9 (dVar 1) (dC (.bl true)) q.2 [.val (.int n),v,.val (mD ss)] (kdT ks)).bind fun p=>zj0 (za3 0) zc9 (fsL (d2 kIx (dVar 2) (dVar 0))) (za3 1) zc9 (dVar 1) (dC (.bl true)) (ns.map D.int) p.2 p.1)=_
  rw [ef]
  simp only [zav0]
  rw [e]
  exact i
theorem mem_hads {ss:List (List Int)}{y:Int}:∀ {ns ks:List Int},y∈ns.foldl (fun ks n=>(ss.getD n.toNat []).foldl putN ks) ks↔y∈ks∨∃n∈ns,y∈ss.getD n.toNat []
 |[],ks=>by simp
 |n::ns,ks=>by
  rw [zbe7,mem_hads (ns:=ns),zaa5,or_assoc]
  simp
structure Cv (M:Nat) (ss:List (List Int)):Prop where
 nd:∀s∈ss,s.Nodup
 lt:∀s∈ss,∀x∈s,0≤x∧x<(M:Int)
 all:∀x:Int,0≤x→x<(M:Int)→∃s∈ss,x∈s
theorem Cv.ne {M:Nat}{ss:List (List Int)} (c:Cv M ss) (h:0<M):ss≠[]:=fun z=>by
 obtain⟨s,hs,_⟩:=c.all 0 (by lia) (by lia)
 rw [z]at hs;exact nomatch hs
theorem Cv.len {M:Nat}{ss:List (List Int)} (c:Cv M ss) {s:List Int} (h:s∈ss):s.length≤M:=AllK.len ⟨c.nd s h,c.lt s h⟩
structure HI (M:Nat) (ss:List (List Int)) (hd:Hd):Prop where
 ak:AllK M (hd.map Prod.fst)
 ps:∀p∈hd,0<p.2∧p.2≤M
theorem HI.nil (M:Nat) (ss:List (List Int)):HI M ss []:=⟨⟨zax6,fun x hx=>nomatch hx⟩,fun p hp=>nomatch hp⟩
theorem HI.some_new {M:Nat}{ss:List (List Int)}{hd:Hd} (c:Cv M ss) (h:HI M ss hd) (hl:hd.length<M):0<mxL (lnS hd ss):=by
 have:∃x∈zb0 M,x∉hd.map Prod.fst:=by
  refine Classical.byContradiction fun z=>?_
  have:=zp6 (l:=zb0 M) (C:=hd.map Prod.fst) (zx1 M) fun x hx=>Classical.byContradiction fun y=>z ⟨x,hx,y⟩
  simp [zb0]at this
  lia
 obtain⟨x,hx,nx⟩:=this
 obtain⟨x0,x1⟩:=zf4 hx
 obtain⟨s,hs,xs⟩:=c.all x x0 x1
 have:0<(nwS hd s).length:=zbb7 (mem_nwS.mpr ⟨xs,nx⟩)
 exact zaw1 this (zai0 (zax8.mpr ⟨s,hs,rfl⟩))
theorem HI.step {M:Nat}{ss:List (List Int)}{hd:Hd} (c:Cv M ss) (h:HI M ss hd) (h0:0<mxL (lnS hd ss)):HI M ss (adS hd ss)∧hd.length<(adS hd ss).length:=by
 have ne:ss≠[]:=fun z=>by rw [z]at h0;simp [lnS,mxL]at h0
 have bm:=zy6 (hd:=hd) ne
 have bl:=zy7 (hd:=hd) ne
 have nn:(nwS hd (ss.getD (bst hd ss) [])).Nodup:=(c.nd _ bm).filter _
 refine⟨⟨⟨?_,fun x hx=>?_⟩,fun p hp=>?_⟩,?_⟩
 ·rw [zn0]
  exact zaw2.mpr ⟨h.ak.nd,nn,fun a ha b hb e=>(mem_nwS.mp hb).2 (e ▸ ha)⟩
 ·rw [zn0]at hx
  rcases zav2.mp hx with z | z
  ·exact h.ak.lt x z
  ·exact c.lt _ bm x (mem_nwS.mp z).1
 ·rcases zav2.mp hp with z | z
  ·exact h.ps p z
  ·obtain⟨x,_,rfl⟩:=zax8.mp z
   refine⟨h0,?_⟩
   show mxL (lnS hd ss)≤M
   rw [← bl]
   exact zax3 (zay2 _ _) (c.len bm)
 ·unfold adS
  rw [zax2,zaw6,bl]
  lia
noncomputable def chs (M:Nat) (ss:List (List Int)):Nat→Hd→List Int→Hd×List Int
 |0,hd,ch=>(hd,ch)
 |n+1,hd,ch=>if hd.length<M then chs M ss n (adS hd ss) (ch++[(bst hd ss:Int)]) else (hd,ch)
def shr (hd:Hd) (x:Int):Nat:=((hd.find? fun p=>decide (p.1=x)).map Prod.snd).getD 0
theorem get_hd {x:Int}:∀ {hd:Hd},x∈hd.map Prod.fst→zab4 ((hd.map Prod.fst).map kN) (hd.map fun p=>tP p.2) (kN x)=some (tP (shr hd x))
 |[],h=>nomatch h
 |p::hd,h=>by
  rw [zav6,zav6,zav6]
  unfold zab4
  by_cases e:p.1=x
  ·rw [if_pos (by rw [e]),shr,zbh3 (by simpa using e)]
   rfl
  ·rw [if_neg fun z=>e (by cases z;rfl)]
   rw [zav6,zav5]at h
   have h':=h.resolve_left fun z=>e z.symm
   rw [get_hd h',shr,shr,zbh4 (by simpa using e)]
theorem shr_of {x:Int}{m:Nat}:∀ {hd:Hd},(hd.map Prod.fst).Nodup→(x,m)∈hd→shr hd x=m
 |[],_,h=>nomatch h
 |p::hd,n,h=>by
  rw [zav6]at n
  have n':=zaw8.mp n
  rcases zav5.mp h with z | z
  ·subst z
   rw [shr,zbh3 (by simp)]
   rfl
  ·have e : ¬ p.1=x:=fun y=>n'.1 (by rw [y];exact zax8.mpr ⟨(x,m),z,rfl⟩)
   rw [shr,zbh4 (by simpa using e)]
   exact shr_of n'.2 z
theorem mg_new (m:Nat):∀(xs:List Int) (hd:Hd),xs.Nodup→(∀x∈xs,x∉hd.map Prod.fst)→mgKD (xs.map kN) (xs.map fun _=>tP m) ((hd.map Prod.fst).map kN,hd.map fun p=>tP p.2)=(((hd++xs.map fun x=>(x,m)).map Prod.fst).map kN,(hd++xs.map fun x=>(x,m)).map fun p=>tP p.2)
 |[],hd,_,_=>by simp [mgKD]
 |x::xs,hd,n,h=>by
  have n':=zaw8.mp n
  have i:=mg_new m xs (hd++[(x,m)]) n'.2 fun y hy z=>by
   rw [zbc3,zav2]at z
   rcases z with z | z
   ·exact h y (zau8 _ hy) z
   ·simp at z;exact n'.1 (z ▸ hy)
  rw [zav6,zav6]
  unfold mgKD
  have e:zh1 ((hd.map Prod.fst).map kN) (hd.map fun p=>tP p.2) (kN x) (tP m)=(((hd++[(x,m)]).map Prod.fst).map kN,(hd++[(x,m)]).map fun p=>tP p.2):=by
   unfold zh1
   rw [zab3,decide_eq_false (h x (by simp)),if_neg (by decide)]
   simp
  rw [e,i]
  simp
theorem zac4 {m:Nat}{fv:DE}{ext:Th} (hv:∀x:Int,∃r,fv (.val (.int x)::ext)=some r∧r.d=tP m):∀(xs:List Int) (ys:List Int) (s:Sl),(ys++xs).Nodup→(ys++xs).length≤50000 →
  zh7 (za3 0) zc9 (dVar 0) fv (xs.map D.int) (s::ext) (ys.map kN,ys.map fun _=>tP m)=some ((ys++xs).map kN,(ys++xs).map fun _=>tP m)
 |[],ys,s,_,_=>by simp [zh7]
 |x::xs,ys,s,n,hl=>by
  have i:=zac4 hv xs (ys++[x]) (.val (.int x)) (by simpa using n) (by simpa using hl)
  obtain⟨r,e1,e2⟩:=hv x
  have nx:x∉ys:=fun z=>(zaw2.mp n).2.2 x z x (by simp) rfl
  have st:stKF (ys.map kN,ys.map fun _=>tP m) (.cl (.int x)) r=some ((ys++[x]).map kN,(ys++[x]).map fun _=>tP m):=by
   unfold stKF
   rw [e2]
   show (if (true&&decide ((ys.map kN).length<50000))=true then some (zh1 (ys.map kN) (ys.map fun _=>tP m) (kN x) (tP m)) else none)=_
   rw [if_pos (by rw [decide_eq_true (by rw [zaw6];rw [zax2,zax7]at hl;lia)];rfl)]
   unfold zh1
   rw [zab3,decide_eq_false nx,if_neg (by decide)]
   simp
  show ((fv (.val (.int x)::ext)).bind fun y=>(stKF (ys.map kN,ys.map fun _=>tP m) (.cl (.int x)) y).bind fun a1=>zh7 (za3 0) zc9 (dVar 0) fv (xs.map D.int) (.val (.int x)::ext) a1)=_
  rw [e1]
  simp only [zav0]
  rw [st]
  simp only [zav0]
  rw [i]
  simp
theorem zao9:∀(l:List Nat) (a:Nat),zl2 (a:Int) (l.map fun (n:Nat)=>(n:Int))=((max a (mxL l):Nat):Int)
 |[],a=>by simp [zl2,mxL]
 |b::l,a=>by
  rw [zav6]
  unfold zl2
  have e:(if (a:Int)<(b:Int) then (b:Int) else (a:Int))=((max a b:Nat):Int):=by
   split<;>lia
  rw [e,zao9 l]
  show _=((max a (max b (mxL l)):Nat):Int)
  rw [Nat.max_assoc]
theorem top_mx {l:List Nat} (h:l≠[]):topI' (l.map fun (n:Nat)=>(n:Int))=(mxL l:Int):=by
 cases l with
 |nil=>exact absurd rfl h
 |cons a l=>exact zao9 l a
theorem zai1 (m:Nat):∀l:List Nat,(l.map fun (n:Nat)=>(n:Int)).idxOf (m:Int)=l.idxOf m
 |[]=>rfl
 |a::l=>by
  rw [zav6,List.idxOf_cons,List.idxOf_cons,zai1 m l]
  have z:((a:Int) ==(m:Int))=(a == m):=by
   by_cases e:a=m
   ·subst e;rw [beq_self_eq_true,beq_self_eq_true]
   ·rw [beq_eq_false_iff_ne.mpr e,beq_eq_false_iff_ne.mpr (by lia)]
  rw [z]
theorem zy0 (f:Int→Nat):∀xs:List Int,flats (xs.map fun x=>tP (f x))=true
 |[]=>rfl
 |x::xs=>by
  show (flat (tP (f x))&&flats (xs.map fun x=>tP (f x)))=true
  rw [zy0 f xs]
  rfl
def finH (M:Nat) (ss:List (List Int)):Nat→Hd→Hd
 |0,hd=>hd
 |n+1,hd=>if hd.length<M then finH M ss n (adS hd ss) else hd
noncomputable def rstH (M:Nat) (ss:List (List Int)):Nat→Hd→List Int
 |0,_=>[]
 |n+1,hd=>if hd.length<M then (bst hd ss:Int)::rstH M ss n (adS hd ss) else []
theorem chs_eq (M:Nat) (ss:List (List Int)):∀(n:Nat) (hd:Hd) (ch:List Int),chs M ss n hd ch=(finH M ss n hd,ch++rstH M ss n hd)
 |0,hd,ch=>by simp [chs,finH,rstH]
 |n+1,hd,ch=>by
  unfold chs finH rstH
  split
  ·rw [chs_eq M ss n];simp
  ·simp
theorem zaq6 {M:Nat}{ss:List (List Int)}:∀(n:Nat) (hd:Hd),∀p∈hd,p∈finH M ss n hd
 |0,hd,p,h=>h
 |n+1,hd,p,h=>by
  unfold finH
  split
  ·exact zaq6 n _ p (zau9 _ h)
  ·exact h
theorem zam1 {M:Nat}{ss:List (List Int)}{x:Int}:∀(n:Nat) (hd:Hd),x∈(finH M ss n hd).map Prod.fst→x∈hd.map Prod.fst∨∃k∈rstH M ss n hd,x∈ss.getD k.toNat []
 |0,hd,h=>.inl h
 |n+1,hd,h=>by
  unfold finH at h
  unfold rstH
  split at h
  ·rename_i c
   rw [if_pos c]
   rcases zam1 n _ h with z | ⟨k,hk,z⟩
   ·rw [zn0]at z
    rcases zav2.mp z with z | z
    ·exact .inl z
    ·exact .inr ⟨_,zav1 ..,(mem_nwS.mp z).1⟩
   ·exact .inr ⟨k,zau8 _ hk,z⟩
  ·exact .inl h
theorem zam0 {M:Nat}{ss:List (List Int)} (ne:ss≠[]):∀(n:Nat) (hd:Hd),∀k∈rstH M ss n hd,0≤k∧k<(ss.length:Int)
 |0,hd,k,h=>nomatch h
 |n+1,hd,k,h=>by
  unfold rstH at h
  split at h
  ·rcases zav5.mp h with z | z
   ·subst z
    have:=zac8 (hd:=hd) ne
    lia
   ·exact zam0 ne n _ k z
  ·exact nomatch h
theorem rst_nd {M:Nat}{ss:List (List Int)} (c:Cv M ss):∀(n:Nat) (hd:Hd),HI M ss hd→(rstH M ss n hd).Nodup∧∀k∈rstH M ss n hd,∃x,x∈nwS hd (ss.getD k.toNat [])
 |0,hd,h=>⟨zax6,fun k hk=>nomatch hk⟩
 |n+1,hd,h=>by
  unfold rstH
  split
  ·rename_i hl
   have h0:=h.some_new c hl
   have ne:ss≠[]:=fun z=>by rw [z]at h0;simp [lnS,mxL]at h0
   have bl:=zy7 (hd:=hd) ne
   obtain⟨h1,_⟩:=h.step c h0
   obtain⟨i1,i2⟩:=rst_nd c n (adS hd ss) h1
   refine⟨zaw8.mpr ⟨fun z=>?_,i1⟩,fun k hk=>?_⟩
   ·obtain⟨x,hx⟩:=i2 _ z
    obtain⟨a,b⟩:=mem_nwS.mp hx
    rw [zn0]at b
    exact b (zau6 _ (mem_nwS.mpr ⟨a,fun y=>b (zau9 _ y)⟩))
   ·rcases zav5.mp hk with z | z
    ·subst z
     show ∃x,x∈nwS hd (ss.getD (bst hd ss) [])
     exact List.exists_mem_of_length_pos (by lia)
    ·obtain⟨x,hx⟩:=i2 k z
     obtain⟨a,b⟩:=mem_nwS.mp hx
     rw [zn0]at b
     exact⟨x,mem_nwS.mpr ⟨a,fun y=>b (zau9 _ y)⟩⟩
  ·exact⟨zax6,fun k hk=>nomatch hk⟩
theorem fin_gi {M:Nat}{ss:List (List Int)} (c:Cv M ss) {w:Nat→Nat}{L:Nat} (p:Pt w L M):∀(n:Nat) (hd:Hd) (m:Nat),HI M ss hd→GI ss w L hd m→GI ss w L (finH M ss n hd) (m+(rstH M ss n hd).length)
 |0,hd,m,h,g=>g
 |n+1,hd,m,h,g=>by
  unfold finH rstH
  split
  ·rename_i hl
   have h0:=h.some_new c hl
   obtain⟨h1,_⟩:=h.step c h0
   have:=fin_gi c p n (adS hd ss) (m+1) h1 (g.step p (fun s hs=>⟨c.nd s hs,c.len hs⟩) h0)
   rw [zax7]
   rw [show m+((rstH M ss n (adS hd ss)).length+1)=m+1+(rstH M ss n (adS hd ss)).length by lia]
   exact this
  ·exact g
def fct:Nat→Nat
 |0=>1
 |n+1=>(n+1)*fct n
def hmT:Nat→Nat
 |0=>0
 |n+1=>hmT n*(n+1)+fct n
theorem zt9:∀n,0<fct n
 |0=>Nat.one_pos
 |n+1=>Nat.mul_pos (zbk1 n) (zt9 n)
theorem zaq7 {m:Nat} (h1:1≤m):∀ {N:Nat},m≤N→m ∣ fct N
 |0,h=>by lia
 |N+1,h=>by
  rcases zbf4 h with z | z
  ·exact Nat.dvd_trans (zaq7 h1 (N:=N) (by lia)) (Nat.dvd_mul_left _ _)
  ·rw [z];exact Nat.dvd_mul_right _ _
def wP (N m:Nat):Nat:=fct N / m
theorem pt_w (N:Nat):Pt (wP N) (fct N) N:=⟨fun m h1 h2=>Nat.mul_div_cancel' (zaq7 h1 h2)⟩
theorem hm_eq {N:Nat}:∀ {n:Nat},n≤N→hmT n*fct N=fct n*Hw (wP N) n
 |0,_=>by simp [hmT,Hw]
 |n+1,h=>by
  have i:=hm_eq (N:=N) (n:=n) (by lia)
  have e:=(pt_w N).eq (n+1) (by lia) h
  show (hmT n*(n+1)+fct n)*fct N=(n+1)*fct n*(Hw (wP N) n+wP N (n+1))
  rw [zbe0,Nat.mul_add ((n+1)*fct n)]
  have e1:hmT n*(n+1)*fct N=(n+1)*fct n*Hw (wP N) n:=by
   rw [zbb9,zbc5 (n+1) (fct N), ← zbb9,i,zbc5 (n+1) (fct n),zbb9,zbb9,zbc5 (n+1)]
  have e2:fct n*fct N=(n+1)*fct n*wP N (n+1):=by
   rw [← e,zbc5 (n+1) (fct n),zbb9]
  rw [e1,e2]
theorem hm_le:∀n,hmT n≤n*fct n
 |0=>zaw9 _
 |n+1=>by
  have:=hm_le n
  have h2:hmT n*(n+1)≤n*fct n*(n+1):=zbe3 _ this
  show hmT n*(n+1)+fct n≤(n+1)*((n+1)*fct n)
  have:(n+1)*((n+1)*fct n)=n*fct n*(n+1)+(n+1)*fct n:=by
   rw [zbe0 n 1,Nat.one_mul,zbc5 (n+1) (fct n), ← zbb9]
  have h3:fct n≤(n+1)*fct n:=zbh5 _ (zbk1 n)
  lia
theorem fct_mono {a b:Nat} (h:a≤b):fct a≤fct b:=by
 induction b with
 |zero=>rw [Nat.le_zero.mp h];exact zaw9 _
 |succ b ih =>
  rcases zbf4 h with z | z
  ·exact zax3 (ih (by lia)) (zbh5 _ (zbk1 b))
  ·rw [z];exact zaw9 _
def hA (n:Nat):Nat:=hmT n / zbd5 (hmT n) (fct n)
def hB (n:Nat):Nat:=fct n / zbd5 (hmT n) (fct n)
theorem hAB {N n:Nat} (h:n≤N):hA n*fct N=hB n*Hw (wP N) n:=by
 have g0:0<zbd5 (hmT n) (fct n):=zbg2 _ (zt9 n)
 have e1:hA n*zbd5 (hmT n) (fct n)=hmT n:=zbi8 (Nat.gcd_dvd_left _ _)
 have e2:hB n*zbd5 (hmT n) (fct n)=fct n:=zbi8 (Nat.gcd_dvd_right _ _)
 have i:=hm_eq h
 refine Nat.eq_of_mul_eq_mul_right g0 ?_
 rw [zbf5,e1,i,zbf5,e2]
theorem zas9 {M:Nat}{ss:List (List Int)} (c:Cv M ss) {B:Nat} (hB':∀s∈ss,s.length≤B) (hBM:B≤M) {cs:List (List Int)} (hc:∀s∈cs,s∈ss) (hv:∀x:Int,0≤x→x<(M:Int)→∃s∈cs,x∈s) (n:Nat):(rstH M ss n []).length*hB B≤hA B*cs.length:=by
 have g:=fin_gi c (pt_w M) n [] 0 (HI.nil M ss) (GI.nil ss (wP M) (fct M))
 rw [zbf8]at g
 have h1:=g.cover hc hB' fun x hx=>by
  obtain⟨s,hs,xs⟩:=g.sub x hx
  obtain⟨a,b⟩:=c.lt s hs x xs
  exact hv x a b
 have e:=hAB hBM
 refine Nat.le_of_mul_le_mul_right (c:=fct M) ?_ (zt9 M)
 have:(rstH M ss n []).length*fct M*hB B≤cs.length*Hw (wP M) B*hB B:=zbe3 _ h1
 calc (rstH M ss n []).length*hB B*fct M=(rstH M ss n []).length*fct M*hB B:=zbf5 _ _ _
  _≤cs.length*Hw (wP M) B*hB B:=this
  _=cs.length*(hA B*fct M):=by rw [e,zbb9,zbc5 (Hw (wP M) B)]
  _=hA B*cs.length*fct M:=by rw [← zbb9,zbc5 cs.length]
end KX
set_option maxHeartbeats 4000000
namespace KX
open PySem.Spec L2 DL
def top (i:Nat):Stmt:=PySem.Challenge.pw_nearenough_k57_whole_points_as_sets.main.body.getD i (.Pass ⟨0,0,0,0⟩)
abbrev zf9:Stmt:=top 4
abbrev zm1:Stmt:=top 5
abbrev zm0:Stmt:=top 6
abbrev zf1:Stmt:=top 8
abbrev zg0:Stmt:=top 9
abbrev zo0:Stmt:=top 11
abbrev zf2:Stmt:=top 13
abbrev zh8:Stmt:=top 15
abbrev zk0:Stmt:=top 16
abbrev zo2:Stmt:=top 17
abbrev zo1:Stmt:=top 18
abbrev zi4:Stmt:=top 19
abbrev s_law:Stmt:=top 20
structure Blt (mg:Str→Option Value):Prop where
 n_abs:mg "abs"=none
 n_enumerate:mg "enumerate"=none
 n_len:mg "len"=none
 n_list:mg "list"=none
 n_max:mg "max"=none
 n_min:mg "min"=none
 n_range:mg "range"=none
 n_sorted:mg "sorted"=none
 n_sum:mg "sum"=none
variable {P:Program}{w:World}{K:zau7}{mg:Str→Option Value}{base:BHeap}{ad:Addr}{fd:FuncData}
theorem zr7:FnScope ["one", "other"] ["one", "other"] (zb6 zf9):=zp7 rfl rfl rfl rfl (by decide +kernel)
def cfB:DS:=(dPar 0 1 (za2 (dVar 1) (za2 (d2 qR (dVar 0) (dVar 1)) dNil)))
def zl5:DS :=
 (dSeq (zw1 (fuelN 1) (dBo (d2 kNe (dVar 1) (dC (.int 0)))) cfB) (dRet (dT1 kAbs (za2 (dVar 0) dNil))))
def ze7:List D→Option Ev:=mkG 2 ["one", "other"] zl5
theorem zr9 (Fn:L2.Fun K "common_factor" "common_factor" zf9 ad fd) (bu:Blt mg) :FnOk P w K mg base CX0 1 ad fd ["one", "other"] (spD K ze7):=by
 have SC:=zr7
 refine zj5 (k:=0) Fn SC (fun _ _ e=>zg6 e) zl5 (fun _ _ e=>zj3 e) (fun cdv A outer s H E F hr=>?_)
 refine za5 ?_ ?_
 ·exact (zz7 (fuelN 1) PassesOwn.never (zc7 (zao3 hr.units) (za0 1) za6) (zb7 (zam7 (i:=0) (j:=1) rfl SC.nd rfl rfl (by decide) rfl rfl (za1 (za0 1) (za1 (zc5 zo6 (za0 0) (za0 1)) za4)) rfl)))
 exact zb7 (zf7 (zb8 cd_abs rfl bu.n_abs bt_abs (za1 (za0 0) za4)))
theorem zad8:FnScope ["top", "bottom", "factor"] ["top", "bottom"] (zb6 zm1):=zp7 rfl rfl rfl rfl (by decide +kernel)
noncomputable def zq4:DS :=
 (dSeq (dAsg 2 (dT1 (zc8 ze7) (za2 (dVar 0) (za2 (dVar 1) dNil)))) (dSeq (dIfS (dBo (d2 qL (dVar 1) (dC (.int 0)))) (dAsg 2 (d1 kNeg (dVar 2))) zl8) (dRet (dT1 kTup (za2 (d2 qV (dVar 0) (dVar 2)) (za2 (d2 qV (dVar 1) (dVar 2)) dNil))))))
def zj8:List D→Option Ev:=mkG 2 ["top", "bottom", "factor"] zq4
theorem zae5 (Fn:L2.Fun K "fraction" "fraction" zm1 ad fd) (bu:Blt mg) (c_common_factor:Cal P w K mg base "common_factor" 1 ze7):FnOk P w K mg base CX0 2 ad fd ["top", "bottom"] (spD K zj8):=by
 have SC:=zad8
 refine zj5 (k:=1) Fn SC (fun _ _ e=>zg6 e) zq4 (fun _ _ e=>zj3 e) (fun cdv A outer s H E F hr=>?_)
 refine za5 ?_ ?_
 ·exact (zd0 (i:=2) SC.nd rfl (za9 rfl) (zc6 c_common_factor (hr.mono (by decide)) (za1 (za0 0) (za1 (za0 1) za4))))
 refine za5 ?_ ?_
 ·exact (zo4 (zc7 od_lt (za0 1) za6) (zb7 (zd0 (i:=2) SC.nd rfl (za9 rfl) (ped_neg (za0 2)))) zk8)
 exact zb7 (zf7 (zk1 (za1 (zc5 zao4 (za0 0) (za0 2)) (za1 (zc5 zao4 (za0 1) (za0 2)) za4))))
theorem zad7:FnScope ["many", "top", "bottom", "step"] ["many"] (zb6 zm0):=zp7 rfl rfl rfl rfl (by decide +kernel)
def bdHm:DS:=(dPar 1 2 (za2 (d2 qA (d2 qM (dVar 1) (dVar 3)) (dVar 2)) (za2 (d2 qM (dVar 2) (dVar 3)) dNil)))
noncomputable def zq3:DS :=
 (dSeq (zp3 (zj4 2 (zc3 (za3 1) (zc3 (za3 2) zk3))) (dT1 kTup (za2 (dC (.int 0)) (za2 (dC (.int 1)) dNil)))) (dSeq (zaf3 (za3 3) (dC (.int 1)) (d2 qA (dVar 0) (dC (.int 1))) bdHm) (dRet (dT1 (zc8 zj8) (za2 (dVar 1) (za2 (dVar 2) dNil))))))
def zi0:List D→Option Ev:=mkG 1 ["many", "top", "bottom", "step"] zq3
theorem zae4 (Fn:L2.Fun K "harmonic" "harmonic" zm0 ad fd) (bu:Blt mg) (c_fraction:Cal P w K mg base "fraction" 2 zj8):FnOk P w K mg base CX0 3 ad fd ["many"] (spD K zi0):=by
 have SC:=zad7
 refine zj5 (k:=2) Fn SC (fun _ _ e=>zg6 e) zq3 (fun _ _ e=>zj3 e) (fun cdv A outer s H E F hr=>?_)
 refine za5 ?_ ?_
 ·exact (zs9 (zk1 (za1 za6 (za1 za6 za4))) (zq8 rfl (zd9 (zb2 (i:=1) SC.nd rfl (za9 rfl)) (zd9 (zb2 (i:=2) SC.nd rfl (za9 rfl)) zl0))) (zq7 (zd8 (zb1 1) (zd8 (zb1 2) zk7))))
 refine za5 ?_ ?_
 ·exact (zah1 PassesOwn.never rfl rfl bu.n_range za6 (zc5 (od_add.or zj1) (za0 0) za6) (zb2 (i:=3) SC.nd rfl (za9 rfl)) (zb1 3) (zb7 (zam7 (i:=1) (j:=2) rfl SC.nd rfl rfl (by decide) rfl rfl (za1 (zc5 (od_add.or zj1) (zc5 (od_mul.or zl1) (za0 1) (za0 3)) (za0 2)) (za1 (zc5 (od_mul.or zl1) (za0 2) (za0 3)) za4)) rfl)))
 exact zb7 (zf7 (zc6 c_fraction (hr.mono (by decide)) (za1 (za0 1) (za1 (za0 2) za4))))
theorem zp8:FnScope ["many", "sets", "numbers", "had"] ["many", "sets", "numbers"] (zb6 zf1):=zp7 rfl rfl rfl rfl (by decide +kernel)
noncomputable def zf5:DS :=
 (dSeq (dAsg 3 (zu3 2 [1] (fsL (dVar 2)) (za3 0) zc9 (fsL (d2 kIx (dVar 2) (dVar 0))) (za3 1) zc9 (dVar 1) (dC (.bl true)))) (dRet (zd1 1 [3] (fsR1 (dVar 0)) (za3 0) (dBo (d2 (kInD true) (dVar 0) (dVar 1))) (dVar 0))))
def zd5:List D→Option Ev:=mkG 3 ["many", "sets", "numbers", "had"] zf5
theorem zq1 (Fn:L2.Fun K "lacking_things" "lacking_things" zf1 ad fd) (bu:Blt mg) :FnOk P w K mg base CX0 1 ad fd ["many", "sets", "numbers"] (spD K zd5):=by
 have SC:=zp8
 refine zj5 (k:=0) Fn SC (fun _ _ e=>zg6 e) zf5 (fun _ _ e=>zj3 e) (fun cdv A outer s H E F hr=>?_)
 refine za5 ?_ ?_
 ·exact (zd0 (i:=3) SC.nd rfl (za9 rfl) (zae2 2 [1] ["number", "thing", "sets"] rfl (zf3 (za0 2)) (fun _ _ _ _ _=>(zb2 (i:=0) (show List.Nodup (["number", "thing", "sets"]:List Str) by decide +kernel) rfl (za9 rfl))) (fun _=>(zb1 0)) (fun _ _ _ _ _ _=>zg8) (fun _ _ _ _ _ _=>(zf3 (ze0 (za0 2) (za0 0)))) (fun _ _ _ _ _=>(zb2 (i:=1) (show List.Nodup (["number", "thing", "sets"]:List Str) by decide +kernel) rfl (za9 rfl))) (fun _=>(zb1 1)) (fun _ _ _ _ _ _=>zg8) (fun _ _ _ _ _ _=>(za0 1)) (fun _ _ _ _ _ _=>zah4)))
 exact zb7 (zf7 (zf0 1 [3] ["thing", "had"] rfl (zi5 rfl bu.n_range (za0 0)) (fun _ _ _ _ _=>(zb2 (i:=0) (show List.Nodup (["thing", "had"]:List Str) by decide +kernel) rfl (za9 rfl))) (fun _=>(zb1 0)) (fun _ _ _ _ _ _=>(zg1 (zc7 (zao2 hr.units) (za0 0) (za0 1)))) (fun _ _ _ _ _ _=>(za0 0))))
theorem zr8:FnScope ["many", "sets", "lacking", "shares", "choice", "new", "lengths", "most", "best"] ["many", "sets"] (zb6 zg0):=zp7 rfl rfl rfl rfl (by decide +kernel)
noncomputable def bdN:DS:=(dSeq (dAsg 5 (zh2 1 [3] (fsL (dVar 1)) (za3 0) zc9 (zd1 1 [1] (fsL (dVar 0)) (za3 0) (dBo (d2 (kInD true) (dVar 0) (dVar 1))) (dVar 0))))
  (dSeq (dAsg 6 (zd1 1 [] (fsL (dVar 5)) (za3 0) zc9 (dT1 kLen (za2 (dVar 0) dNil))))
  (dSeq (dAsg 7 (dT1 (zaa8 zl2) (za2 (dVar 6) dNil)))
  (dSeq (dAsg 8 (d2 kIdx (dVar 6) (dVar 7)))
  (dSeq (dApp 4 (dVar 8))
  (dUpd 3 (zq5 1 [7] (fsL (d2 kIx (dVar 5) (dVar 8))) (za3 0) zc9 (dVar 0) (dT1 kTup (za2 (dC (.int 1)) (za2 (dVar 1) dNil))))))))))
def cdN:DT:=(dBo (d2 qL (dT1 kLenD (za2 (dVar 3) dNil)) (dVar 0)))
noncomputable def zg2:DS :=
 (dSeq (dAsg 2 (dT1 (zc8 zd5) (za2 (dVar 0) (za2 (dVar 1) (za2 (zw2 (za2 (dT1 kLen (za2 (dVar 1) dNil)) dNil)) dNil))))) (dSeq (dIfS (dTr (dVar 2)) zas1 zl8) (dSeq (dAsg 3 dNewD) (dSeq (dAsg 4 (dT1 kLst dNil)) (dSeq (zw1 (fun _=>500) cdN bdN) (dRet (dT1 kTup (za2 (dVar 4) (za2 (zd1 1 [3] (fsR1 (dVar 0)) (za3 0) zc9 (d2 zv9 (dVar 1) (dVar 0))) dNil)))))))))
def ze1:List D→Option Ev:=mkG 2 ["many", "sets", "lacking", "shares", "choice", "new", "lengths", "most", "best"] zg2
theorem zs0 (Fn:L2.Fun K "choose_by_new" "choose_by_new" zg0 ad fd) (bu:Blt mg) (c_lacking_things:Cal P w K mg base "lacking_things" 1 zd5):FnOk P w K mg base CX0 2 ad fd ["many", "sets"] (spD K ze1):=by
 have SC:=zr8
 refine zj5 (k:=1) Fn SC (fun _ _ e=>zg6 e) zg2 (fun _ _ e=>zj3 e) (fun cdv A outer s H E F hr=>?_)
 refine za5 ?_ ?_
 ·exact (zd0 (i:=2) SC.nd rfl (za9 rfl) (zc6 c_lacking_things (hr.mono (by decide)) (za1 (za0 0) (za1 (za0 1) (za1 (zan5 rfl rfl bu.n_list rfl bu.n_range (za1 (zb8 zj6 rfl bu.n_len PySem.boot_len (za1 (za0 1) za4)) za4)) za4)))))
 refine za5 ?_ ?_
 ·exact (zo4 (zam5 (za0 2)) (zb7 zam8) zk8)
 refine za5 ?_ ?_
 ·exact (zd0 (i:=3) SC.nd rfl (za9 rfl) ped_newD)
 refine za5 ?_ ?_
 ·exact (zd0 (i:=4) SC.nd rfl (za9 rfl) (zg5 za4))
 refine za5 ?_ ?_
 ·exact (zz7 (fun _=>500) PassesOwn.never (zc7 od_lt (zb8 cd_lenD rfl bu.n_len PySem.boot_len (za1 (za0 3) za4)) (za0 0)) (za5 (zam6 (i:=5) 1 [3] ["things", "shares"] SC.nd rfl (Or.inl rfl) rfl (zf3 (za0 1)) (fun _ _ _ _ _=>(zb2 (i:=0) (show List.Nodup (["things", "shares"]:List Str) by decide +kernel) rfl (za9 rfl))) (fun _=>(zb1 0)) (fun _ _ _ _ _ _=>zg8) (fun _ _ _ _ _ _=>(zf0 1 [1] ["thing", "shares"] rfl (zf3 (za0 0)) (fun _ _ _ _ _=>(zb2 (i:=0) (show List.Nodup (["thing", "shares"]:List Str) by decide +kernel) rfl (za9 rfl))) (fun _=>(zb1 0)) (fun _ _ _ _ _ _=>(zg1 (zc7 (zao2 hr.units) (za0 0) (za0 1)))) (fun _ _ _ _ _ _=>(za0 0)))))
  (za5 (zo3 (i:=6) 1 [] ["things"] SC.nd rfl (Or.inl rfl) rfl (zf3 (za0 5)) (fun _ _ _ _ _=>(zb2 (i:=0) (show List.Nodup (["things"]:List Str) by decide +kernel) rfl (za9 rfl))) (fun _=>(zb1 0)) (fun _ _ _ _ _ _=>zg8) (fun _ _ _ _ _ _=>(zb8 zj6 rfl bu.n_len PySem.boot_len (za1 (za0 0) za4))))
  (za5 (zd0 (i:=7) SC.nd rfl (za9 rfl) (zb8 (zat4 rfl) rfl bu.n_max (by decide +kernel) (za1 (za0 6) za4)))
  (za5 (zd0 (i:=8) SC.nd rfl (za9 rfl) (zan6 (za0 6) (za0 7)))
  (za5 (zn2 4 (za0 8))
  (zb7 (psd_upd 3 (zae3 1 [7] ["thing", "most"] rfl (zf3 (ze0 (za0 5) (za0 8))) (fun _ _ _ _ _=>(zb2 (i:=0) (show List.Nodup (["thing", "most"]:List Str) by decide +kernel) rfl (za9 rfl))) (fun _=>(zb1 0)) (fun _ _ _ _ _ _=>zg8) (fun _ _ _ _ _ _=>(za0 0)) (fun _ _ _ _ _ _=>(zk1 (za1 za6 (za1 (za0 1) za4)))))))))))))
 exact zb7 (zf7 (zk1 (za1 (za0 4) (za1 (zf0 1 [3] ["thing", "shares"] rfl (zi5 rfl bu.n_range (za0 0)) (fun _ _ _ _ _=>(zb2 (i:=0) (show List.Nodup (["thing", "shares"]:List Str) by decide +kernel) rfl (za9 rfl))) (fun _=>(zb1 0)) (fun _ _ _ _ _ _=>zg8) (fun _ _ _ _ _ _=>(zan7 hr.units (za0 1) (za0 0)))) za4))))
theorem zaj5:FnScope ["web", "point"] ["web", "point"] (zb6 zo0):=zp7 rfl rfl rfl rfl (by decide +kernel)
def ktT:D→Th→Option Th:=(zj4 2 (zc3 (za3 0) (zc3 (za3 1) zk3)))
def zp1:DS :=
 (dRet (zd1 2 [1] (fsE (d2 kIx (dVar 0) (dC (.int 1)))) ktT (dBo (d2 kIn (dVar 2) (dVar 1))) (dVar 0)))
def ze4:List D→Option Ev:=mkG 2 ["web", "point"] zp1
theorem zak0 (Fn:L2.Fun K "ties_of" "ties_of" zo0 ad fd) (bu:Blt mg) :FnOk P w K mg base CX0 1 ad fd ["web", "point"] (spD K ze4):=by
 have SC:=zaj5
 refine zj5 (k:=0) Fn SC (fun _ _ e=>zg6 e) zp1 (fun _ _ e=>zj3 e) (fun cdv A outer s H E F hr=>?_)
 exact zb7 (zf7 (zf0 2 [1] ["at", "tie", "point"] rfl (pid_enum rfl bu.n_enumerate (ze0 (za0 0) za6)) (fun _ _ _ _ _=>(zq8 rfl (zd9 (zb2 (i:=0) (show List.Nodup (["at", "tie", "point"]:List Str) by decide +kernel) rfl (za9 rfl)) (zd9 (zb2 (i:=1) (show List.Nodup (["at", "tie", "point"]:List Str) by decide +kernel) rfl (za9 rfl)) zl0)))) (fun _=>(zq7 (zd8 (zb1 0) (zd8 (zb1 1) zk7)))) (fun _ _ _ _ _ _=>(zg1 (zc7 od_in (za0 2) (za0 1)))) (fun _ _ _ _ _ _=>(za0 0))))
theorem zp9:FnScope ["web", "weights", "many", "ties", "left", "prices", "one", "other", "price", "cover"] ["web", "weights"] (zb6 zf2):=zp7 rfl rfl rfl rfl (by decide +kernel)
noncomputable def bdC:DS:=(dSeq (dAsg 8 (dT1 qN (za2 (d2 kIx (dVar 4) (dVar 6)) (za2 (d2 kIx (dVar 4) (dVar 7)) dNil))))
  (dSeq (zak9 (fun i j=>i - j) 4 (dVar 6) (dVar 8))
  (dSeq (zak9 (fun i j=>i - j) 4 (dVar 7) (dVar 8))
  (dApp 5 (dVar 8)))))
noncomputable def ftC:DT:=(dAnd (dBo (d2 kEq (d2 kIx (dVar 2) (dVar 0)) (dC (.int 0)))) (dTr (dT1 (zc8 ze4) (za2 (dVar 1) (za2 (dVar 0) dNil)))))
noncomputable def zf6:DS :=
 (dSeq (zp3 (zj4 2 (zc3 (za3 2) (zc3 (za3 3) zk3))) (dVar 0)) (dSeq (dAsg 4 (dT1 zaa7 (za2 (dVar 1) dNil))) (dSeq (dAsg 5 (dT1 kLst dNil)) (dSeq (dFor (zj4 2 (zc3 (za3 6) (zc3 (za3 7) zk3))) (dVar 3) bdC) (dSeq (dAsg 9 (zd1 1 [0,4] (fsR1 (dVar 2)) (za3 0) ftC (dVar 0))) (zas0 (mTup (zae9 (mOwn 9) (zae9 (mOwn 5) mNil)))))))))
def zd6:List D→Option Ev:=mkG 2 ["web", "weights", "many", "ties", "left", "prices", "one", "other", "price", "cover"] zf6
theorem zq2 (Fn:L2.Fun K "cover_by_price" "cover_by_price" zf2 ad fd) (bu:Blt mg) (c_ties_of:Cal P w K mg base "ties_of" 1 ze4):FnOk P w K mg base CX0 2 ad fd ["web", "weights"] (spD K zd6):=by
 have SC:=zp9
 refine zj5 (k:=1) Fn SC (fun _ _ e=>zg6 e) zf6 (fun _ _ e=>zj3 e) (fun cdv A outer s H E F hr=>?_)
 refine za5 ?_ ?_
 ·exact (zs9 (za0 0) (zq8 rfl (zd9 (zb2 (i:=2) SC.nd rfl (za9 rfl)) (zd9 (zb2 (i:=3) SC.nd rfl (za9 rfl)) zl0))) (zq7 (zd8 (zb1 2) (zd8 (zb1 3) zk7))))
 refine za5 ?_ ?_
 ·exact (zd0 (i:=4) SC.nd rfl (za9 rfl) (zz9 zat5 rfl bu.n_list zat9 (za1 (za0 1) za4)))
 refine za5 ?_ ?_
 ·exact (zd0 (i:=5) SC.nd rfl (za9 rfl) (zg5 za4))
 refine za5 ?_ ?_
 ·exact (zae1 PassesOwn.never rfl (za0 3) (zq8 rfl (zd9 (zb2 (i:=6) SC.nd rfl (za9 rfl)) (zd9 (zb2 (i:=7) SC.nd rfl (za9 rfl)) zl0))) (zq7 (zd8 (zb1 6) (zd8 (zb1 7) zk7))) (za5 (zd0 (i:=8) SC.nd rfl (za9 rfl) (zb8 (cd_min rfl) rfl bu.n_min (by decide +kernel) (za1 (ze0 (za0 4) (za0 6)) (za1 (ze0 (za0 4) (za0 7)) za4))))
  (za5 (zah2 4 ip_sub (za0 6) (za0 8))
  (za5 (zah2 4 ip_sub (za0 7) (za0 8))
  (zb7 (zn2 5 (za0 8)))))))
 refine za5 ?_ ?_
 ·exact (zo3 (i:=9) 1 [0,4] ["point", "web", "left"] SC.nd rfl (Or.inl rfl) rfl (zi5 rfl bu.n_range (za0 2)) (fun _ _ _ _ _=>(zb2 (i:=0) (show List.Nodup (["point", "web", "left"]:List Str) by decide +kernel) rfl (za9 rfl))) (fun _=>(zb1 0)) (fun _ _ _ _ _ _=>(zg1 (L2.PW.pt (zae0 (zc7 (zae6 hr.units) (ze0 (za0 2) (za0 0)) za6) (zw8 (zam5 (zc6 c_ties_of (hr.mono (by decide)) (za1 (za0 1) (za1 (za0 0) za4))))))))) (fun _ _ _ _ _ _=>(za0 0)))
 exact zb7 (psd_retM (pm_tup (zah3 (fun _=>(pm_own 9)) (fun _=>(zah3 (fun _=>(pm_own 5)) (fun _=>pms_nil))))))
theorem zv0:FnScope ["_law_script", "_law_k"] ["_law_script", "_law_k"] (zb6 zh8):=zp7 rfl rfl rfl rfl (by decide +kernel)
noncomputable def ze8:DS :=
 (dSeq (dIfS (dBo (d2 qL (dVar 1) (dT1 kLen (za2 (dVar 0) dNil)))) (dRet (d2 kIx (dVar 0) (dVar 1))) zl8) (dRet (dC (.int 0))))
def zc1:List D→Option Ev:=mkG 2 ["_law_script", "_law_k"] ze8
theorem zv1 (Fn:L2.Fun K "_law_cell_at" "_law_cell_at" zh8 ad fd) (bu:Blt mg) :FnOk P w K mg base CX0 1 ad fd ["_law_script", "_law_k"] (spD K zc1):=by
 have SC:=zv0
 refine zj5 (k:=0) Fn SC (fun _ _ e=>zg6 e) ze8 (fun _ _ e=>zj3 e) (fun cdv A outer s H E F hr=>?_)
 refine za5 ?_ ?_
 ·exact (zo4 (zc7 od_lt (za0 1) (zb8 zj6 rfl bu.n_len PySem.boot_len (za1 (za0 0) za4))) (zb7 (zf7 (ze0 (za0 0) (za0 1)))) zk8)
 exact zb7 (zf7 za6)
theorem zz5:FnScope ["_law_cell", "_law_k", "_law_number"] ["_law_cell", "_law_k"] (zb6 zk0):=zp7 rfl rfl rfl rfl (by decide +kernel)
noncomputable def zn4:DS :=
 (dSeq (dAsg 2 (d2 qR (d2 qM (d2 qA (d2 qA (d2 qR (dVar 0) (dC (.int 2147483647))) (d2 qM (d2 qM (dC (.int 48271)) (dVar 1)) (dVar 1))) (dC (.int 11))) (dC (.int 69621))) (dC (.int 2147483629)))) (dRet (d2 qR (d2 qM (d2 qR (d2 qA (d2 qM (dVar 2) (dVar 2)) (d2 qM (dC (.int 39373)) (dVar 1))) (dC (.int 2147483587))) (dC (.int 16807))) (dC (.int 2147483549)))))
def zi2:List D→Option Ev:=mkG 2 ["_law_cell", "_law_k", "_law_number"] zn4
theorem zaa1 (Fn:L2.Fun K "_law_mixed" "_law_mixed" zk0 ad fd) (bu:Blt mg) :FnOk P w K mg base CX0 1 ad fd ["_law_cell", "_law_k"] (spD K zi2):=by
 have SC:=zz5
 refine zj5 (k:=0) Fn SC (fun _ _ e=>zg6 e) zn4 (fun _ _ e=>zj3 e) (fun cdv A outer s H E F hr=>?_)
 refine za5 ?_ ?_
 ·exact (zd0 (i:=2) SC.nd rfl (za9 rfl) (zc5 zo6 (zc5 (od_mul.or zl1) (zc5 (od_add.or zj1) (zc5 (od_add.or zj1) (zc5 zo6 (za0 0) za6) (zc5 (od_mul.or zl1) (zc5 (od_mul.or zl1) za6 (za0 1)) (za0 1))) za6) za6) za6))
 exact zb7 (zf7 (zc5 zo6 (zc5 (od_mul.or zl1) (zc5 zo6 (zc5 (od_add.or zj1) (zc5 (od_mul.or zl1) (za0 2) (za0 2)) (zc5 (od_mul.or zl1) za6 (za0 1))) za6) za6) za6))
theorem zaj7:FnScope ["_law_script", "_law_at", "_law_many", "_law_top", "_law_found", "_law_cell", "_law_k"] ["_law_script", "_law_at", "_law_many", "_law_top"] (zb6 zo2):=zp7 rfl rfl rfl rfl (by decide +kernel)
noncomputable def zau2:DS:=(dIfS (dBo (d2 kEq (d2 qR (dT1 (zc8 zc1) (za2 (dVar 0) (za2 (dC (.int 0)) dNil))) (dC (.int 2))) (dC (.int 0)))) (dSeq (dApp 4 (d2 qR (dVar 5) (dVar 3)))
  (dAsg 5 (d2 qV (dVar 5) (dVar 3)))) (dApp 4 (d2 qR (dT1 (zc8 zi2) (za2 (dT1 (zc8 zc1) (za2 (dVar 0) (za2 (d2 qA (dVar 1) (d2 qR (dVar 6) (dC (.int 8)))) dNil))) (za2 (d2 qA (dVar 1) (dVar 6)) dNil))) (dVar 3))))
noncomputable def zt8:DS :=
 (dSeq (dAsg 4 (dT1 kLst dNil)) (dSeq (dAsg 5 (dT1 (zc8 zc1) (za2 (dVar 0) (za2 (dVar 1) dNil)))) (dSeq (zv2 (za3 6) (dVar 2) zau2) (dRetO 4))))
def zg3:List D→Option Ev:=mkG 4 ["_law_script", "_law_at", "_law_many", "_law_top", "_law_found", "_law_cell", "_law_k"] zt8
theorem zak2 (Fn:L2.Fun K "_law_row" "_law_row" zo2 ad fd) (bu:Blt mg) (c_law_cell_at:Cal P w K mg base "_law_cell_at" 1 zc1) (c_law_mixed:Cal P w K mg base "_law_mixed" 1 zi2):FnOk P w K mg base CX0 2 ad fd ["_law_script", "_law_at", "_law_many", "_law_top"] (spD K zg3):=by
 have SC:=zaj7
 refine zj5 (k:=1) Fn SC (fun _ _ e=>zg6 e) zt8 (fun _ _ e=>zj3 e) (fun cdv A outer s H E F hr=>?_)
 refine za5 ?_ ?_
 ·exact (zd0 (i:=4) SC.nd rfl (za9 rfl) (zg5 za4))
 refine za5 ?_ ?_
 ·exact (zd0 (i:=5) SC.nd rfl (za9 rfl) (zc6 c_law_cell_at (hr.mono (by decide)) (za1 (za0 0) (za1 (za0 1) za4))))
 refine za5 ?_ ?_
 ·exact (zw9 PassesOwn.never rfl rfl bu.n_range (za0 2) (zb2 (i:=6) SC.nd rfl (za9 rfl)) (zb1 6) (zb7 (zo4 (zc7 (zae6 hr.units) (zc5 zo6 (zc6 c_law_cell_at (hr.mono (by decide)) (za1 (za0 0) (za1 za6 za4))) za6) za6) (za5 (zn2 4 (zc5 zo6 (za0 5) (za0 3)))
  (zb7 (zd0 (i:=5) SC.nd rfl (za9 rfl) (zc5 zao4 (za0 5) (za0 3))))) (zb7 (zn2 4 (zc5 zo6 (zc6 c_law_mixed (hr.mono (by decide)) (za1 (zc6 c_law_cell_at (hr.mono (by decide)) (za1 (za0 0) (za1 (zc5 (od_add.or zj1) (za0 1) (zc5 zo6 (za0 6) za6)) za4))) (za1 (zc5 (od_add.or zj1) (za0 1) (za0 6)) za4))) (za0 3)))))))
 exact zb7 (psd_retO 4)
theorem zaj6:FnScope ["_law_script", "_law_at", "_law_most", "_law_many", "_law_pairs", "_law_one", "_law_other", "_law_bits"] ["_law_script", "_law_at", "_law_most"] (zb6 zo1):=zp7 rfl rfl rfl rfl (by decide +kernel)
def bdP:DS:=zaf3 (za3 6) (d2 qA (dVar 5) (dC (.int 1))) (dVar 3) (dApp 4 (dT1 kTup (za2 (dVar 5) (za2 (dVar 6) dNil))))
noncomputable def zab5:DS :=
 (dSeq (dAsg 3 (d2 qA (dC (.int 1)) (d2 kIx (dT1 (zc8 zg3) (za2 (dVar 0) (za2 (dVar 1) (za2 (dC (.int 1)) (za2 (dVar 2) dNil))))) (dC (.int 0))))) (dSeq (dAsg 4 (dT1 kLst dNil)) (dSeq (zv2 (za3 5) (dVar 3) (bdP)) (dSeq (dAsg 7 (dT1 (zc8 zg3) (za2 (dVar 0) (za2 (d2 qA (dVar 1) (dC (.int 1))) (za2 (dT1 kLen (za2 (dVar 4) dNil)) (za2 (dC (.int 2)) dNil)))))) (dRet (dT1 kTup (za2 (dVar 3) (za2 (zd1 1 [7,4] (fsR1 (dT1 kLen (za2 (dVar 4) dNil))) (za3 0) (dBo (d2 kEq (d2 kIx (dVar 1) (dVar 0)) (dC (.int 1)))) (d2 kIx (dVar 2) (dVar 0))) dNil))))))))
noncomputable def zj7:List D→Option Ev:=mkG 3 ["_law_script", "_law_at", "_law_most", "_law_many", "_law_pairs", "_law_one", "_law_other", "_law_bits"] zab5
theorem zak1 (Fn:L2.Fun K "_law_web" "_law_web" zo1 ad fd) (bu:Blt mg) (c_law_row:Cal P w K mg base "_law_row" 2 zg3):FnOk P w K mg base CX0 3 ad fd ["_law_script", "_law_at", "_law_most"] (spD K zj7):=by
 have SC:=zaj6
 refine zj5 (k:=2) Fn SC (fun _ _ e=>zg6 e) zab5 (fun _ _ e=>zj3 e) (fun cdv A outer s H E F hr=>?_)
 refine za5 ?_ ?_
 ·exact (zd0 (i:=3) SC.nd rfl (za9 rfl) (zc5 (od_add.or zj1) za6 (ze0 (zc6 c_law_row (hr.mono (by decide)) (by refine za1 ?_ ?_ ?_;exact (za0 0);exact (by refine za1 ?_ ?_ ?_;exact (za0 1);exact (by refine za1 ?_ ?_ ?_;exact za6;exact (by refine za1 ?_ ?_ ?_;exact (za0 2);exact za4;exact (zh4 rfl));exact (zh4 rfl));exact (zh4 rfl));exact (zh4 rfl))) za6)))
 refine za5 ?_ ?_
 ·exact (zd0 (i:=4) SC.nd rfl (za9 rfl) (zg5 za4))
 refine za5 ?_ ?_
 ·exact (zw9 PassesOwn.never rfl rfl bu.n_range (za0 3) (zb2 (i:=5) SC.nd rfl (za9 rfl)) (zb1 5) (zb7 (zah1 PassesOwn.never rfl rfl bu.n_range (zc5 (od_add.or zj1) (za0 5) za6) (za0 3) (zb2 (i:=6) SC.nd rfl (za9 rfl)) (zb1 6) (zb7 (zn2 4 (zk1 (za1 (za0 5) (za1 (za0 6) za4))))))))
 refine za5 ?_ ?_
 ·exact (zd0 (i:=7) SC.nd rfl (za9 rfl) (zc6 c_law_row (hr.mono (by decide)) (by refine za1 ?_ ?_ ?_;exact (za0 0);exact (by refine za1 ?_ ?_ ?_;exact (zc5 (od_add.or zj1) (za0 1) za6);exact (by refine za1 ?_ ?_ ?_;exact (zb8 zj6 rfl bu.n_len PySem.boot_len (za1 (za0 4) za4));exact (by refine za1 ?_ ?_ ?_;exact za6;exact za4;exact (zh4 rfl));exact (zh4 rfl));exact (zh4 rfl));exact (zh4 rfl))))
 exact zb7 (zf7 (zk1 (za1 (za0 3) (za1 (zf0 1 [7,4] ["_law_k", "_law_bits", "_law_pairs"] rfl (zi5 rfl bu.n_range (zb8 zj6 rfl bu.n_len PySem.boot_len (za1 (za0 4) za4))) (fun _ _ _ _ _=>(zb2 (i:=0) (show List.Nodup (["_law_k", "_law_bits", "_law_pairs"]:List Str) by decide +kernel) rfl (za9 rfl))) (fun _=>(zb1 0)) (fun _ _ _ _ _ _=>(zg1 (zc7 (zae6 hr.units) (ze0 (za0 1) (za0 0)) za6))) (fun _ _ _ _ _ _=>(ze0 (za0 2) (za0 0)))) za4))))
theorem zw6:FnScope ["_law_web_here", "_law_bits", "_law_found", "_law_one", "_law_other"] ["_law_web_here", "_law_bits"] (zb6 zi4):=zp7 rfl rfl rfl rfl (by decide +kernel)
def bdF:DS:=(dIfS (dAnd (dBo (d2 kNin (dVar 3) (dVar 2))) (dBo (d2 kNin (dVar 4) (dVar 2)))) (dApp 2 (dVar 4)) zl8)
noncomputable def zr2:DS :=
 (dSeq (dAsg 2 (zd1 1 [1] (fsR1 (d2 kIx (dVar 0) (dC (.int 0)))) (za3 0) (dBo (d2 kEq (d2 kIx (dVar 1) (dVar 0)) (dC (.int 1)))) (dVar 0))) (dSeq (dFor (zj4 2 (zc3 (za3 3) (zc3 (za3 4) zk3))) (d2 kIx (dVar 0) (dC (.int 1))) bdF) (dRet (dT1 zaa6 (za2 (dVar 2) dNil)))))
def zh3:List D→Option Ev:=mkG 2 ["_law_web_here", "_law_bits", "_law_found", "_law_one", "_law_other"] zr2
theorem zx0 (Fn:L2.Fun K "_law_put_on" "_law_put_on" zi4 ad fd) (bu:Blt mg) :FnOk P w K mg base CX0 1 ad fd ["_law_web_here", "_law_bits"] (spD K zh3):=by
 have SC:=zw6
 refine zj5 (k:=0) Fn SC (fun _ _ e=>zg6 e) zr2 (fun _ _ e=>zj3 e) (fun cdv A outer s H E F hr=>?_)
 refine za5 ?_ ?_
 ·exact (zo3 (i:=2) 1 [1] ["_law_point", "_law_bits"] SC.nd rfl (Or.inl rfl) rfl (zi5 rfl bu.n_range (ze0 (za0 0) za6)) (fun _ _ _ _ _=>(zb2 (i:=0) (show List.Nodup (["_law_point", "_law_bits"]:List Str) by decide +kernel) rfl (za9 rfl))) (fun _=>(zb1 0)) (fun _ _ _ _ _ _=>(zg1 (zc7 (zae6 hr.units) (ze0 (za0 1) (za0 0)) za6))) (fun _ _ _ _ _ _=>(za0 0)))
 refine za5 ?_ ?_
 ·exact (zae1 PassesOwn.never rfl (ze0 (za0 0) za6) (zq8 rfl (zd9 (zb2 (i:=3) SC.nd rfl (za9 rfl)) (zd9 (zb2 (i:=4) SC.nd rfl (za9 rfl)) zl0))) (zq7 (zd8 (zb1 3) (zd8 (zb1 4) zk7))) (zb7 (zo4 (L2.PW.pt (zae0 (zc7 zaa2 (za0 3) (za0 2)) (zw8 (zc7 zaa2 (za0 4) (za0 2))))) (zb7 (zn2 2 (za0 4))) zk8)))
 exact zb7 (zf7 (zb8 cd_sortI rfl bu.n_sorted boot_sorted (za1 (za0 2) za4)))
theorem sc_law:FnScope ["_law_script", "_law_web_here", "_law_sets", "_law_choice", "_law_shares", "_law_cover", "_law_prices", "_law_free", "_law_had", "_law_point", "_law_new", "_law_top", "_law_bottom", "_law_covers", "_law_k"] ["_law_script"] (zb6 s_law):=zp7 rfl rfl rfl rfl (by decide +kernel)
noncomputable def bdR:DS:=(dSeq (dAsg 10 (zd1 1 [8] (fsL (d2 kIx (dVar 2) (dVar 9))) (za3 0) (dBo (d2 kNin (dVar 0) (dVar 1))) (dVar 0)))
  (dSeq (dIfS (dOr (dBo (d2 kEq (dVar 10) (dT1 kLst dNil))) (dBo (d2 kNe (zd1 1 [4,10] (fsL (dVar 10)) (za3 0) (dBo (d2 kNe (d2 kIx (dVar 1) (dVar 0)) (dT1 kTup (za2 (dC (.int 1)) (za2 (dT1 kLen (za2 (dVar 2) dNil)) dNil))))) (dVar 0)) (dT1 kLst dNil)))) (dRet (dC (.bl false))) zl8)
  (dAsg 8 (d2 qA (dVar 8) (dVar 10)))))
noncomputable def bdO:DS:=(dApp 13 (dT1 (zc8 zh3) (za2 (dVar 1) (za2 (dT1 (zc8 zg3) (za2 (dVar 0) (za2 (d2 qA (dC (.int 9)) (dVar 14)) (za2 (d2 kIx (dVar 1) (dC (.int 0))) (za2 (dC (.int 2)) dNil))))) dNil))))
noncomputable def g_law:DS :=
 (dSeq (dAsg 1 (dT1 (zc8 zj7) (za2 (dVar 0) (za2 (dC (.int 1)) (za2 (dC (.int 7)) dNil))))) (dSeq (dIfS (dBo (d2 kEq (d2 kIx (dVar 1) (dC (.int 1))) (dT1 kLst dNil))) (dAsg 1 (dT1 kTup (za2 (dC (.int 2)) (za2 (dT1 kLst (za2 (dT1 kTup (za2 (dC (.int 0)) (za2 (dC (.int 1)) dNil))) dNil)) dNil)))) zl8) (dSeq (dAsg 2 (zd1 1 [1] (fsR1 (d2 kIx (dVar 1) (dC (.int 0)))) (za3 0) zc9 (dT1 (zc8 ze4) (za2 (dVar 1) (za2 (dVar 0) dNil))))) (dSeq (dIfS (dBo (d2 kNe (dVar 2) (zh2 1 [1] (fsR1 (d2 kIx (dVar 1) (dC (.int 0)))) (za3 0) zc9 (zd1 1 [0,1] (fsR1 (dT1 kLen (za2 (d2 kIx (dVar 1) (dC (.int 1))) dNil))) (za3 0) (dBo (d2 kIn (dVar 1) (d2 kIx (d2 kIx (dVar 2) (dC (.int 1))) (dVar 0)))) (dVar 0))))) (dRet (dC (.bl false))) zl8) (dSeq (zp3 (zj4 2 (zc3 (za3 3) (zc3 (za3 4) zk3))) (dT1 (zc8 ze1) (za2 (dT1 kLen (za2 (d2 kIx (dVar 1) (dC (.int 1))) dNil)) (za2 (zh2 1 [] (fsL (dVar 2)) (za3 0) zc9 (dT1 zaa7 (za2 (dVar 0) dNil))) dNil)))) (dSeq (zp3 (zj4 2 (zc3 (za3 5) (zc3 (za3 6) zk3))) (dT1 (zc8 zd6) (za2 (dVar 1) (za2 (d2 qM (dT1 kLst (za2 (dC (.int 1)) dNil)) (d2 kIx (dVar 1) (dC (.int 0)))) dNil)))) (dSeq (dAsg 7 (zd1 1 [3] (fsL (d2 kIx (dVar 1) (dC (.int 1)))) (za3 0) (dAnd (dBo (d2 kNin (d2 kIx (dVar 0) (dC (.int 0))) (dVar 1))) (dBo (d2 kNin (d2 kIx (dVar 0) (dC (.int 1))) (dVar 1)))) (dVar 0))) (dSeq (dIfS (dOr (dBo (d2 kNe (dVar 7) (dT1 kLst dNil))) (dBo (d2 qL (dT1 kLen (za2 (dVar 3) dNil)) (dT1 kSum (za2 (dVar 6) dNil))))) (dRet (dC (.bl false))) zl8) (dSeq (dAsg 8 (dT1 kLst dNil)) (dSeq (dFor (za3 9) (dVar 3) bdR) (dSeq (zp3 (zj4 2 (zc3 (za3 11) (zc3 (za3 12) zk3))) (dT1 (zc8 zi0) (za2 (dT1 (zaa8 zl2) (za2 (zd1 1 [] (fsL (dVar 2)) (za3 0) zc9 (dT1 kLen (za2 (dVar 0) dNil))) dNil)) dNil))) (dSeq (dAsg 13 (dT1 kLst (za2 (dVar 5) dNil))) (dSeq (zv2 (za3 14) (d2 qA (dC (.int 1)) (dT1 qN (za2 (dC (.int 40)) (za2 (dT1 kLen (za2 (dVar 0) dNil)) dNil)))) bdO) (dRet (d2 kEq (zd1 1 [12,11,3] (fsL (dVar 13)) (za3 0) (dBo (d2 qG (d2 qM (dT1 kLen (za2 (dVar 3) dNil)) (dVar 1)) (d2 qM (dVar 2) (dT1 kLen (za2 (dVar 0) dNil))))) (dVar 0)) (dT1 kLst dNil))))))))))))))))
noncomputable def G_law:List D→Option Ev:=mkG 1 ["_law_script", "_law_web_here", "_law_sets", "_law_choice", "_law_shares", "_law_cover", "_law_prices", "_law_free", "_law_had", "_law_point", "_law_new", "_law_top", "_law_bottom", "_law_covers", "_law_k"] g_law
theorem ok_law (Fn:L2.Fun K "law" "law" s_law ad fd) (bu:Blt mg) (c_law_web:Cal P w K mg base "_law_web" 3 zj7) (c_ties_of:Cal P w K mg base "ties_of" 1 ze4) (c_choose_by_new:Cal P w K mg base "choose_by_new" 2 ze1) (c_cover_by_price:Cal P w K mg base "cover_by_price" 2 zd6) (c_harmonic:Cal P w K mg base "harmonic" 3 zi0) (c_law_row:Cal P w K mg base "_law_row" 2 zg3) (c_law_put_on:Cal P w K mg base "_law_put_on" 1 zh3):FnOk P w K mg base CX0 4 ad fd ["_law_script"] (spD K G_law):=by
 have SC:=sc_law
 refine zj5 (k:=3) Fn SC (fun _ _ e=>zg6 e) g_law (fun _ _ e=>zj3 e) (fun cdv A outer s H E F hr=>?_)
 refine za5 ?_ ?_
 ·exact (zd0 (i:=1) SC.nd rfl (za9 rfl) (zc6 c_law_web (hr.mono (by decide)) (za1 (za0 0) (za1 za6 (za1 za6 za4)))))
 refine za5 ?_ ?_
 ·exact (zo4 (zc7 (zae6 hr.units) (ze0 (za0 1) za6) (zg5 za4)) (zb7 (zd0 (i:=1) SC.nd rfl (za9 rfl) (zk1 (za1 za6 (za1 (zg5 (za1 (zk1 (za1 za6 (za1 za6 za4))) za4)) za4))))) zk8)
 refine za5 ?_ ?_
 ·exact (zo3 (i:=2) 1 [1] ["_law_point", "_law_web_here"] SC.nd rfl (Or.inl rfl) rfl (zi5 rfl bu.n_range (ze0 (za0 1) za6)) (fun _ _ _ _ _=>(zb2 (i:=0) (show List.Nodup (["_law_point", "_law_web_here"]:List Str) by decide +kernel) rfl (za9 rfl))) (fun _=>(zb1 0)) (fun _ _ _ _ _ _=>zg8) (fun _ _ _ _ _ _=>(zc6 c_ties_of (hr.mono (by decide)) (za1 (za0 1) (za1 (za0 0) za4)))))
 refine za5 ?_ ?_
 ·exact (zo4 (zc7 (zao3 hr.units) (za0 2) (zv6 1 [1] ["_law_point", "_law_web_here"] rfl (zi5 rfl bu.n_range (ze0 (za0 1) za6)) (fun _ _ _ _ _=>(zb2 (i:=0) (show List.Nodup (["_law_point", "_law_web_here"]:List Str) by decide +kernel) rfl (za9 rfl))) (fun _=>(zb1 0)) (fun _ _ _ _ _ _=>zg8) (fun _ _ _ _ _ _=>(zf0 1 [0,1] ["_law_k", "_law_point", "_law_web_here"] rfl (zi5 rfl bu.n_range (zb8 zj6 rfl bu.n_len PySem.boot_len (za1 (ze0 (za0 1) za6) za4))) (fun _ _ _ _ _=>(zb2 (i:=0) (show List.Nodup (["_law_k", "_law_point", "_law_web_here"]:List Str) by decide +kernel) rfl (za9 rfl))) (fun _=>(zb1 0)) (fun _ _ _ _ _ _=>(zg1 (zc7 od_in (za0 1) (ze0 (ze0 (za0 2) za6) (za0 0))))) (fun _ _ _ _ _ _=>(za0 0)))))) (zb7 (zf7 zah4)) zk8)
 refine za5 ?_ ?_
 ·exact (zs9 (zc6 c_choose_by_new (hr.mono (by decide)) (za1 (zb8 zj6 rfl bu.n_len PySem.boot_len (za1 (ze0 (za0 1) za6) za4)) (za1 (zv6 1 [] ["_law_some"] rfl (zf3 (za0 2)) (fun _ _ _ _ _=>(zb2 (i:=0) (show List.Nodup (["_law_some"]:List Str) by decide +kernel) rfl (za9 rfl))) (fun _=>(zb1 0)) (fun _ _ _ _ _ _=>zg8) (fun _ _ _ _ _ _=>(zz9 zat5 rfl bu.n_list zat9 (za1 (za0 0) za4)))) za4))) (zq8 rfl (zd9 (zb2 (i:=3) SC.nd rfl (za9 rfl)) (zd9 (zb2 (i:=4) SC.nd rfl (za9 rfl)) zl0))) (zq7 (zd8 (zb1 3) (zd8 (zb1 4) zk7))))
 refine za5 ?_ ?_
 ·exact (zs9 (zc6 c_cover_by_price (hr.mono (by decide)) (za1 (za0 1) (za1 (zc5 (od_mul.or zl1) (zg5 (za1 za6 za4)) (ze0 (za0 1) za6)) za4))) (zq8 rfl (zd9 (zb2 (i:=5) SC.nd rfl (za9 rfl)) (zd9 (zb2 (i:=6) SC.nd rfl (za9 rfl)) zl0))) (zq7 (zd8 (zb1 5) (zd8 (zb1 6) zk7))))
 refine za5 ?_ ?_
 ·exact (zo3 (i:=7) 1 [3] ["_law_tie", "_law_choice"] SC.nd rfl (Or.inl rfl) rfl (zf3 (ze0 (za0 1) za6)) (fun _ _ _ _ _=>(zb2 (i:=0) (show List.Nodup (["_law_tie", "_law_choice"]:List Str) by decide +kernel) rfl (za9 rfl))) (fun _=>(zb1 0)) (fun _ _ _ _ _ _=>(zg1 (L2.PW.pt (zae0 (zc7 zaa2 (ze0 (za0 0) za6) (za0 1)) (zw8 (zc7 zaa2 (ze0 (za0 0) za6) (za0 1))))))) (fun _ _ _ _ _ _=>(za0 0)))
 refine za5 ?_ ?_
 ·exact (zo4 (L2.PW.pt (pwd_or (zc7 (zao3 hr.units) (za0 7) (zg5 za4)) (zam3 (zc7 od_lt (zb8 zj6 rfl bu.n_len PySem.boot_len (za1 (za0 3) za4)) (zb8 (cd_sum rfl) rfl bu.n_sum (by decide +kernel) (za1 (za0 6) za4)))))) (zb7 (zf7 zah4)) zk8)
 refine za5 ?_ ?_
 ·exact (zd0 (i:=8) SC.nd rfl (za9 rfl) (zg5 za4))
 refine za5 ?_ ?_
 ·exact (zae1 PassesOwn.never rfl (za0 3) (zb2 (i:=9) SC.nd rfl (za9 rfl)) (zb1 9) (za5 (zd0 (i:=10) SC.nd rfl (za9 rfl) (zf0 1 [8] ["_law_number", "_law_had"] rfl (zf3 (ze0 (za0 2) (za0 9))) (fun _ _ _ _ _=>(zb2 (i:=0) (show List.Nodup (["_law_number", "_law_had"]:List Str) by decide +kernel) rfl (za9 rfl))) (fun _=>(zb1 0)) (fun _ _ _ _ _ _=>(zg1 (zc7 zaa2 (za0 0) (za0 1)))) (fun _ _ _ _ _ _=>(za0 0))))
  (za5 (zo4 (L2.PW.pt (pwd_or (zc7 (zae6 hr.units) (za0 10) (zg5 za4)) (zam3 (zc7 (zao3 hr.units) (zf0 1 [4,10] ["_law_number", "_law_shares", "_law_new"] rfl (zf3 (za0 10)) (fun _ _ _ _ _=>(zb2 (i:=0) (show List.Nodup (["_law_number", "_law_shares", "_law_new"]:List Str) by decide +kernel) rfl (za9 rfl))) (fun _=>(zb1 0)) (fun _ _ _ _ _ _=>(zg1 (zc7 (zao3 hr.units) (ze0 (za0 1) (za0 0)) (zk1 (za1 za6 (za1 (zb8 zj6 rfl bu.n_len PySem.boot_len (za1 (za0 2) za4)) za4)))))) (fun _ _ _ _ _ _=>(za0 0))) (zg5 za4))))) (zb7 (zf7 zah4)) zk8)
  (zb7 (zd0 (i:=8) SC.nd rfl (za9 rfl) (zc5 (od_add.or zj1) (za0 8) (za0 10)))))))
 refine za5 ?_ ?_
 ·exact (zs9 (zc6 c_harmonic (hr.mono (by decide)) (za1 (zb8 (zat4 rfl) rfl bu.n_max (by decide +kernel) (za1 (zf0 1 [] ["_law_some"] rfl (zf3 (za0 2)) (fun _ _ _ _ _=>(zb2 (i:=0) (show List.Nodup (["_law_some"]:List Str) by decide +kernel) rfl (za9 rfl))) (fun _=>(zb1 0)) (fun _ _ _ _ _ _=>zg8) (fun _ _ _ _ _ _=>(zb8 zj6 rfl bu.n_len PySem.boot_len (za1 (za0 0) za4)))) za4)) za4)) (zq8 rfl (zd9 (zb2 (i:=11) SC.nd rfl (za9 rfl)) (zd9 (zb2 (i:=12) SC.nd rfl (za9 rfl)) zl0))) (zq7 (zd8 (zb1 11) (zd8 (zb1 12) zk7))))
 refine za5 ?_ ?_
 ·exact (zd0 (i:=13) SC.nd rfl (za9 rfl) (zg5 (za1 (za0 5) za4)))
 refine za5 ?_ ?_
 ·exact (zw9 PassesOwn.never rfl rfl bu.n_range (zc5 (od_add.or zj1) za6 (zb8 (cd_min rfl) rfl bu.n_min (by decide +kernel) (za1 za6 (za1 (zb8 zj6 rfl bu.n_len PySem.boot_len (za1 (za0 0) za4)) za4)))) (zb2 (i:=14) SC.nd rfl (za9 rfl)) (zb1 14) (zb7 (zn2 13 (zc6 c_law_put_on (hr.mono (by decide)) (za1 (za0 1) (za1 (zc6 c_law_row (hr.mono (by decide)) (by refine za1 ?_ ?_ ?_;exact (za0 0);exact (by refine za1 ?_ ?_ ?_;exact (zc5 (od_add.or zj1) za6 (za0 14));exact (by refine za1 ?_ ?_ ?_;exact (ze0 (za0 1) za6);exact (by refine za1 ?_ ?_ ?_;exact za6;exact za4;exact (zh4 rfl));exact (zh4 rfl));exact (zh4 rfl));exact (zh4 rfl))) za4))))))
 exact zb7 (zf7 (ped_cmp (zae6 hr.units) (zf0 1 [12,11,3] ["_law_one", "_law_bottom", "_law_top", "_law_choice"] rfl (zf3 (za0 13)) (fun _ _ _ _ _=>(zb2 (i:=0) (show List.Nodup (["_law_one", "_law_bottom", "_law_top", "_law_choice"]:List Str) by decide +kernel) rfl (za9 rfl))) (fun _=>(zb1 0)) (fun _ _ _ _ _ _=>(zg1 (zc7 od_gt (zc5 (od_mul.or zl1) (zb8 zj6 rfl bu.n_len PySem.boot_len (za1 (za0 3) za4)) (za0 1)) (zc5 (od_mul.or zl1) (za0 2) (zb8 zj6 rfl bu.n_len PySem.boot_len (za1 (za0 0) za4)))))) (fun _ _ _ _ _ _=>(za0 0))) (zg5 za4)))
end KX
set_option maxHeartbeats 1000000
namespace KX
open PySem.Spec L2 DL
theorem zao7 {ks:List Int}{ds:List D}{fa fb:DE}{t:Th}{r1 r2:Ev}{x:Int} (h1:fa t=some r1) (h2:fb t=some r2) (e1:r1.d=.int x) (e2:r2.d=.dct (ks.map kN) ds):dBo (d2 (kInD true) fa fb) t=some (decide (x∉ks)):=by
 unfold dBo
 rw [zh6 h1 h2]
 unfold kInD
 rw [e1,e2]
 show some (!hasK (ks.map kN) (kN x))=_
 rw [zab3]
 simp
theorem zak4 {M:Nat} (hM:M≤1000) {ss:List (List Int)} (hs:∀s∈ss,∀x∈s,0≤x∧x<(M:Int)) {ns:List Int} (hn:∀n∈ns,0≤n∧n<(ss.length:Int)) :
  zd5 [.int (M:Int),mD ss,.lst (ns.map D.int)]=some (.nw (((zb0 M).filter fun x=>decide (x∉hads ss ns)).map D.int)):=by
 let t0:Th:=[.val (.int (M:Int)),.val (mD ss),.val (.lst (ns.map D.int)),.no]
 show (zf5 t0).bind zi3=_
 have c2:(zu3 2 [1] (fsL (dVar 2)) (za3 0) zc9 (fsL (d2 kIx (dVar 2) (dVar 0))) (za3 1) zc9 (dVar 1) (dC (.bl true))) t0=some (.dn (.dct ((hads ss ns).map kN) ((hads ss ns).map ttD))):=by
  have e:=lk_out hM hs (ns:=ns) (ks:=[]) (u:=.no) (v:=.no) ⟨zax6,fun x hx=>nomatch hx⟩ hn
  show (zj0 (za3 0) zc9 (fsL (d2 kIx (dVar 2) (dVar 0))) (za3 1) zc9 (dVar 1) (dC (.bl true)) (ns.map D.int) [.no,.no,.val (mD ss)] (kdT [])).map _=_
  rw [e]
  rfl
 have E1:=asg_dn (i:=3) c2 (by simp [t0])
 let t1:Th:=[.val (.int (M:Int)),.val (mD ss),.val (.lst (ns.map D.int)),.dp (.dct ((hads ss ns).map kN) ((hads ss ns).map ttD))]
 have E2:(zd1 1 [3] (fsR1 (dVar 0)) (za3 0) (dBo (d2 (kInD true) (dVar 0) (dVar 1))) (dVar 0)) t1=_:=zai7 (p:=fun x=>decide (x∉hads ss ns)) (g:=D.int) (n:=M) (b:=false) (c:=[.dct ((hads ss ns).map kN) ((hads ss ns).map ttD)]) (rfl:dVar 0 t1=some (.cl (.int (M:Int)))) rfl rfl (by lia)
  (fun x _=>zao7 (ks:=hads ss ns) (rfl:dVar 0 _=some (.cl (.int x))) (rfl:dVar 1 _=some (.cl _)) rfl rfl) (fun x _ _=>⟨.cl (.int x),rfl,rfl⟩) (.inl (zc2 _))
 unfold zf5
 rw [zb5 E1]
 exact bnd (zm8 E2)
noncomputable def tC (M:Nat) (ss:List (List Int)) (s2:Sl) (hd:Hd) (ch:List Int) (s5 s6 s7 s8:Sl):Th:=[.val (.int (M:Int)),.val (mD ss),s2,.dp (dctH hd),.own (ch.map D.int),s5,s6,s7,s8]
theorem turn_N {M:Nat} (hM:M≤400) {ss:List (List Int)} (c:Cv M ss) (hl:ss.length≤400) {hd:Hd} (h:HI M ss hd) (h0:0<mxL (lnS hd ss)) {ch:List Int} (hc:ch.length<1000) (s2 s5 s6 s7 s8:Sl) :
  ∃u5 u6 u7 u8,bdN (tC M ss s2 hd ch s5 s6 s7 s8)=some (.nx (tC M ss s2 (adS hd ss) (ch++[(bst hd ss:Int)]) u5 u6 u7 u8)):=by
 have ne:ss≠[]:=fun z=>by rw [z]at h0;simp [lnS,mxL]at h0
 let xs:List (List Int):=ss.map (nwS hd)
 have lx:xs.length=ss.length:=by simp [xs]
 have xm:∀r∈xs,r.length≤400:=fun r hr=>by
  obtain⟨s,hs,rfl⟩:=zax8.mp hr
  exact zax3 (zay2 _ _) (zax3 (c.len hs) hM)
 have a1:(zh2 1 [3] (fsL (dVar 1)) (za3 0) zc9 (zd1 1 [1] (fsL (dVar 0)) (za3 0) (dBo (d2 (kInD true) (dVar 0) (dVar 1))) (dVar 0))) (tC M ss s2 hd ch s5 s6 s7 s8)=some (.dn (mD xs)):=by
  have:=zar7 (e:=rwD) (g:=fun s=>rwD (nwS hd s)) (fe:=(zd1 1 [1] (fsL (dVar 0)) (za3 0) (dBo (d2 (kInD true) (dVar 0) (dVar 1))) (dVar 0))) (t:=tC M ss s2 hd ch s5 s6 s7 s8) (f:=dVar 1) (r:=.cl (mD ss)) (xs:=ss) (cap:=[3]) (b:=false) (c:=[dctH hd]) rfl rfl rfl (by lia)
   (fun s hs=>⟨.nw ((nwS hd s).map D.int),zu2 (e:=D.int) (p:=fun x=>decide (x∉hd.map Prod.fst)) (g:=D.int) (xs:=s) (b:=true) (c:=[dctH hd]) (rfl:dVar 0 _=some (.cl (rwD s))) rfl rfl (by have:=c.len hs;lia)
    (fun x _=>zao7 (ks:=hd.map Prod.fst) (rfl:dVar 0 _=some (.cl (.int x))) (rfl:dVar 1 _=some (.cl (dctH hd))) rfl rfl) (fun x _ _=>⟨.cl (.int x),rfl,rfl⟩) (.inl (zc2 _)),
    by show (if flats ((nwS hd s).map D.int) then _ else _)=_;rw [zc2];rfl⟩)
  rw [this]
  show some (Ev.dn (.lst (ss.map fun s=>rwD (nwS hd s))))=some (Ev.dn (.lst ((ss.map (nwS hd)).map rwD)))
  rw [zbd3]
  rfl
 have E1:=asg_dn (i:=5) a1 (by simp [tC])
 let t1:Th:=tC M ss s2 hd ch (.dp (mD xs)) s6 s7 s8
 have a2:(zd1 1 [] (fsL (dVar 5)) (za3 0) zc9 (dT1 kLen (za2 (dVar 0) dNil))) t1=some (.nw (((lnS hd ss).map fun (n:Nat)=>(n:Int)).map D.int)):=by
  have:=zu2 (e:=rwD) (p:=fun _=>true) (g:=fun s=>D.int (s.length:Int)) (ft:=zc9) (fe:=dT1 kLen (za2 (dVar 0) dNil)) (t:=t1) (f:=dVar 5) (r:=.tm (mD xs)) (xs:=xs) (cap:=[]) (b:=true) (c:=[]) rfl rfl rfl (by lia)
   (fun _ _=>rfl) (fun s _ _=>⟨_,zt4 (xs:=s) (rfl:dVar 0 _=some (.cl (rwD s))) rfl,rfl⟩) (.inl (by rw [zba4.mpr fun _ _=>rfl];exact (by rw [show (xs.map fun s=>D.int (s.length:Int))=(xs.map fun s=>(s.length:Int)).map D.int by simp];exact zc2 _)))
  rw [this,zba4.mpr fun _ _=>rfl]
  simp [xs,lnS,Function.comp_def]
 have E2:=zn1 (i:=6) a2 (by simp [t1,tC])
 let L:List Int:=(lnS hd ss).map fun (n:Nat)=>(n:Int)
 let m:=mxL (lnS hd ss)
 let t2:Th:=tC M ss s2 hd ch (.dp (mD xs)) (.own (L.map D.int)) s7 s8
 have ll:L.length=ss.length:=by simp [L,lnS]
 have nl:lnS hd ss≠[]:=fun z=>ne (by rw [lnS,zbe6]at z;exact z)
 have lp:0<L.length:=by rw [ll];exact List.length_pos_iff.mpr ne
 have a3:=zaq8 (f:=dVar 6) (t:=t2) (r:=.tm (.lst (L.map D.int))) (L:=L) rfl rfl lp
 rw [show topI' L=(m:Int) from top_mx nl]at a3
 have E3:=zp5 (i:=7) a3 (by simp [t2,tC])
 let t3:Th:=tC M ss s2 hd ch (.dp (mD xs)) (.own (L.map D.int)) (.val (.int (m:Int))) s8
 have a4:(d2 kIdx (dVar 6) (dVar 7)) t3=some (.cl (.int (bst hd ss:Int))):=by
  rw [zh6 (rfl:dVar 6 t3=some (.tm (.lst (L.map D.int)))) (rfl:dVar 7 t3=some (.cl (.int (m:Int))))]
  unfold kIdx
  show ((zk6 (L.map D.int)).bind fun ns=>if ns.contains (m:Int)&&decide (ns.length≤100000) then some (Ev.cl (.int (ns.idxOf (m:Int):Nat))) else none)=_
  rw [zl4]
  simp only [zav0]
  have hm:(m:Int)∈L:=zax8.mpr ⟨m,zx2 nl,rfl⟩
  rw [if_pos (by rw [zav3];exact⟨by simpa using hm,by simp;lia⟩)]
  rw [show L.idxOf (m:Int)=bst hd ss from zai1 m _]
 have E4:=zp5 (i:=8) a4 (by simp [t3,tC])
 let t4:Th:=tC M ss s2 hd ch (.dp (mD xs)) (.own (L.map D.int)) (.val (.int (m:Int))) (.val (.int (bst hd ss:Int)))
 have E5:=zu8 t4 (f:=dVar 8) (i:=4) (xs:=ch) (p:=(bst hd ss:Int)) rfl rfl (by lia)
 let t5:Th:=tC M ss s2 hd (ch++[(bst hd ss:Int)]) (.dp (mD xs)) (.own (L.map D.int)) (.val (.int (m:Int))) (.val (.int (bst hd ss:Int)))
 have bl:=zac8 (hd:=hd) ne
 obtain⟨r,er,hr⟩:=zam2 (fa:=dVar 5) (fb:=dVar 8) (t:=t5) (i:=(bst hd ss:Int)) (M:=xs) (rfl:dVar 5 _=some (.tm (mD xs))) rfl rfl (by lia) (by rw [lx];lia)
 have gx:xs.getD (bst hd ss) []=nwS hd (ss.getD (bst hd ss) []):=by
  simp [xs,zav9,zav4 bl]
 rw [show ((bst hd ss:Int)).toNat=bst hd ss from rfl,gx]at hr
 let nw:=nwS hd (ss.getD (bst hd ss) [])
 have bm:=zy6 (hd:=hd) ne
 have nn:nw.Nodup:=(c.nd _ bm).filter _
 have nl2:nw.length≤400:=zax3 (zay2 _ _) (zax3 (c.len bm) hM)
 have a6:(zq5 1 [7] (fsL (d2 kIx (dVar 5) (dVar 8))) (za3 0) zc9 (dVar 0) (dT1 kTup (za2 (dC (.int 1)) (za2 (dVar 1) dNil)))) t5=some (.dn (.dct (nw.map kN) (nw.map fun _=>tP m))):=by
  have ef:fsL (d2 kIx (dVar 5) (dVar 8)) t5=some (r.ok,nw.map D.int):=by
   unfold fsL;rw [er];simp only [zav0,hr,rwD];rfl
  have ek:=zac4 (m:=m) (fv:=(dT1 kTup (za2 (dC (.int 1)) (za2 (dVar 1) dNil)))) (ext:=[.val (.int (m:Int))]) (fun x=>⟨_,rfl,rfl⟩) nw [] .no (by simpa using nn) (by simp;lia)
  show ((fsL (d2 kIx (dVar 5) (dVar 8)) t5).bind fun q=>(zh7 (za3 0) zc9 (dVar 0) (dT1 kTup (za2 (dC (.int 1)) (za2 (dVar 1) dNil))) q.2 [.no,.val (.int (m:Int))] ([],[])).map fun a=>Ev.dn (.dct a.1 a.2))=_
  rw [ef]
  simp only [zav0]
  have ek:zh7 (za3 0) zc9 (dVar 0) (dT1 kTup (za2 (dC (.int 1)) (za2 (dVar 1) dNil))) (nw.map D.int) [.no,.val (.int (m:Int))] ([],[])=some (nw.map kN,nw.map fun _=>tP m):=by simpa using ek
  rw [ek]
  rfl
 have hlen:hd.length≤M:=by simpa using h.ak.len
 have fl1:∀l:Hd,flats (l.map fun p=>tP p.2)=true:=fun l=>by
  induction l with
  |nil=>rfl
  |cons p l ih=>show (flat (tP p.2)&&flats (l.map fun p=>tP p.2))=true;rw [ih];rfl
 have E6:dUpd 3 (zq5 1 [7] (fsL (d2 kIx (dVar 5) (dVar 8))) (za3 0) zc9 (dVar 0) (dT1 kTup (za2 (dC (.int 1)) (za2 (dVar 1) dNil)))) t5=some (.nx (tC M ss s2 (adS hd ss) (ch++[(bst hd ss:Int)]) (.dp (mD xs)) (.own (L.map D.int)) (.val (.int (m:Int))) (.val (.int (bst hd ss:Int))))):=by
  unfold dUpd
  rw [a6]
  show (if (flats (hd.map fun p=>tP p.2)&&flats (nw.map fun _=>tP m))&&decide (((hd.map Prod.fst).map kN).length+(nw.map kN).length≤50000) then some (Out.nx (t5.set 3 (.dp (.dct (mgKD (nw.map kN) (nw.map fun _=>tP m) ((hd.map Prod.fst).map kN,hd.map fun p=>tP p.2)).1 (mgKD (nw.map kN) (nw.map fun _=>tP m) ((hd.map Prod.fst).map kN,hd.map fun p=>tP p.2)).2)))) else none)=_
  rw [fl1,zy0 (fun _=>m),decide_eq_true (by simp;lia),if_pos (by rfl),mg_new m nw hd nn fun x hx=>(mem_nwS.mp hx).2]
  rfl
 exact⟨.dp (mD xs),.own (L.map D.int),.val (.int (m:Int)),.val (.int (bst hd ss:Int)),(zb5 E1).trans ((zb5 E2).trans ((zb5 E3).trans ((zb5 E4).trans ((zb5 E5).trans E6))))⟩
theorem cond_N {M:Nat}{ss:List (List Int)}{hd:Hd}{ch:List Int}{s2 s5 s6 s7 s8:Sl}:cdN (tC M ss s2 hd ch s5 s6 s7 s8)=some (decide (hd.length<M)):=by
 have a:(dT1 kLenD (za2 (dVar 3) dNil)) (tC M ss s2 hd ch s5 s6 s7 s8)=some (.cl (.int (hd.length:Int))):=by
  show some (Ev.cl (.int (((hd.map Prod.fst).map kN).length:Int)))=_
  simp
 have:=lt_of (fb:=dVar 0) (b:=(M:Int)) a rfl
 unfold cdN
 rw [this]
 congr 1
 simp
theorem loop_N {M:Nat} (hM:M≤400) {ss:List (List Int)} (c:Cv M ss) (hl:ss.length≤400) (s2:Sl):∀(n:Nat) (hd:Hd) (ch:List Int) (s5 s6 s7 s8:Sl),HI M ss hd→M<hd.length+n→ch.length≤hd.length →
  ∃u5 u6 u7 u8,whD cdN bdN n (tC M ss s2 hd ch s5 s6 s7 s8)=some (.nx (tC M ss s2 (chs M ss n hd ch).1 (chs M ss n hd ch).2 u5 u6 u7 u8))
 |0,hd,ch,s5,s6,s7,s8,h,hn,hc=>by
  have:hd.length≤M:=by simpa using h.ak.len
  lia
 |n+1,hd,ch,s5,s6,s7,s8,h,hn,hc=>by
  unfold whD chs
  rw [cond_N]
  by_cases hl':hd.length<M
  ·have h0:=h.some_new c hl'
   obtain⟨h1,h2⟩:=h.step c h0
   obtain⟨u5,u6,u7,u8,e⟩:=turn_N hM c hl h h0 (ch:=ch) (by lia) s2 s5 s6 s7 s8
   obtain⟨v5,v6,v7,v8,e'⟩:=loop_N hM c hl s2 n (adS hd ss) (ch++[(bst hd ss:Int)]) u5 u6 u7 u8 h1 (by lia) (by rw [zax2,zay8];lia)
   refine⟨v5,v6,v7,v8,?_⟩
   rw [decide_eq_true hl',if_pos hl']
   show ((bdN (tC M ss s2 hd ch s5 s6 s7 s8)).bind _)=_
   rw [e]
   exact e'
  ·refine⟨s5,s6,s7,s8,?_⟩
   rw [decide_eq_false hl',if_neg hl']
   rfl
theorem zas7 {M:Nat}{ss:List (List Int)} (c:Cv M ss):∀(n:Nat) (hd:Hd) (ch:List Int),HI M ss hd→M<hd.length+n→HI M ss (chs M ss n hd ch).1∧(chs M ss n hd ch).1.length=M
 |0,hd,ch,h,hn=>by
  have:hd.length≤M:=by simpa using h.ak.len
  lia
 |n+1,hd,ch,h,hn=>by
  unfold chs
  by_cases hl':hd.length<M
  ·rw [if_pos hl']
   obtain⟨h1,h2⟩:=h.step c (h.some_new c hl')
   exact zas7 c n _ _ h1 (by lia)
  ·rw [if_neg hl']
   have:hd.length≤M:=by simpa using h.ak.len
   exact⟨h,show hd.length=M by lia⟩
def ze6 (M:Nat) (ss:List (List Int)):Hd×List Int:=chs M ss 500 [] []
theorem zw3 {M:Nat} (hM:M≤400) {ss:List (List Int)} (c:Cv M ss) (x:Int) (x0:0≤x) (x1:x<(M:Int)):x∈(ze6 M ss).1.map Prod.fst:=by
 obtain⟨h,l⟩:=zas7 c 500 [] [] (HI.nil M ss) (by simp;lia)
 refine Classical.byContradiction fun z=>?_
 have ak:AllK M ((ze6 M ss).1.map Prod.fst++[x]):=⟨zaw2.mpr ⟨h.ak.nd,by simp,fun a ha b hb e=>by rw [zax0]at hb;subst hb;subst e;exact z ha⟩,fun y hy=>by
  rcases zav2.mp hy with q | q
  ·exact h.ak.lt y q
  ·rw [zax0]at q;subst q;exact⟨x0,x1⟩⟩
 have:=ak.len
 rw [zax2,zaw6]at this
 have l:(ze6 M ss).1.length=M:=l
 simp at this
 lia
theorem zas8 {M:Nat} (hM:M≤400) {ss:List (List Int)} (c:Cv M ss) (hl:ss.length≤400):ze1 [.int (M:Int),mD ss]=some (.tm (.tup [.lst ((ze6 M ss).2.map D.int),.lst ((zb0 M).map fun x=>tP (shr (ze6 M ss).1 x))])):=by
 let t0:Th:=[.val (.int (M:Int)),.val (mD ss),.no,.no,.no,.no,.no,.no,.no]
 show (zg2 t0).bind zi3=_
 unfold zg2
 have r0:=lr_of (f:=dT1 kLen (za2 (dVar 1) dNil)) (t:=t0) (n:=ss.length) (lenM_of (f:=dVar 1) (r:=.cl (mD ss)) rfl rfl) (by lia)
 have la:zd5 [.int (M:Int),mD ss,.lst ((zb0 ss.length).map D.int)]=some (.nw (([]:List Int).map D.int)):=by
  rw [zak4 (by lia) c.lt fun n hn=>zf4 hn]
  have:(zb0 M).filter (fun x=>decide (x∉hads ss (zb0 ss.length)))=[]:=by
   refine zba5.mpr fun x hx=>?_
   obtain⟨x0,x1⟩:=zf4 hx
   obtain⟨s,hs,xs⟩:=c.all x x0 x1
   obtain⟨i,hi,e⟩:=zbi2.mp hs
   have:x∈hads ss (zb0 ss.length):=mem_hads.mpr (.inr ⟨(i:Int),zg9 (by lia) (by lia),by
    show x∈ss.getD i []
    rw [zav9,zav4 hi,e]
    exact xs⟩)
   simpa using this
  rw [this]
 have a1:(dT1 (zc8 zd5) (za2 (dVar 0) (za2 (dVar 1) (za2 (zw2 (za2 (dT1 kLen (za2 (dVar 1) dNil)) dNil)) dNil)))) t0=some (.nw (([]:List Int).map D.int)):=(t3_of (rfl:dVar 0 t0=some (.cl (.int (M:Int)))) (rfl:dVar 1 t0=some (.cl (mD ss))) r0).trans (calln la)
 have E1:=zn1 (i:=2) a1 (by simp [t0])
 let t1:Th:=[.val (.int (M:Int)),.val (mD ss),.own [],.no,.no,.no,.no,.no,.no]
 have E2:dIfS (dTr (dVar 2)) zas1 zl8 t1=some (.nx t1):=grd (b:=false) rfl rfl
 have E3:dAsg 3 dNewD t1=some (.nx [.val (.int (M:Int)),.val (mD ss),.own [],.dp (dctH []),.no,.no,.no,.no,.no]):=rfl
 have E4:dAsg 4 (dT1 kLst dNil) [.val (.int (M:Int)),.val (mD ss),.own [],.dp (dctH []),.no,.no,.no,.no,.no]=some (.nx (tC M ss (.own []) [] [] .no .no .no .no)):=rfl
 obtain⟨u5,u6,u7,u8,e5⟩:=loop_N hM c hl (.own []) 500 [] [] .no .no .no .no (HI.nil M ss) (by simp;lia) (by simp)
 have E5:zw1 (fun _=>500) cdN bdN (tC M ss (.own []) [] [] .no .no .no .no)=some (.nx (tC M ss (.own []) (ze6 M ss).1 (ze6 M ss).2 u5 u6 u7 u8)):=e5
 let t5:=tC M ss (.own []) (ze6 M ss).1 (ze6 M ss).2 u5 u6 u7 u8
 have a6:(zd1 1 [3] (fsR1 (dVar 0)) (za3 0) zc9 (d2 zv9 (dVar 1) (dVar 0))) t5=some (.nw ((zb0 M).map fun x=>tP (shr (ze6 M ss).1 x))):=by
  have:=zai7 (p:=fun _=>true) (g:=fun x=>tP (shr (ze6 M ss).1 x)) (ft:=zc9) (fe:=d2 zv9 (dVar 1) (dVar 0)) (t:=t5) (f:=dVar 0) (r:=.cl (.int (M:Int))) (n:=M) (b:=false) (cap:=[3]) (c:=[dctH (ze6 M ss).1]) rfl rfl rfl (by lia) (fun _ _=>rfl)
   (fun x hx _=>⟨.cl (tP (shr (ze6 M ss).1 x)),by
    obtain⟨x0,x1⟩:=zf4 hx
    rw [zh6 (rfl:dVar 1 _=some (.cl (dctH (ze6 M ss).1))) (rfl:dVar 0 _=some (.cl (.int x)))]
    show (match zab4 (((ze6 M ss).1.map Prod.fst).map kN) ((ze6 M ss).1.map fun p=>tP p.2) (kN x) with
     |some d=>if flat d then some (Ev.cl d) else none
     |none=>none)=_
    rw [get_hd (zw3 hM c x x0 x1)]
    rfl,rfl⟩) (.inl (zy0 _ _))
  rw [this,zba4.mpr fun _ _=>rfl]
 have a7:(dT1 kTup (za2 (dVar 4) (za2 (zd1 1 [3] (fsR1 (dVar 0)) (za3 0) zc9 (d2 zv9 (dVar 1) (dVar 0))) dNil))) t5=some (.tm (.tup [.lst ((ze6 M ss).2.map D.int),.lst ((zb0 M).map fun x=>tP (shr (ze6 M ss).1 x))])):=(zk5 (rfl:dVar 4 t5=some (.tm (.lst ((ze6 M ss).2.map D.int)))) a6).trans rfl
 exact bnd ((zb5 E1).trans ((zb5 E2).trans ((zb5 E3).trans ((zb5 E4).trans ((zb5 E5).trans (zm8 a7))))))
theorem fmod_nat (a b:Nat) (h:0<b):(a:Int).fmod (b:Int)=((a % b:Nat):Int):=by
 rw [zbe9 _ (by lia)];rfl
def cfC:DT:=(dBo (d2 kNe (dVar 1) (dC (.int 0))))
theorem zat2:∀(n a b:Nat),b<n→whD cfC cfB n [.val (.int (a:Int)),.val (.int (b:Int))]=some (.nx [.val (.int (zbd5 a b:Int)),.val (.int 0)])
 |0,a,b,h=>by lia
 |n+1,a,b,h=>by
  have ec:cfC [.val (.int (a:Int)),.val (.int (b:Int))]=some (!decide ((b:Int)=0)):=by
   simp [cfC,dBo,d2,dVar,dC,kNe,eqOk,eqD,Ev.d]
  unfold whD
  rw [ec]
  by_cases hb:b=0
  ·subst hb
   simp
  ·have hb' : ¬ ((b:Int)=0):=by lia
   rw [decide_eq_false hb']
   have eb:cfB [.val (.int (a:Int)),.val (.int (b:Int))]=some (.nx [.val (.int (b:Int)),.val (.int ((a % b:Nat):Int))]):=by
    unfold cfB dPar
    have:(za2 (dVar 1) (za2 (d2 qR (dVar 0) (dVar 1)) dNil)) [.val (.int (a:Int)),.val (.int (b:Int))]=some [.cl (.int (b:Int)),.cl (.int ((a:Int).fmod (b:Int)))]:=by
     simp [za2,dNil,d2,dVar,kI,cMod,Ev.d,hb]
    rw [this,fmod_nat a b (by lia)]
    rfl
   simp only [zav0,Bool.not_false,if_true,eb]
   rw [zat2 n b (a % b) (by have:=Nat.mod_lt a (show 0<b by lia);lia),Nat.gcd_comm b, ← Nat.gcd_rec,Nat.gcd_comm b]
theorem zas6 (a b:Nat):ze7 [.int (a:Int),.int (b:Int)]=some (.cl (.int (zbd5 a b:Int))):=by
 have e:=zat2 (((b:Int).natAbs)+1) a b (by lia)
 show ((dSeq (zw1 (fuelN 1) cfC cfB) (dRet (dT1 kAbs (za2 (dVar 0) dNil)))) [.val (.int (a:Int)),.val (.int (b:Int))]).bind zi3=_
 have e':(zw1 (fuelN 1) cfC cfB) [.val (.int (a:Int)),.val (.int (b:Int))]=some (.nx [.val (.int (zbd5 a b:Int)),.val (.int 0)]):=e
 rw [zb5 e']
 have h : ¬ ((zbd5 a b:Int)<0):=by lia
 simp [dRet,dT1,za2,dNil,dVar,kAbs,Ev.d,zi3,h]
theorem fdiv_nat (a b:Nat):(a:Int).fdiv (b:Int)=((a / b:Nat):Int):=by
 rw [Int.fdiv_eq_ediv_of_nonneg _ (by lia)];rfl
theorem smN {a:Nat} (h:a<DL.bnd):sm (a:Int)=true:=by
 unfold sm
 rw [decide_eq_true_eq]
 exact h
theorem zaf1 (s m:Nat) (h0:0<m) (h:m<DL.bnd):zj8 [.int (s:Int),.int (m:Int)]=some (.cl (.tup [.int ((s / zbd5 s m:Nat):Int),.int ((m / zbd5 s m:Nat):Int)])):=by
 have g0:0<zbd5 s m:=zbg2 _ h0
 have g1:zbd5 s m≤m:=Nat.gcd_le_right _ h0
 have gs:sm (zbd5 s m:Int)=true:=smN (zaz4 g1 h)
 let t0:Th:=[.val (.int (s:Int)),.val (.int (m:Int)),.no]
 let t1:Th:=[.val (.int (s:Int)),.val (.int (m:Int)),.val (.int (zbd5 s m:Int))]
 have a1:(dT1 (zc8 ze7) (za2 (dVar 0) (za2 (dVar 1) dNil))) t0=some (.cl (.int (zbd5 s m:Int))):=(zk5 (rfl:dVar 0 t0=some (.cl (.int (s:Int)))) (rfl:dVar 1 t0=some (.cl (.int (m:Int))))).trans (callc (zas6 s m) rfl)
 have E1:=zp5 (i:=2) a1 (by simp [t0])
 have E2:(dIfS (dBo (d2 qL (dVar 1) (dC (.int 0)))) (dAsg 2 (d1 kNeg (dVar 2))) zl8) t1=some (.nx t1):=grd (lt_of (fa:=dVar 1) (fb:=dC (.int 0)) (t:=t1) (a:=(m:Int)) (b:=0) rfl rfl) (decide_eq_false (by lia))
 have d1:=zar3 (fa:=dVar 0) (fb:=dVar 2) (t:=t1) (a:=(s:Int)) (b:=(zbd5 s m:Int)) rfl rfl (by lia) gs
 have d2':=zar3 (fa:=dVar 1) (fb:=dVar 2) (t:=t1) (a:=(m:Int)) (b:=(zbd5 s m:Int)) rfl rfl (by lia) gs
 rw [fdiv_nat]at d1 d2'
 have a3:=(zk5 (k:=kTup) d1 d2').trans rfl
 show (zq4 t0).bind zi3=_
 exact bnd ((zb5 E1).trans ((zb5 E2).trans (zm8 a3)))
theorem zy2 {n:Nat} (h:n≤400):n*fct n<DL.bnd∧fct n<DL.bnd:=by
 have h1:=fct_mono h
 have h2:n*fct n≤400*fct 400:=Nat.mul_le_mul h h1
 have h3:400*fct 400<DL.bnd:=by decide +kernel
 have h4:=zt9 400
 lia
theorem zap1 (s0:Sl) {n:Nat} (hn:n≤400):∀(m k:Nat) (s3:Sl),k+m=n→∃u3,forD (za3 3) bdHm ((zay0 m).map fun (i:Nat)=>D.int (1+(k:Int)+(i:Int))) [s0,.val (.int (hmT k:Int)),.val (.int (fct k:Int)),s3]=some (.nx [s0,.val (.int (hmT n:Int)),.val (.int (fct n:Int)),u3])
 |0,k,s3,h=>by
  have:k=n:=by lia
  subst this
  exact⟨s3,rfl⟩
 |m+1,k,s3,h=>by
  obtain⟨u3,i⟩:=zap1 s0 hn m (k+1) (.val (.int (1+(k:Int)))) (by lia)
  have hk:=zy2 (n:=k) (by lia)
  have hk1:=zy2 (n:=k+1) (by lia)
  have hmk:sm (hmT k:Int)=true:=smN (zaz4 (hm_le k) hk.1)
  have hfk:sm (fct k:Int)=true:=smN hk.2
  have hk2:sm (1+(k:Int))=true:=zm5 (by lia) (by lia)
  let t1:Th:=[s0,.val (.int (hmT k:Int)),.val (.int (fct k:Int)),.val (.int (1+(k:Int)))]
  have m1:=zm9 (fa:=dVar 1) (fb:=dVar 3) (t:=t1) (a:=(hmT k:Int)) (b:=1+(k:Int)) rfl rfl hmk hk2
  have m2:=zm9 (fa:=dVar 2) (fb:=dVar 3) (t:=t1) (a:=(fct k:Int)) (b:=1+(k:Int)) rfl rfl hfk hk2
  have m3:=zk4 (fb:=dVar 2) (b:=(fct k:Int)) m1 rfl
  have e1:(hmT k:Int)*(1+(k:Int))+(fct k:Int)=(hmT (k+1):Int):=by
   show _=((hmT k*(k+1)+fct k:Nat):Int)
   rw [Int.natCast_add,zbf1,show ((k+1:Nat):Int)=1+(k:Int) by lia]
  have e2:(fct k:Int)*(1+(k:Int))=(fct (k+1):Int):=by
   show _=(((k+1)*fct k:Nat):Int)
   rw [zbf1,show ((k+1:Nat):Int)=1+(k:Int) by lia,Int.mul_comm]
  rw [e1]at m3
  rw [e2]at m2
  have eb:bdHm t1=some (.nx [s0,.val (.int (hmT (k+1):Int)),.val (.int (fct (k+1):Int)),.val (.int (1+(k:Int)))]):=by
   unfold bdHm dPar
   rw [cns m3 (cns m2 (rfl:dNil t1=some []))]
   rfl
  refine⟨u3,?_⟩
  rw [zbh6,zav6,zbd3]
  have er:((fun (i:Nat)=>D.int (1+(k:Int)+(i:Int))) ∘ Nat.succ)=fun (i:Nat)=>D.int (1+((k+1:Nat):Int)+(i:Int)):=by
   funext i
   show D.int (1+(k:Int)+((i+1:Nat):Int))=D.int (1+((k+1:Nat):Int)+(i:Int))
   congr 1
   lia
  rw [er]
  have e0:D.int (1+(k:Int)+((0:Nat):Int))=D.int (1+(k:Int)):=by congr 1
  rw [e0]
  exact (zaq5 (t1:=t1) rfl eb).trans i
theorem zaf0 {n:Nat} (hn:n≤400):zi0 [.int (n:Int)]=some (.cl (.tup [.int (hA n:Int),.int (hB n:Int)])):=by
 let t0:Th:=[.val (.int (n:Int)),.no,.no,.no]
 obtain⟨u3,e⟩:=zap1 (.val (.int (n:Int))) hn n 0 .no (by lia)
 have E1:zp3 (zj4 2 (zc3 (za3 1) (zc3 (za3 2) zk3))) (dT1 kTup (za2 (dC (.int 0)) (za2 (dC (.int 1)) dNil))) t0=some (.nx [.val (.int (n:Int)),.val (.int 0),.val (.int 1),.no]):=rfl
 have ad:=zk4 (fa:=dVar 0) (fb:=dC (.int 1)) (t:=[.val (.int (n:Int)),.val (.int 0),.val (.int 1),.no]) (a:=(n:Int)) (b:=1) rfl rfl
 have E2:zaf3 (za3 3) (dC (.int 1)) (d2 qA (dVar 0) (dC (.int 1))) bdHm [.val (.int (n:Int)),.val (.int 0),.val (.int 1),.no]=some (.nx [.val (.int (n:Int)),.val (.int (hmT n:Int)),.val (.int (fct n:Int)),u3]):=by
  have er:rngD 1 n=(zay0 n).map fun (i:Nat)=>D.int (1+((0:Nat):Int)+(i:Int)):=by
   unfold rngD
   refine zbc9 fun i _=>?_
   rw [Int.ofNat_zero,Int.add_zero]
  refine (zag7 (k:=n) (rfl:dC (.int 1) _=some (.cl (.int 1))) ad (by lia) (by rw [zav3];unfold bigI;constructor <;>(simp;try lia))).trans ?_
  rw [er]
  exact e
 have fb:=zy2 hn
 have a3:=zaf1 (hmT n) (fct n) (zt9 n) fb.2
 have E3:dRet (dT1 (zc8 zj8) (za2 (dVar 1) (za2 (dVar 2) dNil))) [.val (.int (n:Int)),.val (.int (hmT n:Int)),.val (.int (fct n:Int)),u3]=some (.rt (.cl (.tup [.int (hA n:Int),.int (hB n:Int)]))):=zm8 ((zk5 (rfl:dVar 1 _=some (.cl (.int (hmT n:Int)))) (rfl:dVar 2 _=some (.cl (.int (fct n:Int))))).trans (callc a3 rfl))
 show (zq3 t0).bind zi3=_
 exact bnd ((zb5 E1).trans ((zb5 E2).trans E3))
end KX
set_option maxHeartbeats 4000000
namespace KX
open PySem.Spec L2 DL
theorem cell_of (ns:List Int) (hb:∀n∈ns,n.natAbs<bndS) (k:Nat):∃v:Int,v.natAbs<bndS∧zc1 [.lst (ns.map D.int),.int (k:Int)]=some (.cl (.int v)):=by
 have hbig:=bnd_big
 by_cases h:k<ns.length
 ·refine⟨ns[k],hb _ (zbb8 h),?_⟩
  have h1:((k:Int)<((ns.map D.int).length:Int)):=by simp;lia
  have h2:atI (ns.map D.int) (k:Int)=some (.int ns[k]):=by
   unfold atI ixN
   rw [if_pos (by lia),if_pos h1]
   simp [h]
  show (ze8 [.val (.lst (ns.map D.int)),.val (.int (k:Int))]).bind zi3=_
  simp only [ze8,dSeq,dIfS,dBo,d2,dVar,dT1,za2,dNil,kLen,Ev.d,kI,tt2,zav0,zbg6,zbd0,if_true]
  rw [decide_eq_true h1]
  simp [dRet,d2,dVar,kIx,Ev.d,h2,zi3,Ev.ok]
 ·refine⟨0,by simp;lia,?_⟩
  have h1 : ¬ ((k:Int)<((ns.map D.int).length:Int)):=by simp;lia
  show (ze8 [.val (.lst (ns.map D.int)),.val (.int (k:Int))]).bind zi3=_
  simp only [ze8,dSeq,dIfS,dBo,d2,dVar,dT1,za2,dNil,kLen,Ev.d,kI,tt2,zav0,zbg6,zbd0,if_true]
  rw [decide_eq_false h1]
  simp [dRet,zl8,dC,zi3]
theorem zu7 (ns:List Int) (hb:∀n∈ns,n.natAbs<bndS) (k:Nat):∃v:Int,v.natAbs<bndS∧zc8 zc1 [.cl (.lst (ns.map D.int)),.cl (.int (k:Int))]=some (.cl (.int v)):=by
 obtain⟨v,h,e⟩:=cell_of ns hb k
 exact⟨v,h,by simp [zc8,Ev.d,e,upEv,Ev.ok]⟩
theorem cell_var (ns:List Int) (hb:∀n∈ns,n.natAbs<bndS) (k:Nat) (r:Th):∃v:Int,v.natAbs<bndS∧(dT1 (zc8 zc1) (za2 (dVar 0) (za2 (dC (.int (k:Int))) dNil))) (.val (.lst (ns.map D.int))::r)=some (.cl (.int v)):=by
 obtain⟨v,h,e⟩:=zu7 ns hb k
 exact⟨v,h,(zk5 (ra:=.cl (.lst (ns.map D.int))) (rb:=.cl (.int (k:Int))) rfl rfl).trans e⟩
theorem fm {a b:Int} (h:0<b):0≤a.fmod b∧a.fmod b<b:=fmod_pos h
theorem mixed_is (c:Int) {k:Int} (k0:0≤k) (k1:k<100000):∃m:Int,zi2 [.int c,.int k]=some (.cl (.int m)):=by
 show ∃m,(zn4 [.val (.int c),.val (.int k),.no]).bind zi3=some (.cl (.int m))
 have q1:=fm (a:=c) (b:=2147483647) (by decide)
 have kk:0≤48271*k*k∧48271*k*k≤48271*100000*100000:=by
  have h1:0≤48271*k:=by lia
  have h2:48271*k*k≤48271*100000*k:=zbd7 (by lia) k0
  exact⟨Int.mul_nonneg h1 k0,by lia⟩
 have e1:=zr0 (zm9 (zk4 (zk4 (zr0 (fa:=dVar 0) (fb:=dC (.int 2147483647)) (t:=[.val (.int c),.val (.int k),.no]) (a:=c) (b:=2147483647) rfl rfl (by decide)) (zm9 (zm9 (fa:=dC (.int 48271)) (fb:=dVar 1) (t:=[.val (.int c),.val (.int k),.no]) (a:=48271) (b:=k) rfl rfl (zm5 (by decide) (by decide)) (zm5 (by lia) (by lia))) (rfl:dVar 1 _=some (.cl (.int k))) (zm5 (by lia) (by lia)) (zm5 (by lia) (by lia)))) (rfl:dC (.int 11) _=some (.cl (.int 11)))) (rfl:dC (.int 69621) _=some (.cl (.int 69621))) (zm5 (by lia) (by lia)) (zm5 (by decide) (by decide))) (rfl:dC (.int 2147483629) _=some (.cl (.int 2147483629))) (by decide)
 have E1:=zp5 (i:=2) e1 (by simp)
 generalize hn:(Int.fmod ((c.fmod 2147483647+48271*k*k+11)*69621) 2147483629)=n at E1
 have q2:0≤n∧n<2147483629:=by rw [← hn];exact fm (by decide)
 have nn:0≤n*n∧n*n≤2147483629*2147483629:=by
  have h2:n*n≤2147483629*n:=zbd7 (by lia) q2.1
  exact⟨Int.mul_nonneg q2.1 q2.1,by lia⟩
 let t:Th:=[.val (.int c),.val (.int k),.val (.int n)]
 have e2:=zr0 (zk4 (zm9 (fa:=dVar 2) (fb:=dVar 2) (t:=t) (a:=n) (b:=n) rfl rfl (zm5 (by lia) (by lia)) (zm5 (by lia) (by lia))) (zm9 (fa:=dC (.int 39373)) (fb:=dVar 1) (t:=t) (a:=39373) (b:=k) rfl rfl (zm5 (by decide) (by decide)) (zm5 (by lia) (by lia)))) (rfl:dC (.int 2147483587) t=some (.cl (.int 2147483587))) (by decide)
 have q3:=fm (a:=n*n+39373*k) (b:=2147483587) (by decide)
 have e3:=zr0 (zm9 e2 (rfl:dC (.int 16807) t=some (.cl (.int 16807))) (zm5 (by lia) (by lia)) (zm5 (by decide) (by decide))) (rfl:dC (.int 2147483549) t=some (.cl (.int 2147483549))) (by decide)
 exact⟨_,bnd ((zb5 E1).trans (zm8 e3))⟩
theorem turn_row (ns:List Int) (hb:∀n∈ns,n.natAbs<bndS) (at':Nat) (ha:at'≤1000) (s2:Sl) {top:Int} (t0:0<top) (t1:top≤1000000000000000) (xs:List Int) (hl:xs.length<100000) (cell:Int) (k:Nat) (hk:k<1000) :
  ∃(x cell':Int),0≤x∧x<top∧zau2 [.val (.lst (ns.map D.int)),.val (.int (at':Int)),s2,.val (.int top),.own (xs.map D.int),.val (.int cell),.val (.int (k:Int))]=some (.nx [.val (.lst (ns.map D.int)),.val (.int (at':Int)),s2,.val (.int top),.own ((xs++[x]).map D.int),.val (.int cell'),.val (.int (k:Int))]):=by
 let t:Th:=[.val (.lst (ns.map D.int)),.val (.int (at':Int)),s2,.val (.int top),.own (xs.map D.int),.val (.int cell),.val (.int (k:Int))]
 obtain⟨v0,_,c0⟩:=cell_var ns hb 0 [.val (.int (at':Int)),s2,.val (.int top),.own (xs.map D.int),.val (.int cell),.val (.int (k:Int))]
 have c:=zai5 (zr0 c0 (fb:=dC (.int 2)) rfl (by decide)) (fb:=dC (.int 0)) rfl
 unfold zau2
 by_cases z:v0.fmod 2=0
 ·refine⟨cell.fmod top,cell.fdiv top,(fm t0).1,(fm t0).2,?_⟩
  refine (ifs_t c (decide_eq_true z)).trans ?_
  have e1:=zu8 (i:=4) t (xs:=xs) (zr0 (fa:=dVar 5) (fb:=dVar 3) (t:=t) (a:=cell) (b:=top) rfl rfl (by lia)) rfl hl
  refine (zb5 e1).trans ?_
  exact zp5 (i:=5) (zar3 (fa:=dVar 5) (fb:=dVar 3) (a:=cell) (b:=top) rfl rfl (by lia) (zm5 (by lia) (by lia))) (by simp [t])
 ·have q8:=fm (a:=(k:Int)) (b:=8) (by decide)
  obtain⟨r,hr⟩:∃r:Nat,(at':Int)+(k:Int).fmod 8=(r:Int):=⟨((at':Int)+(k:Int).fmod 8).toNat,by lia⟩
  obtain⟨v,_,ev⟩:=zu7 ns hb r
  have ec:(dT1 (zc8 zc1) (za2 (dVar 0) (za2 (d2 qA (dVar 1) (d2 qR (dVar 6) (dC (.int 8)))) dNil))) t=some (.cl (.int v)):=by
   have:=zk4 (fa:=dVar 1) (t:=t) (a:=(at':Int)) rfl (zr0 (fa:=dVar 6) (fb:=dC (.int 8)) (t:=t) (a:=(k:Int)) (b:=8) rfl rfl (by decide))
   rw [hr]at this
   exact (zk5 (ra:=.cl (.lst (ns.map D.int))) rfl this).trans ev
  obtain⟨m,em⟩:=mixed_is v (k:=(at':Int)+(k:Int)) (by lia) (by lia)
  have em':(dT1 (zc8 zi2) (za2 (dT1 (zc8 zc1) (za2 (dVar 0) (za2 (d2 qA (dVar 1) (d2 qR (dVar 6) (dC (.int 8)))) dNil))) (za2 (d2 qA (dVar 1) (dVar 6)) dNil))) t=some (.cl (.int m)) :=
   (zk5 ec (zk4 (fa:=dVar 1) (fb:=dVar 6) (t:=t) (a:=(at':Int)) (b:=(k:Int)) rfl rfl)).trans (callc em rfl)
  refine⟨m.fmod top,cell,(fm t0).1,(fm t0).2,?_⟩
  refine (ifs_f c (decide_eq_false z)).trans ?_
  exact zu8 (i:=4) t (xs:=xs) (zr0 em' (fb:=dVar 3) (b:=top) rfl (by lia)) rfl hl
theorem zah8 (ns:List Int) (hb:∀n∈ns,n.natAbs<bndS) (at':Nat) (ha:at'≤1000) (s2:Sl) {top:Int} (t0:0<top) (t1:top≤1000000000000000):∀(l:List Nat) (xs:List Int) (cell:Int) (s6:Sl),(∀k∈l,k<1000)→xs.length+l.length<100000→(∀x∈xs,0≤x∧x<top) →
  ∃(ys:List Int) (cell':Int) (u6:Sl),ys.length=xs.length+l.length∧(∀x∈ys,0≤x∧x<top)∧forD (za3 6) zau2 (l.map fun (k:Nat)=>D.int (k:Int)) [.val (.lst (ns.map D.int)),.val (.int (at':Int)),s2,.val (.int top),.own (xs.map D.int),.val (.int cell),s6]=some (.nx [.val (.lst (ns.map D.int)),.val (.int (at':Int)),s2,.val (.int top),.own (ys.map D.int),.val (.int cell'),u6])
 |[],xs,cell,s6,_,_,hx=>⟨xs,cell,s6,rfl,hx,rfl⟩
 |k::l,xs,cell,s6,hk,hl,hx=>by
  simp only [zax7]at hl
  obtain⟨x,cell',x0,x1,e⟩:=turn_row ns hb at' ha s2 t0 t1 xs (by lia) cell k (hk k (zav1 ..))
  obtain⟨ys,c2,u6,yl,yr,ih⟩:=zah8 ns hb at' ha s2 t0 t1 l (xs++[x]) cell' (.val (.int (k:Int))) (fun j hj=>hk j (zau8 _ hj)) (by simp only [zax2,zay8];lia) (fun y hy=>by
   rcases zav2.mp hy with w | w
   ·exact hx y w
   ·rw [zax0]at w;subst w;exact⟨x0,x1⟩)
  refine⟨ys,c2,u6,by simp only [zax2,zay8]at yl;simp only [zax7];lia,yr,?_⟩
  have e0:za3 6 (.int (k:Int)) [.val (.lst (ns.map D.int)),.val (.int (at':Int)),s2,.val (.int top),.own (xs.map D.int),.val (.int cell),s6]=some [.val (.lst (ns.map D.int)),.val (.int (at':Int)),s2,.val (.int top),.own (xs.map D.int),.val (.int cell),.val (.int (k:Int))]:=rfl
  simp only [zav6,forD,e0,zav0,e]
  exact ih
theorem row_of (ns:List Int) (hb:∀n∈ns,n.natAbs<bndS) (at' many:Nat) (ha:at'≤1000) (hm:many≤1000) {q:Int} (hq:0<q) (hs:q≤1000000000000000):∃xs:List Int,xs.length=many∧(∀x∈xs,0≤x∧x<q)∧zg3 [.lst (ns.map D.int),.int (at':Int),.int (many:Int),.int q]=some (.nw (xs.map D.int)):=by
 show ∃xs:List Int,xs.length=many∧(∀x∈xs,0≤x∧x<q)∧(zt8 [.val (.lst (ns.map D.int)),.val (.int (at':Int)),.val (.int (many:Int)),.val (.int q),.no,.no,.no]).bind zi3=_
 obtain⟨v,_,ev⟩:=zu7 ns hb at'
 have E1:dAsg 4 (dT1 kLst dNil) [.val (.lst (ns.map D.int)),.val (.int (at':Int)),.val (.int (many:Int)),.val (.int q),.no,.no,.no]=some (.nx [.val (.lst (ns.map D.int)),.val (.int (at':Int)),.val (.int (many:Int)),.val (.int q),.own (([]:List Int).map D.int),.no,.no]):=rfl
 have E2:dAsg 5 (dT1 (zc8 zc1) (za2 (dVar 0) (za2 (dVar 1) dNil))) [.val (.lst (ns.map D.int)),.val (.int (at':Int)),.val (.int (many:Int)),.val (.int q),.own (([]:List Int).map D.int),.no,.no]=some (.nx [.val (.lst (ns.map D.int)),.val (.int (at':Int)),.val (.int (many:Int)),.val (.int q),.own (([]:List Int).map D.int),.val (.int v),.no]) :=
  zp5 (i:=5) ((zk5 (ra:=.cl (.lst (ns.map D.int))) (rb:=.cl (.int (at':Int))) rfl rfl).trans ev) (by simp)
 obtain⟨ys,c2,u6,yl,yr,e⟩:=zah8 ns hb at' ha (.val (.int (many:Int))) hq hs (zay0 many) [] v .no (fun k hk=>by have:=zbd9.mp hk;lia) (by simp;lia) (fun x hx=>by cases hx)
 have E3:=(zad9 (k0:=za3 6) (b:=zau2) (t:=[.val (.lst (ns.map D.int)),.val (.int (at':Int)),.val (.int (many:Int)),.val (.int q),.own (([]:List Int).map D.int),.val (.int v),.no]) (f:=dVar 2) (r:=.cl (.int (many:Int))) (n:=many) rfl rfl (by lia))
 have en:(zb0 many).map D.int=(zay0 many).map fun (k:Nat)=>D.int (k:Int):=by unfold zb0;rw [zbd3];rfl
 rw [en]at E3
 refine⟨ys,by simpa using yl,yr,bnd ?_⟩
 refine (zb5 E1).trans ?_
 refine (zb5 E2).trans ?_
 refine (zb5 (E3.trans e)).trans ?_
 rfl
theorem zy5 (ns:List Int) (hb:∀n∈ns,n.natAbs<bndS) (at' many:Nat) (ha:at'≤1000) (hm:many≤1000) {q:Int} (hq:0<q) (hs:q≤1000000000000000):∃xs:List Int,xs.length=many∧(∀x∈xs,0≤x∧x<q)∧zc8 zg3 [.cl (.lst (ns.map D.int)),.cl (.int (at':Int)),.cl (.int (many:Int)),.cl (.int q)]=some (.nw (xs.map D.int)):=by
 obtain⟨xs,h1,h2,e⟩:=row_of ns hb at' many ha hm hq hs
 exact⟨xs,h1,h2,by simp [zc8,Ev.d,e,upEv,Ev.ok]⟩
def tD (u:Nat×Nat):D:=pD ((u.1:Int),(u.2:Int))
def zw5 (us:List (Nat×Nat)) (p:Int):Bool:=us.any fun u=>decide ((u.1:Int)=p)||decide ((u.2:Int)=p)
def ftT:DT:=(dBo (d2 kIn (dVar 2) (dVar 1)))
theorem zab9 {p:Int}:∀(l:List (Nat×Nat)) (i:Nat) (s0 s1:Sl),∃xs:List Int,zd7 ktT ftT (dVar 0) (zl7 i (l.map tD)) [s0,s1,.val (.int p)]=some (xs.map D.int)∧xs.isEmpty=!(zw5 l p)
 |[],i,s0,s1=>⟨[],rfl,rfl⟩
 |u::l,i,s0,s1=>by
  have e0:ktT (.tup [.int (i:Int),tD u]) [s0,s1,.val (.int p)]=some [.val (.int (i:Int)),.val (tD u),.val (.int p)]:=rfl
  have e1:ftT [.val (.int (i:Int)),.val (tD u),.val (.int p)]=some (decide ((u.1:Int)=p)||decide ((u.2:Int)=p)):=by
   unfold ftT dBo
   rw [zh6 (rfl:dVar 2 _=some (.cl (.int p))) (rfl:dVar 1 _=some (.cl (tD u)))]
   simp [kIn,Ev.d,tD,pD,scD,eqOk,eqD]
  obtain⟨xs,ih,em⟩:=zab9 (p:=p) l (i+1) (.val (.int (i:Int))) (.val (tD u))
  have ht:zw5 (u::l) p=((decide ((u.1:Int)=p)||decide ((u.2:Int)=p))||zw5 l p):=rfl
  simp only [zav6,zl7,zd7,e0,zav0,e1]
  rw [ht]
  cases c:(decide ((u.1:Int)=p)||decide ((u.2:Int)=p)) with
  |true=>exact⟨(i:Int)::xs,by rw [if_pos rfl,ih];rfl,rfl⟩
  |false=>exact⟨xs,by rw [if_neg (by decide),ih],by rw [em];rfl⟩
theorem zaj2 {M:Int}{us:List (Nat×Nat)} (hl:us.length≤50000) (p:Int):∃xs:List Int,ze4 [.tup [.int M,.lst (us.map tD)],.int p]=some (.nw (xs.map D.int))∧xs.isEmpty=!(zw5 us p):=by
 obtain⟨xs,e2,em⟩:=zab9 (p:=p) us 0 .no .no
 refine⟨xs,?_,em⟩
 show (zp1 [.val (.tup [.int M,.lst (us.map tD)]),.val (.int p)]).bind zi3=_
 refine bnd (zm8 ?_)
 unfold zd1
 have e1:fsE (d2 kIx (dVar 0) (dC (.int 1))) [.val (.tup [.int M,.lst (us.map tD)]),.val (.int p)]=some (true,zl7 0 (us.map tD)):=rfl
 have ec:capD [.val (.tup [.int M,.lst (us.map tD)]),.val (.int p)] [1]=some (true,[.int p]):=rfl
 rw [e1,ec]
 simp only [zav0]
 rw [if_pos (by rw [zl6,zaw6];exact hl)]
 show (zd7 ktT ftT (dVar 0) (zl7 0 (us.map tD)) [.no,.no,.val (.int p)]).bind _=_
 rw [e2]
 rfl
theorem turn_C {s0 s1 s2 s3 s8 s9:Sl}{L P:List Int}{u:Nat×Nat} (h1:u.1<L.length) (h2:u.2<L.length) (hP:P.length<100000):∃v8,bdC [s0,s1,s2,s3,.own (L.map D.int),.own (P.map D.int),.val (.int (u.1:Int)),.val (.int (u.2:Int)),s8,s9]=some (.nx [s0,s1,s2,s3,.own ((lfC L u).map D.int),.own ((P++[prC L u]).map D.int),.val (.int (u.1:Int)),.val (.int (u.2:Int)),v8,s9]):=by
 let p:=prC L u
 let a:Sl:=.val (.int (u.1:Int))
 let b:Sl:=.val (.int (u.2:Int))
 let t:Th:=[s0,s1,s2,s3,.own (L.map D.int),.own (P.map D.int),a,b,s8,s9]
 have i1:=zaa9 (fa:=dVar 4) (fb:=dVar 6) (t:=t) (r1:=.tm (.lst (L.map D.int))) (r2:=.cl (.int (u.1:Int))) L u.1 rfl rfl h1 rfl rfl
 have i2:=zaa9 (fa:=dVar 4) (fb:=dVar 7) (t:=t) (r1:=.tm (.lst (L.map D.int))) (r2:=.cl (.int (u.2:Int))) L u.2 rfl rfl h2 rfl rfl
 have E1:=zp5 (i:=8) (t:=t) (d:=.int p) ((zk5 (k:=k2I fun i j=>if j<i then j else i) i1 i2).trans rfl) (by simp [t])
 have E2:=zau3 (f:=fun i j=>i - j) (i:=4) (fk:=dVar 6) (fv:=dVar 8) (t:=[s0,s1,s2,s3,.own (L.map D.int),.own (P.map D.int),a,b,.val (.int p),s9]) (L:=L) (b:=u.1) (v:=p) rfl rfl rfl h1
 have E3:=zau3 (f:=fun i j=>i - j) (i:=4) (fk:=dVar 7) (fv:=dVar 8) (t:=[s0,s1,s2,s3,.own ((L.set u.1 (L.getD u.1 0 - p)).map D.int),.own (P.map D.int),a,b,.val (.int p),s9]) (L:=L.set u.1 (L.getD u.1 0 - p)) (b:=u.2) (v:=p) rfl rfl rfl (by simpa using h2)
 have E4:=zu8 (i:=5) [s0,s1,s2,s3,.own ((lfC L u).map D.int),.own (P.map D.int),a,b,.val (.int p),s9] (f:=dVar 8) (xs:=P) (p:=p) rfl rfl hP
 exact⟨.val (.int p),(zb5 E1).trans ((zb5 E2).trans ((zb5 E3).trans E4))⟩
theorem loop_C {s0 s1 s2 s3 s9:Sl}{M:Nat}:∀(us:List (Nat×Nat)) (s:List Int×List Int) (s6 s7 s8:Sl),s.1.length=M→(∀u∈us,u.1<u.2∧u.2<M)→s.2.length+us.length<100000 →
  ∃v6 v7 v8,forD (zj4 2 (zc3 (za3 6) (zc3 (za3 7) zk3))) bdC (us.map tD) [s0,s1,s2,s3,.own (s.1.map D.int),.own (s.2.map D.int),s6,s7,s8,s9]=some (.nx [s0,s1,s2,s3,.own ((us.foldl stC s).1.map D.int),.own ((us.foldl stC s).2.map D.int),v6,v7,v8,s9])
 |[],s,s6,s7,s8,_,_,_=>⟨s6,s7,s8,rfl⟩
 |u::us,s,s6,s7,s8,hL,hu,hP=>by
  simp only [zax7]at hP
  have hu0:=hu u (zav1 ..)
  obtain⟨v8,e⟩:=turn_C (s0:=s0) (s1:=s1) (s2:=s2) (s3:=s3) (s8:=s8) (s9:=s9) (L:=s.1) (P:=s.2) (u:=u) (by lia) (by lia) (by lia)
  obtain⟨w6,w7,w8,ih⟩:=loop_C (s0:=s0) (s1:=s1) (s2:=s2) (s3:=s3) (s9:=s9) us (stC s u) (.val (.int (u.1:Int))) (.val (.int (u.2:Int))) v8 ((zx5 _ _).trans hL) (fun v hv=>hu v (zau8 _ hv)) (by unfold stC;simp only [zax2,zay8];lia)
  refine⟨w6,w7,w8,?_⟩
  have e0:(zj4 2 (zc3 (za3 6) (zc3 (za3 7) zk3))) (tD u) [s0,s1,s2,s3,.own (s.1.map D.int),.own (s.2.map D.int),s6,s7,s8,s9]=some [s0,s1,s2,s3,.own (s.1.map D.int),.own (s.2.map D.int),.val (.int (u.1:Int)),.val (.int (u.2:Int)),s8,s9]:=rfl
  simp only [zav6,forD,e0,zav0,e]
  exact ih
theorem zai4 {M:Nat}:∀(us:List (Nat×Nat)) (s:List Int×List Int),s.1.length=M→(us.foldl stC s).1.length=M
 |[],s,h=>h
 |u::us,s,h=>zai4 us (stC s u) ((zx5 _ _).trans h)
noncomputable def cvN (M:Nat) (us:List (Nat×Nat)) (ws:List Int):List Int:=(zb0 M).filter fun x=>decide ((us.foldl stC (ws,[])).1.getD x.toNat 0=0)&&zw5 us x
noncomputable def cvD (M:Nat) (us:List (Nat×Nat)) (ws:List Int):D:=.tup [.lst ((cvN M us ws).map D.int),.lst ((us.foldl stC (ws,[])).2.map D.int)]
theorem cover_is {M:Nat}{us:List (Nat×Nat)}{ws:List Int} (hM:M≤1000) (hw:ws.length=M) (hl:us.length≤400) (hu:∀u∈us,u.1<u.2∧u.2<M):zd6 [.tup [.int (M:Int),.lst (us.map tD)],.lst (ws.map D.int)]=some (.dn (cvD M us ws)):=by
 let W:Sl:=.val (.tup [.int (M:Int),.lst (us.map tD)])
 let S1:Sl:=.val (.lst (ws.map D.int))
 let S3:Sl:=.val (.lst (us.map tD))
 show (zf6 [W,S1,.no,.no,.no,.no,.no,.no,.no,.no]).bind zi3=_
 have E2:=zn1 (i:=4) (t:=[W,S1,.val (.int (M:Int)),S3,.no,.no,.no,.no,.no,.no]) (zap4 (f:=dVar 1) (r:=.cl (.lst (ws.map D.int))) (xs:=ws) rfl rfl) (by simp)
 have E4:=zaq3 (k:=(zj4 2 (zc3 (za3 6) (zc3 (za3 7) zk3)))) (b:=bdC) (f:=dVar 3) (t:=[W,S1,.val (.int (M:Int)),S3,.own (ws.map D.int),.own (([]:List Int).map D.int),.no,.no,.no,.no]) (r:=.cl (.lst (us.map tD))) (ds:=us.map tD) rfl rfl rfl
 obtain⟨v6,v7,v8,E5⟩:=loop_C (s0:=W) (s1:=S1) (s2:=.val (.int (M:Int))) (s3:=S3) (s9:=.no) (M:=M) us (ws,[]) .no .no .no hw hu (by simp;lia)
 have fl:=zai4 us (ws,[]) hw
 let L:=(us.foldl stC (ws,[])).1
 let P:=(us.foldl stC (ws,[])).2
 let t5:Th:=[W,S1,.val (.int (M:Int)),S3,.own (L.map D.int),.own (P.map D.int),v6,v7,v8,.no]
 have ec:=zac3 (cap:=[0,4]) (f:=dVar 2) (ft:=ftC) (t:=t5) (n:=M) (p:=fun x=>decide (L.getD x.toNat 0=0)&&zw5 us x) (b:=false) (c:=[.tup [.int (M:Int),.lst (us.map tD)],.lst (L.map D.int)]) rfl (by lia) rfl (fun x hx=>by
  obtain⟨k,rfl,hk⟩:∃k:Nat,x=(k:Int)∧k<M:=by
   unfold zb0 at hx
   obtain⟨k,hk,rfl⟩:=zax8.mp hx
   exact⟨k,rfl,zbd9.mp hk⟩
  let tt:Th:=[.val (.int (k:Int)),W,.val (.lst (L.map D.int))]
  obtain⟨xs,eg,em⟩:=zaj2 (M:=(M:Int)) (us:=us) (by lia) (k:Int)
  have i1:=zaa9 (fa:=dVar 2) (fb:=dVar 0) (t:=tt) (r1:=.cl (.lst (L.map D.int))) (r2:=.cl (.int (k:Int))) L k rfl rfl (by have q:L.length=M:=fl;lia) rfl rfl
  have ek:(dT1 (zc8 ze4) (za2 (dVar 1) (za2 (dVar 0) dNil))) tt=some (.nw (xs.map D.int)):=(zk5 (ra:=.cl (.tup [.int (M:Int),.lst (us.map tD)])) (rb:=.cl (.int (k:Int))) rfl rfl).trans (calln eg)
  have et:(dTr (dT1 (zc8 ze4) (za2 (dVar 1) (za2 (dVar 0) dNil)))) tt=some (zw5 us (k:Int)):=by
   unfold dTr
   rw [ek]
   show some (!(xs.map D.int).isEmpty)=_
   rw [show (xs.map D.int).isEmpty=xs.isEmpty by cases xs<;>rfl,em,Bool.not_not]
  show ftC tt=_
  rw [zay9]
  exact zy9 (zai5 i1 (rfl:dC (.int 0) tt=some (.cl (.int 0)))) et)
 have E6:=zn1 (i:=9) ec (by simp [t5])
 unfold zf6
 refine bnd ((zb5 (t':=[W,S1,.val (.int (M:Int)),S3,.no,.no,.no,.no,.no,.no]) rfl).trans ((zb5 E2).trans ((zb5 (t':=[W,S1,.val (.int (M:Int)),S3,.own (ws.map D.int),.own (([]:List Int).map D.int),.no,.no,.no,.no]) rfl).trans ((zb5 (E4.trans E5)).trans ((zb5 E6).trans ?_)))))
 show (zas0 (mTup (zae9 (mOwn 9) (zae9 (mOwn 5) mNil)))) [W,S1,.val (.int (M:Int)),S3,.own (L.map D.int),.own (P.map D.int),v6,v7,v8,.own ((cvN M us ws).map D.int)]=_
 unfold zas0 mTup zae9 mOwn mNil
 simp [zc2,cvD,P]
end KX
set_option maxHeartbeats 1000000
namespace KX
open PySem.Spec L2 DL
theorem cat_of {fa fb:DE}{t:Th}{r1 r2:Ev}{xs ys:List Int} (h1:fa t=some r1) (h2:fb t=some r2) (e1:r1.d=.lst (xs.map D.int)) (e2:r2.d=.lst (ys.map D.int)) (hl:xs.length+ys.length≤100000):(d2 qA fa fb) t=some (.nw ((xs++ys).map D.int)):=by
 rw [zh6 h1 h2]
 (try unfold qA);(try unfold qM);unfold kOr
 have z:kI tt2 (fun i j=>D.int (i+j)) r1 r2=none:=by (try unfold qA);(try unfold qM);(try unfold qV);(try unfold qR);(try unfold qL);(try unfold qG);unfold kI;rw [e1,e2]
 rw [z]
 show kCat r1 r2=_
 unfold kCat
 rw [e1,e2]
 show (if (r1.ok||flats (xs.map D.int))&&(r2.ok||flats (ys.map D.int))&&decide ((xs.map D.int).length+(ys.map D.int).length≤100000) then some (Ev.nw (xs.map D.int++ys.map D.int)) else none)=_
 rw [zc2,zc2,zbd2,zbd2,decide_eq_true (by rw [zaw6,zaw6];exact hl),if_pos (by rfl),zbc3]
theorem zy1:∀us:List (Nat×Nat),flats (us.map tD)=true
 |[]=>rfl
 |u::us=>by
  show (flat (tD u)&&flats (us.map tD))=true
  rw [zy1 us]
  rfl
theorem zas4 {ft:DT}{fe:DE}{p:Int→Bool}{f:Int→D}{ext:Th}:∀(l:List Int) (s:Sl),(∀x∈l,ft (.val (.int x)::ext)=some (p x))→(∀x∈l,∃r,fe (.val (.int x)::ext)=some r∧r.d=f x)→zd7 (za3 0) ft fe (l.map D.int) (s::ext)=some ((l.filter p).map f)
 |[],s,_,_=>rfl
 |x::l,s,h,h'=>by
  have e:=zas4 l (.val (.int x)) (fun y hy=>h y (zau8 _ hy)) (fun y hy=>h' y (zau8 _ hy))
  obtain⟨r,e1,e2⟩:=h' x (zav1 ..)
  show ((ft (.val (.int x)::ext)).bind fun b=>if b then (fe (.val (.int x)::ext)).bind fun r=>(zd7 (za3 0) ft fe (l.map D.int) (.val (.int x)::ext)).map fun xs=>r.d::xs else zd7 (za3 0) ft fe (l.map D.int) (.val (.int x)::ext))=_
  rw [h x (zav1 ..),e,e1]
  cases hp:p x with
  |false=>rw [zbb5 (by rw [hp];decide)];rfl
  |true=>rw [zbb4 hp,zav6, ← e2];rfl
theorem ixT_of {fa fb:DE}{t:Th}{r1 r2:Ev}{us:List (Nat×Nat)}{a:Int} (ha:fa t=some r1) (hb:fb t=some r2) (h1:r1.d=.lst (us.map tD)) (h2:r2.d=.int a) (a0:0≤a) (a1:a<(us.length:Int)):∃r,(d2 kIx fa fb) t=some r∧r.d=tD (uA us a)∧(r1.ok=true→r.ok=true)∧(d2 kIx fa fb) t=some (.cl (tD (uA us a))):=by
 have e:(d2 kIx fa fb) t=some (.cl (tD (uA us a))):=by
  rw [zh6 ha hb]
  unfold kIx
  rw [h1,h2]
  obtain⟨k,rfl⟩:∃k:Nat,a=(k:Int):=⟨a.toNat,by lia⟩
  have hk:k<us.length:=by lia
  have at':atI (us.map tD) (k:Int)=some (tD (uA us (k:Int))):=by
   unfold atI
   rw [zab0 _ k (by rw [zaw6];exact hk),zav0,zay1,zav4 hk]
   unfold uA
   rw [zay9,zav9,zav4 hk]
   rfl
  show Option.map (fun d=>if (r1.ok||flat d)=true then Ev.cl d else Ev.tm d) (atI (us.map tD) (k:Int))=_
  rw [at',zay6,if_pos (by have q:flat (tD (uA us (k:Int)))=true:=rfl;rw [q,zbd2])]
 exact⟨_,e,rfl,fun _=>rfl,e⟩
def okU (M:Nat) (us:List (Nat×Nat)):Prop := ∀u∈us,u.1<u.2∧u.2<M
theorem zal2 {us:List (Nat×Nat)}{a:Int} (a0:0≤a) (a1:a<(us.length:Int)):uA us a∈us:=by
 unfold uA
 rw [zav9,zav4 (by lia)]
 exact zbb8 _
theorem zx6 {t:Th}{f:DE}{r:Ev}{us:List (Nat×Nat)} (h:f t=some r) (hr:r.d=.lst (us.map tD)):(dT1 kLen (za2 f dNil)) t=some (.cl (.int (us.length:Int))):=by
 rw [zz3 h]
 unfold kLen
 simp only [hr,zaw6]
theorem web_is (ns:List Int) (hb:∀n∈ns,n.natAbs<bndS):∃(M:Nat) (us:List (Nat×Nat)),0<M∧M≤7∧us.length≤49∧okU M us∧zj7 [.lst (ns.map D.int),.int 1,.int 7]=some (.cl (.tup [.int (M:Int),.lst (us.map tD)])):=by
 let N:Sl:=.val (.lst (ns.map D.int))
 let S1:Sl:=.val (.int 1)
 let S2:Sl:=.val (.int 7)
 obtain⟨xs,xl,xb,ex⟩:=zy5 ns hb 1 1 (by decide) (by decide) (q:=7) (by decide) (by decide)
 have a1:(d2 kIx (dT1 (zc8 zg3) (za2 (dVar 0) (za2 (dVar 1) (za2 (dC (.int 1)) (za2 (dVar 2) dNil))))) (dC (.int 0))) [N,S1,S2,.no,.no,.no,.no,.no]=some (.cl (.int (xs.getD 0 0))):=zaa9 (r1:=.nw (xs.map D.int)) (r2:=.cl (.int ((0:Nat):Int))) xs 0 ((t4_of (rfl:dVar 0 _=some (.cl (.lst (ns.map D.int)))) (rfl:dVar 1 _=some (.cl (.int 1))) (rfl:dC (.int 1) _=some (.cl (.int 1))) (rfl:dVar 2 _=some (.cl (.int 7)))).trans ex) rfl (by lia) rfl rfl
 have x0:=xb _ (getD_mem (L:=xs) (k:=0) (by lia))
 have a2:=zk4 (fa:=dC (.int 1)) (a:=1) rfl a1
 obtain⟨M,hM,M0,M7⟩:∃M:Nat,1+xs.getD 0 0=(M:Int)∧0<M∧M≤7:=⟨(1+xs.getD 0 0).toNat,by lia,by lia,by lia⟩
 rw [hM]at a2
 have E1:=zp5 (i:=3) a2 (by simp)
 let S3:Sl:=.val (.int (M:Int))
 have E2:dAsg 4 (dT1 kLst dNil) [N,S1,S2,S3,.no,.no,.no,.no]=some (.nx [N,S1,S2,S3,.own (([]:List (Nat×Nat)).map tD),.no,.no,.no]):=rfl
 obtain⟨t3,e3,us,u5,u6,ul,uo,rfl⟩:=zaq4 (k:=za3 5) (b:=bdP) (n:=M) (f:=fun j=>D.int (0+(j:Int))) (P:=fun j t => ∃(us:List (Nat×Nat)) (u5 u6:Sl),us.length≤j*7∧okU M us∧t=[N,S1,S2,S3,.own (us.map tD),u5,u6,.no]) (fun j hj t ⟨us,u5,u6,ul,uo,et⟩=>by
  subst et
  let t1:Th:=[N,S1,S2,S3,.own (us.map tD),.val (.int (0+(j:Int))),u6,.no]
  obtain⟨t2,e2,us',v6,vl,vo,rfl⟩:=zaq4 (k:=za3 6) (b:=(dApp 4 (dT1 kTup (za2 (dVar 5) (za2 (dVar 6) dNil))))) (n:=M - j - 1) (f:=fun i=>D.int (0+(j:Int)+1+(i:Int))) (P:=fun i t => ∃(us':List (Nat×Nat)) (u6:Sl),us'.length=us.length+i∧okU M us'∧t=[N,S1,S2,S3,.own (us'.map tD),.val (.int (0+(j:Int))),u6,.no]) (fun i hi t ⟨us',u6,vl,vo,et⟩=>by
   subst et
   let t1:Th:=[N,S1,S2,S3,.own (us'.map tD),.val (.int (0+(j:Int))),.val (.int (0+(j:Int)+1+(i:Int))),.no]
   have tu:(dT1 kTup (za2 (dVar 5) (za2 (dVar 6) dNil))) t1=some (.cl (tD (j,j+1+i))):=by
    rw [zk5 (rfl:dVar 5 t1=some (.cl (.int (0+(j:Int))))) (rfl:dVar 6 t1=some (.cl (.int (0+(j:Int)+1+(i:Int)))))]
    show some (Ev.cl (D.tup [.int (0+(j:Int)),.int (0+(j:Int)+1+(i:Int))]))=some (Ev.cl (.tup [.int (j:Int),.int ((j+1+i:Nat):Int)]))
    rw [show (0+(j:Int))=(j:Int) by lia,show ((j:Int)+1+(i:Int))=((j+1+i:Nat):Int) by lia]
   have A:=app_of t1 (i:=4) tu rfl (by rw [zaw6];lia)
   refine⟨_,_,rfl,A,us'++[(j,j+1+i)],_,by rw [zax2,zay8];lia,fun u hu=>?_,by rw [zbc3];rfl⟩
   rcases zav2.mp hu with h | h
   ·exact vo u h
   ·rw [zax0.mp h]
    exact⟨by show j<j+1+i;lia,by show j+1+i<M;lia⟩) t1 ⟨us,u6,rfl,uo,rfl⟩
  have ej:=zk4 (fa:=dVar 5) (fb:=dC (.int 1)) (t:=t1) (a:=0+(j:Int)) (b:=1) rfl rfl
  refine⟨t1,_,rfl,(zag7 (k:=M - j - 1) ej (rfl:dVar 3 t1=some (.cl (.int (M:Int)))) (by lia) (by rw [zav3];unfold bigI;constructor <;>(simp;lia))).trans e2,us',_,_,by lia,vo,rfl⟩) [N,S1,S2,S3,.own (([]:List (Nat×Nat)).map tD),.no,.no,.no] ⟨[],.no,.no,by simp,(fun u hu=>nomatch hu),rfl⟩
 have E3:zv2 (za3 5) (dVar 3) bdP [N,S1,S2,S3,.own (([]:List (Nat×Nat)).map tD),.no,.no,.no]=some (.nx [N,S1,S2,S3,.own (us.map tD),u5,u6,.no]):=by
  rw [zad9 (n:=M) (r:=.cl (.int (M:Int))) rfl rfl (by lia)]
  have:(zb0 M).map D.int=(zay0 M).map fun (j:Nat)=>D.int (0+(j:Int)):=by unfold zb0;simp
  rw [this]
  exact e3
 let t3:Th:=[N,S1,S2,S3,.own (us.map tD),u5,u6,.no]
 obtain⟨bs,bl,_,eb⟩:=zy5 ns hb 2 us.length (by decide) (by lia) (q:=2) (by decide) (by decide)
 have ln:=zx6 (us:=us) (f:=dVar 4) (t:=t3) (r:=.tm (.lst (us.map tD))) rfl rfl
 have c4:=(t4_of (rfl:dVar 0 t3=some (.cl (.lst (ns.map D.int)))) (zk4 (fa:=dVar 1) (fb:=dC (.int 1)) (a:=1) (b:=1) rfl rfl) ln (rfl:dC (.int 2) t3=some (.cl (.int 2)))).trans eb
 have E4:=zn1 (i:=7) c4 (by simp [t3])
 let t4:Th:=[N,S1,S2,S3,.own (us.map tD),u5,u6,.own (bs.map D.int)]
 let p:Int→Bool:=fun x=>decide (bs.getD x.toNat 0=1)
 let vs:=((zb0 us.length).filter p).map (uA us)
 have c5:(zd1 1 [7,4] (fsR1 (dT1 kLen (za2 (dVar 4) dNil))) (za3 0) (dBo (d2 kEq (d2 kIx (dVar 1) (dVar 0)) (dC (.int 1)))) (d2 kIx (dVar 2) (dVar 0))) t4=some (.nw (vs.map tD)):=by
  unfold zd1
  have ln4:=zx6 (us:=us) (f:=dVar 4) (t:=t4) (r:=.tm (.lst (us.map tD))) rfl rfl
  have e1:=rng_is ln4 (by lia:us.length≤50000)
  obtain⟨bb,hc⟩:∃b,capD t4 [7,4]=some (b,[.lst (bs.map D.int),.lst (us.map tD)]):=⟨_,rfl⟩
  have e2:zd7 (za3 0) (dBo (d2 kEq (d2 kIx (dVar 1) (dVar 0)) (dC (.int 1)))) (d2 kIx (dVar 2) (dVar 0)) ((zb0 us.length).map D.int) [Sl.no,.val (.lst (bs.map D.int)),.val (.lst (us.map tD))]=some (((zb0 us.length).filter p).map fun x=>tD (uA us x)):=zas4 _ _ (fun x hx=>by
    have:=zf4 hx
    exact zai5 (ixi_of (r1:=.cl (.lst (bs.map D.int))) (r2:=.cl (.int x)) bs x rfl rfl (by lia) (by lia) rfl rfl) (fb:=dC (.int 1)) (b:=1) rfl) (fun x hx=>by
    have:=zf4 hx
    obtain⟨r,e,er,_,_⟩:=ixT_of (fa:=dVar 2) (fb:=dVar 0) (t:=[.val (.int x),.val (.lst (bs.map D.int)),.val (.lst (us.map tD))]) (r1:=.cl (.lst (us.map tD))) (r2:=.cl (.int x)) (us:=us) (a:=x) rfl rfl rfl rfl (by lia) (by lia)
    exact⟨r,e,er⟩)
  rw [e1,hc]
  simp only [zav0]
  rw [if_pos (by simp [zi1];lia)]
  show (zd7 _ _ _ ((zb0 us.length).map D.int) [Sl.no,.val (.lst (bs.map D.int)),.val (.lst (us.map tD))]).bind _=_
  rw [e2]
  have e3:(((zb0 us.length).filter p).map fun x=>tD (uA us x))=vs.map tD:=by simp [vs,zbd3,Function.comp_def]
  rw [e3]
  simp only [zav0,zy1,zbd2,if_true]
 have E5:(dT1 kTup (za2 (dVar 3) (za2 (zd1 1 [7,4] (fsR1 (dT1 kLen (za2 (dVar 4) dNil))) (za3 0) (dBo (d2 kEq (d2 kIx (dVar 1) (dVar 0)) (dC (.int 1)))) (d2 kIx (dVar 2) (dVar 0))) dNil))) t4=some (.cl (.tup [.int (M:Int),.lst (vs.map tD)])):=(zk5 (rfl:dVar 3 t4=some (.cl (.int (M:Int)))) c5).trans rfl
 refine⟨M,vs,M0,M7,?_,fun u hu=>?_,?_⟩
 ·have:=zay2 p (zb0 us.length)
  rw [zi1]at this
  show (((zb0 us.length).filter p).map (uA us)).length≤49
  rw [zaw6]
  lia
 ·obtain⟨x,hx,rfl⟩:=zax8.mp hu
  have:=zf4 (zay5.mp hx).1
  exact uo _ (zal2 this.1 this.2)
 ·show (dSeq _ (dSeq _ (dSeq (zv2 _ _ bdP) _)) [N,S1,S2,.no,.no,.no,.no,.no]).bind zi3=_
  exact bnd ((zb5 E1).trans ((zb5 E2).trans ((zb5 E3).trans ((zb5 E4).trans (zm8 E5)))))
def stF (F:List Int) (u:Nat×Nat):List Int:=if (u.1:Int)∉F∧(u.2:Int)∉F then F++[(u.2:Int)] else F
theorem stF_ok {M:Nat}:∀(us:List (Nat×Nat)) (F:List Int),okU M us→F.Nodup→(∀p∈F,0≤p∧p<(M:Int))→(us.foldl stF F).Nodup∧(∀p∈us.foldl stF F,0≤p∧p<(M:Int))∧(∀p∈F,p∈us.foldl stF F)∧∀u∈us,(u.1:Int)∈us.foldl stF F∨(u.2:Int)∈us.foldl stF F
 |[],F,_,nd,hF=>⟨nd,hF,fun p h=>h,fun u hu=>nomatch hu⟩
 |u::us,F,ho,nd,hF=>by
  obtain⟨o1,o2⟩:=ho u (zav1 ..)
  have s1:(stF F u).Nodup∧(∀p∈stF F u,0≤p∧p<(M:Int))∧(∀p∈F,p∈stF F u)∧((u.1:Int)∈stF F u∨(u.2:Int)∈stF F u):=by
   unfold stF
   split
   ·rename_i h
    refine⟨zaw2.mpr ⟨nd,by simp,fun a ha b hb e=>?_⟩,fun p hp=>?_,fun p hp=>zau9 _ hp,.inr (by simp)⟩
    ·rw [zax0.mp hb]at e;exact h.2 (e ▸ ha)
    ·rcases zav2.mp hp with z | z
     ·exact hF p z
     ·rw [zax0.mp z];lia
   ·rename_i h
    refine⟨nd,hF,fun p hp=>hp,?_⟩
    by_cases y:(u.1:Int)∈F
    ·exact .inl y
    ·exact .inr (Classical.byContradiction fun w=>h ⟨y,w⟩)
  obtain⟨i1,i2,i3,i4⟩:=stF_ok us (stF F u) (fun v hv=>ho v (zau8 _ hv)) s1.1 s1.2.1
  refine⟨i1,i2,fun p hp=>i3 p (s1.2.2.1 p hp),fun v hv=>?_⟩
  rcases zav5.mp hv with rfl | z
  ·rcases s1.2.2.2 with y | y
   ·exact .inl (i3 _ y)
   ·exact .inr (i3 _ y)
  ·exact i4 v z
theorem loop_F (s0 s1:Sl):∀(us:List (Nat×Nat)) (F:List Int) (s3 s4:Sl),F.length+us.length<1000→∃u3 u4,forD (zj4 2 (zc3 (za3 3) (zc3 (za3 4) zk3))) bdF (us.map tD) [s0,s1,.own (F.map D.int),s3,s4]=some (.nx [s0,s1,.own ((us.foldl stF F).map D.int),u3,u4])
 |[],F,s3,s4,_=>⟨s3,s4,rfl⟩
 |u::us,F,s3,s4,h=>by
  rw [zax7]at h
  have k0:zj4 2 (zc3 (za3 3) (zc3 (za3 4) zk3)) (tD u) [s0,s1,.own (F.map D.int),s3,s4]=some [s0,s1,.own (F.map D.int),.val (.int (u.1:Int)),.val (.int (u.2:Int))]:=rfl
  let t1:Th:=[s0,s1,.own (F.map D.int),.val (.int (u.1:Int)),.val (.int (u.2:Int))]
  have c1:=zaa3 (fa:=dVar 3) (fb:=dVar 2) (t:=t1) (r1:=.cl (.int (u.1:Int))) (r2:=.tm (.lst (F.map D.int))) (u.1:Int) F rfl rfl rfl rfl
  have c2:=zaa3 (fa:=dVar 4) (fb:=dVar 2) (t:=t1) (r1:=.cl (.int (u.2:Int))) (r2:=.tm (.lst (F.map D.int))) (u.2:Int) F rfl rfl rfl rfl
  have e:bdF t1=some (.nx [s0,s1,.own ((stF F u).map D.int),.val (.int (u.1:Int)),.val (.int (u.2:Int))]):=by
   unfold stF
   by_cases free:(u.1:Int)∉F∧(u.2:Int)∉F
   ·refine (ifs_t (zy9 c1 c2) (by rw [decide_eq_false free.1,decide_eq_false free.2];rfl)).trans ?_
    rw [if_pos free]
    exact zu8 t1 (f:=dVar 4) (i:=2) (p:=(u.2:Int)) (xs:=F) rfl rfl (by lia)
   ·refine (grd (zy9 c1 c2) ?_).trans ?_
    ·by_cases y:(u.1:Int)∈F
     ·rw [decide_eq_true y];rfl
     ·have y2:(u.2:Int)∈F:=Classical.byContradiction fun w=>free ⟨y,w⟩
      rw [decide_eq_true y2,Bool.not_true,zbi5]
    ·rw [if_neg free]
  have fl:(stF F u).length≤F.length+1:=by unfold stF;split<;>simp
  obtain⟨u3,u4,ih⟩:=loop_F s0 s1 us (stF F u) (.val (.int (u.1:Int))) (.val (.int (u.2:Int))) (by lia)
  refine⟨u3,u4,?_⟩
  simp only [zav6,forD,k0,zav0]
  have e:bdF [s0,s1,.own (F.map D.int),.val (.int (u.1:Int)),.val (.int (u.2:Int))]=_:=e
  rw [e]
  exact ih
theorem zam4 {M:Nat}{us:List (Nat×Nat)}{bs:List Int} (hM:M≤7) (hl:us.length≤49) (hu:okU M us) (hb:bs.length=M):∃X:List Int,X.Nodup∧(∀p∈X,0≤p∧p<(M:Int))∧(∀u∈us,(u.1:Int)∈X∨(u.2:Int)∈X)∧zh3 [.tup [.int (M:Int),.lst (us.map tD)],.lst (bs.map D.int)]=some (.nw (X.map D.int)):=by
 let W:Sl:=.val (.tup [.int (M:Int),.lst (us.map tD)])
 let B:Sl:=.val (.lst (bs.map D.int))
 let t0:Th:=[W,B,.no,.no,.no]
 have w0:(d2 kIx (dVar 0) (dC (.int 0))) t0=some (.cl (.int (M:Int))):=rfl
 let F:=(zb0 M).filter fun x=>decide (bs.getD x.toNat 0=1)
 have c1:=zac3 (cap:=[1]) (t:=t0) (n:=M) (p:=fun x=>decide (bs.getD x.toNat 0=1)) (b:=true) (c:=[.lst (bs.map D.int)]) (ft:=dBo (d2 kEq (d2 kIx (dVar 1) (dVar 0)) (dC (.int 1)))) w0 (by lia) rfl (fun x hx=>by
  have:=zf4 hx
  exact zai5 (ixi_of (r1:=.cl (.lst (bs.map D.int))) (r2:=.cl (.int x)) bs x rfl rfl (by lia) (by lia) rfl rfl) (fb:=dC (.int 1)) (b:=1) rfl)
 have E1:=zn1 (i:=2) c1 (by simp [t0])
 have Fl:F.length≤7:=by
  have:=zay2 (fun x=>decide (bs.getD x.toNat 0=1)) (zb0 M)
  rw [zi1]at this
  show ((zb0 M).filter fun x=>decide (bs.getD x.toNat 0=1)).length≤7
  lia
 obtain⟨u3,u4,e2⟩:=loop_F W B us F .no .no (by lia)
 have E2:dFor (zj4 2 (zc3 (za3 3) (zc3 (za3 4) zk3))) (d2 kIx (dVar 0) (dC (.int 1))) bdF [W,B,.own (F.map D.int),.no,.no]=some (.nx [W,B,.own ((us.foldl stF F).map D.int),u3,u4]):=(zaq3 (r:=.cl (.lst (us.map tD))) rfl rfl rfl).trans e2
 obtain⟨nd,hF,_,me⟩:=stF_ok us F hu ((zx1 M).filter _) (fun p hp=>zf4 (zay5.mp hp).1)
 have Xl:(us.foldl stF F).length≤M:=by
  have:=zp6 nd (C:=zb0 M) (fun p hp=>zg9 (hF p hp).1 (hF p hp).2)
  rw [zi1]at this
  exact this
 have c3:=sorti_of (f:=dVar 2) (t:=[W,B,.own ((us.foldl stF F).map D.int),u3,u4]) (r:=.tm (.lst ((us.foldl stF F).map D.int))) (xs:=us.foldl stF F) rfl rfl (by lia)
 have pm:=zj9 (us.foldl stF F)
 refine⟨zn9 (us.foldl stF F),pm.nodup_iff.mpr nd,fun p hp=>hF p (pm.mem_iff.mp hp),fun u h=>?_,?_⟩
 ·rcases me u h with z | z
  ·exact .inl (pm.mem_iff.mpr z)
  ·exact .inr (pm.mem_iff.mpr z)
 ·show (dSeq _ (dSeq (dFor _ _ bdF) _) t0).bind zi3=_
  exact bnd ((zb5 E1).trans ((zb5 E2).trans (zm8 c3)))
def tcI (u:Nat×Nat) (p:Int):Bool:=decide ((u.1:Int)=p)||decide ((u.2:Int)=p)
def tieN (us:List (Nat×Nat)) (p:Int):List Int:=(zb0 us.length).filter fun k=>tcI (uA us k) p
def tI (p:Int):List (Nat×Nat)→Nat→List Int
 |[],_=>[]
 |u::l,i=>if tcI u p then (i:Int)::tI p l (i+1) else tI p l (i+1)
theorem in_tD {fa fb:DE}{t:Th}{p:Int}{u:Nat×Nat} (h1:fa t=some (.cl (.int p))) (h2:fb t=some (.cl (tD u))):dBo (d2 kIn fa fb) t=some (tcI u p):=by
 unfold dBo
 rw [zh6 h1 h2]
 simp [kIn,Ev.d,tD,pD,scD,eqOk,eqD,tcI]
theorem zas3 {p:Int}:∀(l:List (Nat×Nat)) (i:Nat) (s0 s1:Sl),zd7 ktT ftT (dVar 0) (zl7 i (l.map tD)) [s0,s1,.val (.int p)]=some ((tI p l i).map D.int)
 |[],i,s0,s1=>rfl
 |u::l,i,s0,s1=>by
  have e0:ktT (.tup [.int (i:Int),tD u]) [s0,s1,.val (.int p)]=some [.val (.int (i:Int)),.val (tD u),.val (.int p)]:=rfl
  have e1:ftT [.val (.int (i:Int)),.val (tD u),.val (.int p)]=some (tcI u p):=in_tD rfl rfl
  have ih:=zas3 (p:=p) l (i+1) (.val (.int (i:Int))) (.val (tD u))
  simp only [zav6,zl7,zd7,e0,zav0,e1]
  show _=some ((if tcI u p then (i:Int)::tI p l (i+1) else tI p l (i+1)).map D.int)
  cases c:tcI u p with
  |true=>rw [if_pos rfl,ih];rfl
  |false=>rw [if_neg (by decide),ih];rfl
theorem tI_eq {p:Int}:∀(l:List (Nat×Nat)) (i:Nat),tI p l i=((zay0 l.length).filter fun j=>tcI (l.getD j (0,0)) p).map fun j=>((i+j:Nat):Int)
 |[],i=>rfl
 |u::l,i=>by
  have ih:=tI_eq (p:=p) l (i+1)
  rw [zax7,zbh6,zbh0,List.filter_map]
  show (if tcI u p then (i:Int)::tI p l (i+1) else tI p l (i+1))=_
  rw [ih]
  have e:(List.map (fun j=>((i+j:Nat):Int)) (List.map Nat.succ (List.filter ((fun j=>tcI ((u::l).getD j (0,0)) p) ∘ Nat.succ) (zay0 l.length))))=List.map (fun j=>((i+1+j:Nat):Int)) (List.filter (fun j=>tcI (l.getD j (0,0)) p) (zay0 l.length)):=by
   rw [zbd3]
   refine zbc9 fun j _=>?_
   show ((i+(j+1):Nat):Int)=((i+1+j:Nat):Int)
   congr 1
   lia
  have e0:tcI ((u::l).getD 0 (0,0)) p=tcI u p:=rfl
  rw [e0]
  cases c:tcI u p with
  |true=>rw [if_pos rfl,if_pos rfl,zav6,e];rfl
  |false=>rw [if_neg (by decide),if_neg (by decide),e]
theorem tI_N (us:List (Nat×Nat)) (p:Int):tI p us 0=tieN us p:=by
 rw [tI_eq,tieN,zb0,List.filter_map]
 have:((fun k=>tcI (uA us k) p) ∘ fun (i:Nat)=>(i:Int))=fun j=>tcI (us.getD j (0,0)) p:=by
  funext j
  rfl
 first
  |rw [this];refine zbc9 fun j _=>?_;rw [zbf8]
  |(simp only [zbf8];rfl)
theorem ties_ex {M:Int}{us:List (Nat×Nat)} (hl:us.length≤50000) (p:Int):ze4 [.tup [.int M,.lst (us.map tD)],.int p]=some (.nw ((tieN us p).map D.int)):=by
 have e2:=zas3 (p:=p) us 0 .no .no
 rw [tI_N]at e2
 show (zp1 [.val (.tup [.int M,.lst (us.map tD)]),.val (.int p)]).bind zi3=_
 refine bnd (zm8 ?_)
 unfold zd1
 have e1:fsE (d2 kIx (dVar 0) (dC (.int 1))) [.val (.tup [.int M,.lst (us.map tD)]),.val (.int p)]=some (true,zl7 0 (us.map tD)):=rfl
 have ec:capD [.val (.tup [.int M,.lst (us.map tD)]),.val (.int p)] [1]=some (true,[.int p]):=rfl
 rw [e1,ec]
 simp only [zav0]
 rw [if_pos (by rw [zl6,zaw6];exact hl)]
 show (zd7 ktT ftT (dVar 0) (zl7 0 (us.map tD)) [.no,.no,.val (.int p)]).bind _=_
 rw [e2]
 rfl
def ssT (M:Nat) (us:List (Nat×Nat)):List (List Int):=(zb0 M).map (tieN us)
theorem zal9 (M:Nat) (us:List (Nat×Nat)):(ssT M us).length=M:=by simp [ssT,zb0]
theorem mem_tieN {us:List (Nat×Nat)}{p k:Int}:k∈tieN us p↔(0≤k∧k<(us.length:Int))∧(((uA us k).1:Int)=p∨((uA us k).2:Int)=p):=by
 unfold tieN tcI
 rw [zay5]
 simp only [zbe8,decide_eq_true_eq]
 exact⟨fun h=>⟨zf4 h.1,h.2⟩,fun h=>⟨zg9 h.1.1 h.1.2,h.2⟩⟩
theorem ssT_get {M:Nat}{us:List (Nat×Nat)}{p:Int} (h0:0≤p) (h1:p<(M:Int)):(ssT M us).getD p.toNat []=tieN us p:=by
 have:p.toNat<M:=by lia
 simp only [ssT,zb0,zav9,zay1,zbe5 this,zay6,zbh1]
 rw [zba2 h0]
theorem cv_T {M:Nat}{us:List (Nat×Nat)} (hu:okU M us):Cv us.length (ssT M us) where
 nd:=fun s hs=>by
  obtain⟨p,_,rfl⟩:=zax8.mp hs
  exact (zx1 _).filter _
 lt:=fun s hs x hx=>by
  obtain⟨p,_,rfl⟩:=zax8.mp hs
  exact (mem_tieN.mp hx).1
 all:=fun x x0 x1=>by
  have:=hu _ (zal2 x0 x1)
  exact⟨tieN us ((uA us x).1:Int),zax8.mpr ⟨((uA us x).1:Int),zg9 (by lia) (by lia),rfl⟩,mem_tieN.mpr ⟨⟨x0,x1⟩,.inl rfl⟩⟩
theorem meets_T {M:Nat}{us:List (Nat×Nat)}{X:List Int} (x0:∀p∈X,0≤p∧p<(M:Int)) (me:∀u∈us,(u.1:Int)∈X∨(u.2:Int)∈X) (x:Int) (h0:0≤x) (h1:x<(us.length:Int)):∃s∈X.map (tieN us),x∈s:=by
 rcases me _ (zal2 h0 h1) with z | z
 ·exact⟨_,zax8.mpr ⟨_,z,rfl⟩,mem_tieN.mpr ⟨⟨h0,h1⟩,.inl rfl⟩⟩
 ·exact⟨_,zax8.mpr ⟨_,z,rfl⟩,mem_tieN.mpr ⟨⟨h0,h1⟩,.inr rfl⟩⟩
theorem zal1 {u:Nat×Nat}{L:List Int} (h:nnL L) (hu:u.1<u.2) (h2:u.2<L.length) {j:Nat} (z:L.getD j 0=0):(lfC L u).getD j 0=0:=by
 have a:=zap5 h hu h2 j
 rw [zt2 hu h2]at a ⊢
 have p0:=prC_nn h u
 split
 ·rename_i c
  rw [if_pos c]at a
  lia
 ·exact z
theorem zab7 {M:Nat}:∀(us:List (Nat×Nat)) (s:List Int×List Int),s.1.length=M→nnL s.1→okU M us→(∀j,s.1.getD j 0=0→(us.foldl stC s).1.getD j 0=0)∧∀u∈us,(us.foldl stC s).1.getD u.1 0=0∨(us.foldl stC s).1.getD u.2 0=0
 |[],s,_,_,_=>⟨fun _ h=>h,fun u hu=>nomatch hu⟩
 |u::us,s,hs,hn,hu=>by
  have h1:=hu u (by simp)
  have l1:(stC s u).1.length=M:=by show (lfC s.1 u).length=M;rw [zx5,hs]
  have n1:nnL (stC s u).1:=zap5 hn h1.1 (by rw [hs];exact h1.2)
  obtain⟨i1,i2⟩:=zab7 us (stC s u) l1 n1 fun v hv=>hu v (zau8 _ hv)
  refine⟨fun j h=>i1 j (zal1 hn h1.1 (by rw [hs];exact h1.2) h),fun v hv=>?_⟩
  rcases zav5.mp hv with z | z
  ·subst z
   have e:prC s.1 v=s.1.getD v.1 0∨prC s.1 v=s.1.getD v.2 0:=by unfold prC;split;exact .inr rfl;exact .inl rfl
   rcases e with e | e
   ·exact .inl (i1 _ (by show (lfC s.1 v).getD v.1 0=0;rw [zt2 h1.1 (by rw [hs];exact h1.2),if_pos (.inl rfl)];lia))
   ·exact .inr (i1 _ (by show (lfC s.1 v).getD v.2 0=0;rw [zt2 h1.1 (by rw [hs];exact h1.2),if_pos (.inr rfl)];lia))
  ·exact i2 v z
theorem zas2 {M:Nat}{us:List (Nat×Nat)} (hu:okU M us):∀u∈us,(u.1:Int)∈cvN M us (zav7 M 1)∨(u.2:Int)∈cvN M us (zav7 M 1):=by
 have nn:nnL (zav7 M 1):=fun j=>by
  rw [zav9]
  by_cases h:j<M
  ·rw [zav4 (by simpa using h)];simp
  ·rw [zbd8 (by simpa using h)];exact zbm0 _
 obtain⟨_,h2⟩:=zab7 us (zav7 M 1,[]) (by simp) nn hu
 intro u h
 have hb:=hu u h
 have t1:zw5 us (u.1:Int)=true:=zbh2.mpr ⟨u,h,by simp⟩
 have t2:zw5 us (u.2:Int)=true:=zbh2.mpr ⟨u,h,by simp⟩
 rcases h2 u h with z | z
 ·exact .inl (zay5.mpr ⟨zg9 (by lia) (by lia),by rw [t1,zay9,decide_eq_true z];rfl⟩)
 ·exact .inr (zay5.mpr ⟨zg9 (by lia) (by lia),by rw [t2,zay9,decide_eq_true z];rfl⟩)
theorem cvN_rng {M:Nat}{us:List (Nat×Nat)}{ws:List Int}:(cvN M us ws).Nodup∧∀p∈cvN M us ws,0≤p∧p<(M:Int) :=
 ⟨(zx1 M).filter _,fun p hp=>zf4 (zay5.mp hp).1⟩
theorem zag1 {M:Nat}:∀ {X:List Int},(∀p∈X,0≤p∧p<(M:Int))→sumX X (zav7 M 1)=(X.length:Int)
 |[],_=>rfl
 |p::X,h=>by
  have i:=zag1 (X:=X) fun q hq=>h q (zau8 _ hq)
  have hp:=h p (by simp)
  unfold sumX at i ⊢
  rw [zav6,zba3,i,zav9,zav4 (by simp;lia)]
  simp
  lia
theorem pays_le {M:Nat}{us:List (Nat×Nat)}{ws X:List Int} (hu:okU M us) (hw:ws.length=M) (w0:∀w∈ws,0≤w) (nd:X.Nodup) (x0:∀p∈X,0≤p∧p<(M:Int)) (me:∀u∈us,(u.1:Int)∈X∨(u.2:Int)∈X):(us.foldl stC (ws,[])).2.sum≤sumX X ws:=by
 have nn:nnL ws:=fun j=>by
  rw [zav9]
  by_cases h:j<ws.length
  ·rw [zav4 h];exact w0 _ (zbb8 h)
  ·rw [zbd8 (by lia)];exact zbm0 _
 obtain⟨h1,h2⟩:=zai8 nd (fun p hp=>(x0 p hp).1) us (ws,[]) hw nn hu me
 have:=sumX_nn (X:=X) h2
 have z:([]:List Int).sum=0:=rfl
 show _≤sumX X (ws,([]:List Int)).1
 have h1:(us.foldl stC (ws,[])).2.sum+sumX X (us.foldl stC (ws,[])).1≤([]:List Int).sum+sumX X (ws,([]:List Int)).1:=h1
 lia
theorem calld {G:List D→Option Ev}{rs:List Ev}{d:D} (h:G (rs.map Ev.d)=some (.dn d)):zc8 G rs=some (.dn d):=by
 unfold zc8
 rw [h]
 simp only [zay6]
 unfold upEv
 split<;>rfl
theorem callt {G:List D→Option Ev}{rs:List Ev}{d:D} (h:G (rs.map Ev.d)=some (.tm d)) (ho:rs.all Ev.ok=true):zc8 G rs=some (.cl d):=by
 unfold zc8
 rw [h,ho]
 rfl
theorem bo_of {f:DE}{t:Th}{b:Bool} (h:f t=some (.cl (.bl b))):dBo f t=some b:=by
 unfold dBo
 rw [h]
 rfl
theorem compN_R {fe f:DE}{g:Int→D}{cap:List Nat}{t:Th}{r:Ev}{n:Nat}{b:Bool}{c:List D} (hf:f t=some r) (hr:r.d=.int (n:Int)) (hc:capD t cap=some (b,c)) (hl:n≤50000)
  (h2:∀x∈zb0 n,∃r,fe (.val (.int x)::c.map Sl.val)=some r∧toDn r=some (g x)):zh2 1 cap (fsR1 f) (za3 0) zc9 fe t=some (.dn (.lst ((zb0 n).map g))):=by
 unfold zh2
 have e1:fsR1 f t=some (true,(zb0 n).map D.int):=by
  unfold fsR1;rw [hf];simp only [zav0,hr]
  rw [if_pos (by unfold bigI;simp;lia), ← zag5]
  rfl
 have e2:zg4 (za3 0) zc9 fe ((zb0 n).map D.int) (Sl.no::c.map Sl.val)=some ((zb0 n).map g):=zaf4 (zb0 n) _ h2
 rw [e1,hc]
 simp only [zav0]
 rw [if_pos (by simpa [zb0] using hl)]
 show (zg4 (za3 0) zc9 fe ((zb0 n).map D.int) (Sl.no::c.map Sl.val)).map _=_
 rw [e2]
 rfl
theorem zao6 (xs:List Int):toDn (.nw (xs.map D.int))=some (rwD xs):=by
 show (if flats (xs.map D.int) then _ else _)=_
 rw [zc2]
 rfl
noncomputable def tR (N W:Sl) (ss:List (List Int)) (s3:Sl) (H:Hd) (m:Nat) (s5 s6 s7:Sl) (had:List Int) (s9 s10:Sl):Th:=[N,W,.own (ss.map rwD),s3,.val (.lst ((zb0 m).map fun x=>tP (shr H x))),s5,s6,s7,.own (had.map D.int),s9,s10,.no,.no,.no,.no]
theorem ne_tP {a b:Nat}{r1 r2:Ev} (h1:r1.d=tP a) (h2:r2.d=tP b) (e:a=b):kNe r1 r2=some (.cl (.bl false)):=by
 subst e
 unfold kNe
 rw [h1,h2]
 simp [tP,eqOk,eqD,eqDs]
theorem eq_nil {fa fb:DE}{t:Th}{r1 r2:Ev} (xs:List Int) (ha:fa t=some r1) (hb:fb t=some r2) (h1:r1.d=.lst (xs.map D.int)) (h2:r2.d=.lst []):dBo (d2 kEq fa fb) t=some xs.isEmpty:=by
 unfold dBo
 rw [zh6 ha hb]
 unfold kEq
 rw [h1,h2]
 cases xs<;>simp [eqOk,eqD,eqDs,Ev.d]
theorem turn_R {N W s3 s5 s6 s7 s10:Sl}{m:Nat} (hm:m≤400) {ss:List (List Int)} (c:Cv m ss) {hd H:Hd} (h:HI m ss hd) (h0:0<mxL (lnS hd ss)) (hH:HI m ss H) (sub:∀p∈adS hd ss,p∈H):∃u10,bdR (tR N W ss s3 H m s5 s6 s7 (hd.map Prod.fst) (.val (.int (bst hd ss:Int))) s10)=some (.nx (tR N W ss s3 H m s5 s6 s7 ((adS hd ss).map Prod.fst) (.val (.int (bst hd ss:Int))) u10)):=by
 have ne:ss≠[]:=fun z=>by rw [z]at h0;simp [lnS,mxL]at h0
 have bl:=zac8 (hd:=hd) ne
 have bm:=zy6 (hd:=hd) ne
 have ble:=zy7 (hd:=hd) ne
 let nw:=nwS hd (ss.getD (bst hd ss) [])
 let t0:=tR N W ss s3 H m s5 s6 s7 (hd.map Prod.fst) (.val (.int (bst hd ss:Int))) s10
 obtain⟨r,er,hr⟩:=zam2 (fa:=dVar 2) (fb:=dVar 9) (t:=t0) (i:=(bst hd ss:Int)) (M:=ss) (r1:=.tm (mD ss)) rfl rfl rfl (by lia) (by lia)
 have ln:nw.length≤400:=zax3 (zay2 _ _) (zax3 (c.len bm) hm)
 have a1:(zd1 1 [8] (fsL (d2 kIx (dVar 2) (dVar 9))) (za3 0) (dBo (d2 kNin (dVar 0) (dVar 1))) (dVar 0)) t0=some (.nw (nw.map D.int)) :=
  zu2 (e:=D.int) (p:=fun x=>decide (x∉hd.map Prod.fst)) (g:=D.int) (xs:=ss.getD (bst hd ss) []) (b:=false) (c:=[.lst ((hd.map Prod.fst).map D.int)]) er hr rfl (by have:=c.len bm;lia)
   (fun x _=>(zaa3 x (hd.map Prod.fst) (rfl:dVar 0 _=some (.cl (.int x))) (rfl:dVar 1 _=some (.cl (.lst ((hd.map Prod.fst).map D.int)))) rfl rfl).trans (by rw [decide_not])) (fun x _ _=>⟨.cl (.int x),rfl,rfl⟩) (.inl (zc2 _))
 have E1:=zn1 (i:=10) a1 (by simp [t0,tR])
 let t1:=tR N W ss s3 H m s5 s6 s7 (hd.map Prod.fst) (.val (.int (bst hd ss:Int))) (.own (nw.map D.int))
 have c1:=eq_nil (fa:=dVar 10) (fb:=dT1 kLst dNil) (t:=t1) (r1:=.tm (.lst (nw.map D.int))) (r2:=.nw []) nw rfl rfl rfl rfl
 have nwe:nw.isEmpty=false:=by
  cases q:nw with
  |nil =>
   have:nw.length=0:=by rw [q];rfl
   have ble:nw.length=_:=ble
   lia
  |cons _ _=>rfl
 rw [nwe]at c1
 have a2:(zd1 1 [4,10] (fsL (dVar 10)) (za3 0) (dBo (d2 kNe (d2 kIx (dVar 1) (dVar 0)) (dT1 kTup (za2 (dC (.int 1)) (za2 (dT1 kLen (za2 (dVar 2) dNil)) dNil))))) (dVar 0)) t1=some (.nw ((nw.filter fun _=>false).map D.int)) :=
  zu2 (e:=D.int) (p:=fun _=>false) (g:=D.int) (xs:=nw) (r:=.tm (.lst (nw.map D.int))) (b:=false) (c:=[.lst ((zb0 m).map fun x=>tP (shr H x)),.lst (nw.map D.int)]) rfl rfl rfl (by lia)
   (fun x hx=>by
    obtain⟨xs,xn⟩:=mem_nwS.mp hx
    obtain⟨x0,x1⟩:=c.lt _ bm x xs
    have ei:∃q,(d2 kIx (dVar 1) (dVar 0)) [.val (.int x),.val (.lst ((zb0 m).map fun x=>tP (shr H x))),.val (.lst (nw.map D.int))]=some q∧q.d=tP (shr H x):=by
     rw [zh6 (rfl:dVar 1 _=some (.cl (.lst ((zb0 m).map fun x=>tP (shr H x))))) (rfl:dVar 0 _=some (.cl (.int x)))]
     unfold kIx
     have ea:atI ((zb0 m).map fun x=>tP (shr H x)) x=some (tP (shr H x)):=by
      unfold atI
      have:ixN ((zb0 m).map fun x=>tP (shr H x)).length x=some x.toNat:=by
       have:=zab0 ((zb0 m).map fun x=>tP (shr H x)).length x.toNat (by simp [zb0];lia)
       rwa [zba2 x0]at this
      rw [this]
      have h':x.toNat<m:=by lia
      simp only [zav0,zb0,zay1,zbe5 h',zay6]
      rw [zba2 x0]
     show ∃q,((atI ((zb0 m).map fun x=>tP (shr H x)) x).map _)=some q∧_
     rw [ea]
     refine⟨_,rfl,?_⟩
     dsimp only
     split<;>rfl
    obtain⟨q,e1,e2⟩:=ei
    have el:=zt4 (f:=dVar 2) (t:=[.val (.int x),.val (.lst ((zb0 m).map fun x=>tP (shr H x))),.val (.lst (nw.map D.int))]) (r:=.cl (.lst (nw.map D.int))) (xs:=nw) rfl rfl
    have et:=(zk5 (k:=kTup) (rfl:dC (.int 1) [.val (.int x),.val (.lst ((zb0 m).map fun x=>tP (shr H x))),.val (.lst (nw.map D.int))]=some (.cl (.int 1))) el).trans (rfl:_=some (Ev.cl (tP nw.length)))
    have es:shr H x=nw.length:=by
     have ble:nw.length=_:=ble
     rw [ble]
     exact shr_of hH.ak.nd (sub _ (zau6 _ (zax8.mpr ⟨x,hx,rfl⟩)))
    exact bo_of ((zh6 e1 et).trans (ne_tP e2 rfl es))) (fun x _ h=>nomatch h) (.inl (zc2 _))
 rw [zba5.mpr fun _ _=>by simp]at a2
 have c2:dBo (d2 kNe (zd1 1 [4,10] (fsL (dVar 10)) (za3 0) (dBo (d2 kNe (d2 kIx (dVar 1) (dVar 0)) (dT1 kTup (za2 (dC (.int 1)) (za2 (dT1 kLen (za2 (dVar 2) dNil)) dNil))))) (dVar 0)) (dT1 kLst dNil)) t1=some false:=zah7 [] a2 (rfl:dT1 kLst dNil t1=some (.nw [])) rfl rfl
 have E2:(dIfS (dOr (dBo (d2 kEq (dVar 10) (dT1 kLst dNil))) (dBo (d2 kNe (zd1 1 [4,10] (fsL (dVar 10)) (za3 0) (dBo (d2 kNe (d2 kIx (dVar 1) (dVar 0)) (dT1 kTup (za2 (dC (.int 1)) (za2 (dT1 kLen (za2 (dVar 2) dNil)) dNil))))) (dVar 0)) (dT1 kLst dNil)))) (dRet (dC (.bl false))) zl8) t1=some (.nx t1):=grd (or_of2 c1 c2) rfl
 have hl:hd.length≤m:=by simpa using h.ak.len
 have a3:=cat_of (fa:=dVar 8) (fb:=dVar 10) (t:=t1) (r1:=.tm (.lst ((hd.map Prod.fst).map D.int))) (r2:=.tm (.lst (nw.map D.int))) (xs:=hd.map Prod.fst) (ys:=nw) rfl rfl rfl rfl (by rw [zaw6];lia)
 have E3:=zn1 (i:=8) a3 (by simp [t1,tR])
 refine⟨.own (nw.map D.int),(zb5 E1).trans ((zb5 E2).trans (E3.trans ?_))⟩
 rw [zn0]
 rfl
theorem loop_R {N W s3 s5 s6 s7:Sl}{m:Nat} (hm:m≤400) {ss:List (List Int)} (c:Cv m ss) {H:Hd} (hH:HI m ss H):∀(n:Nat) (hd:Hd) (s9 s10:Sl),HI m ss hd→(∀p∈finH m ss n hd,p∈H)→∃had u9 u10,forD (za3 9) bdR ((rstH m ss n hd).map D.int) (tR N W ss s3 H m s5 s6 s7 (hd.map Prod.fst) s9 s10)=some (.nx (tR N W ss s3 H m s5 s6 s7 had u9 u10))
 |0,hd,s9,s10,h,_=>⟨_,s9,s10,rfl⟩
 |n+1,hd,s9,s10,h,sub=>by
  unfold finH at sub
  unfold rstH
  by_cases hl:hd.length<m
  ·rw [if_pos hl]at sub ⊢
   have h0:=h.some_new c hl
   obtain⟨h1,_⟩:=h.step c h0
   obtain⟨u10,e⟩:=turn_R (N:=N) (W:=W) (s3:=s3) (s5:=s5) (s6:=s6) (s7:=s7) (s10:=s10) hm c h h0 hH fun p hp=>sub p (zaq6 n _ p hp)
   obtain⟨had,v9,v10,i⟩:=loop_R (N:=N) (W:=W) (s3:=s3) (s5:=s5) (s6:=s6) (s7:=s7) hm c hH n (adS hd ss) (.val (.int (bst hd ss:Int))) u10 h1 sub
   refine⟨had,v9,v10,?_⟩
   rw [zav6]
   exact (zaq5 (t1:=tR N W ss s3 H m s5 s6 s7 (hd.map Prod.fst) (.val (.int (bst hd ss:Int))) s10) rfl e).trans i
  ·rw [if_neg hl]
   exact⟨_,s9,s10,rfl⟩
theorem app_nw {t:Th}{f:DE}{i:Nat}{xs ys:List D} (hf:f t=some (.nw ys)) (hi:t[i]?=some (.own xs)) (hl:xs.length<100000):dApp i f t=some (.nx (t.set i (.own (xs++[.lst ys])))):=by
 unfold dApp
 rw [hf]
 simp [kApp,hi,hl,Ev.ok,Ev.d]
structure CvP (M:Nat) (us:List (Nat×Nat)) (X:List Int):Prop where
 nd:X.Nodup
 x0:∀p∈X,0≤p∧p<(M:Int)
 me:∀u∈us,(u.1:Int)∈X∨(u.2:Int)∈X
theorem CvP.le {M:Nat}{us:List (Nat×Nat)}{X:List Int} (h:CvP M us X) (hu:okU M us) {B:Nat} (hB':∀s∈ssT M us,s.length≤B) (hBM:B≤us.length) (n:Nat):(rstH us.length (ssT M us) n []).length*hB B≤hA B*X.length:=by
 have:=zas9 (cv_T hu) hB' hBM (cs:=X.map (tieN us)) (fun s hs=>by
  obtain⟨p,hp,rfl⟩:=zax8.mp hs
  have:=h.x0 p hp
  exact zax8.mpr ⟨p,zg9 this.1 this.2,rfl⟩) (fun x h0 h1=>meets_T h.x0 h.me x h0 h1) n
 rwa [zaw6]at this
theorem law_true (ns:List Int) (hl:ns.length≤63) (hb:∀n∈ns,n.natAbs<bndS):G_law [.lst (ns.map D.int)]=some (.cl (.bl true)):=by
 let N:Sl:=.val (.lst (ns.map D.int))
 let t0:Th:=[N,.no,.no,.no,.no,.no,.no,.no,.no,.no,.no,.no,.no,.no,.no]
 obtain⟨M1,us1,N0,N7,vl,hv,ew⟩:=web_is ns hb
 have e1:(dT1 (zc8 zj7) (za2 (dVar 0) (za2 (dC (.int 1)) (za2 (dC (.int 7)) dNil)))) t0=some (.cl (.tup [.int (M1:Int),.lst (us1.map tD)])):=by
  rw [t3_of (rfl:dVar 0 t0=some (.cl (.lst (ns.map D.int)))) (rfl:dC (.int 1) t0=some (.cl (.int 1))) (rfl:dC (.int 7) t0=some (.cl (.int 7)))]
  unfold zc8
  rw [show zj7 ([Ev.cl (.lst (ns.map D.int)),.cl (.int 1),.cl (.int 7)].map Ev.d)=_ from ew]
  rfl
 have E1:=zp5 (i:=1) e1 (by simp [t0])
 obtain⟨M,us,M0,M7,ul,hu,u0,E2⟩:∃(M:Nat) (us:List (Nat×Nat)),0<M∧M≤7∧us.length≤49∧okU M us∧0<us.length∧(dIfS (dBo (d2 kEq (d2 kIx (dVar 1) (dC (.int 1))) (dT1 kLst dNil))) (dAsg 1 (dT1 kTup (za2 (dC (.int 2)) (za2 (dT1 kLst (za2 (dT1 kTup (za2 (dC (.int 0)) (za2 (dC (.int 1)) dNil))) dNil)) dNil)))) zl8) [N,.val (.tup [.int (M1:Int),.lst (us1.map tD)]),.no,.no,.no,.no,.no,.no,.no,.no,.no,.no,.no,.no,.no]=some (.nx [N,.val (.tup [.int (M:Int),.lst (us.map tD)]),.no,.no,.no,.no,.no,.no,.no,.no,.no,.no,.no,.no,.no]):=by
  cases us1 with
  |nil=>exact⟨2,[(0,1)],by decide,by decide,by decide,fun u h=>by rw [zax0]at h;subst h;decide,by decide,(ifs_t (b:=true) rfl rfl).trans rfl⟩
  |cons u us1=>exact⟨M1,u::us1,N0,N7,vl,hv,by simp,grd (b:=false) rfl rfl⟩
 let W:Sl:=.val (.tup [.int (M:Int),.lst (us.map tD)])
 let t2:Th:=[N,W,.no,.no,.no,.no,.no,.no,.no,.no,.no,.no,.no,.no,.no]
 let ss:=ssT M us
 have sl:ss.length=M:=zal9 M us
 have a3:(zd1 1 [1] (fsR1 (d2 kIx (dVar 1) (dC (.int 0)))) (za3 0) zc9 (dT1 (zc8 ze4) (za2 (dVar 1) (za2 (dVar 0) dNil)))) t2=some (.nw (ss.map rwD)):=by
  have:=zai7 (p:=fun _=>true) (g:=fun x=>rwD (tieN us x)) (ft:=zc9) (fe:=dT1 (zc8 ze4) (za2 (dVar 1) (za2 (dVar 0) dNil))) (t:=t2) (f:=d2 kIx (dVar 1) (dC (.int 0))) (r:=.cl (.int (M:Int))) (n:=M) (b:=true) (cap:=[1]) (c:=[.tup [.int (M:Int),.lst (us.map tD)]]) rfl rfl rfl (by lia) (fun _ _=>rfl)
   (fun x _ _=>⟨_,(zk5 (rfl:dVar 1 _=some (.cl (.tup [.int (M:Int),.lst (us.map tD)]))) (rfl:dVar 0 _=some (.cl (.int x)))).trans (calln (G:=ze4) (rs:=[.cl (.tup [.int (M:Int),.lst (us.map tD)]),.cl (.int x)]) (ties_ex (by lia) x)),rfl⟩) (.inr rfl)
  rw [this,zba4.mpr fun _ _=>rfl]
  simp [ss,ssT,Function.comp_def]
 have E3:=zn1 (i:=2) a3 (by simp [t2])
 let S2:Sl:=.own (ss.map rwD)
 let t3:Th:=[N,W,S2,.no,.no,.no,.no,.no,.no,.no,.no,.no,.no,.no,.no]
 have a4:(zh2 1 [1] (fsR1 (d2 kIx (dVar 1) (dC (.int 0)))) (za3 0) zc9 (zd1 1 [0,1] (fsR1 (dT1 kLen (za2 (d2 kIx (dVar 1) (dC (.int 1))) dNil))) (za3 0) (dBo (d2 kIn (dVar 1) (d2 kIx (d2 kIx (dVar 2) (dC (.int 1))) (dVar 0)))) (dVar 0))) t3=some (.dn (mD ss)):=by
  have:=compN_R (g:=fun x=>rwD (tieN us x)) (fe:=(zd1 1 [0,1] (fsR1 (dT1 kLen (za2 (d2 kIx (dVar 1) (dC (.int 1))) dNil))) (za3 0) (dBo (d2 kIn (dVar 1) (d2 kIx (d2 kIx (dVar 2) (dC (.int 1))) (dVar 0)))) (dVar 0))) (t:=t3) (f:=d2 kIx (dVar 1) (dC (.int 0))) (r:=.cl (.int (M:Int))) (n:=M) (b:=true) (cap:=[1]) (c:=[.tup [.int (M:Int),.lst (us.map tD)]]) rfl rfl rfl (by lia)
   (fun x _=>⟨.nw ((tieN us x).map D.int),zai7 (p:=fun k=>tcI (uA us k) x) (g:=D.int) (n:=us.length) (b:=true) (c:=[.int x,.tup [.int (M:Int),.lst (us.map tD)]]) (zx6 (f:=d2 kIx (dVar 1) (dC (.int 1))) (t:=[.val (.int x),.val (.tup [.int (M:Int),.lst (us.map tD)])]) (r:=.cl (.lst (us.map tD))) rfl rfl) rfl rfl (by lia)
    (fun k hk=>by
     obtain⟨k0,k1⟩:=zf4 hk
     obtain⟨_,_,_,_,ei⟩:=ixT_of (fa:=d2 kIx (dVar 2) (dC (.int 1))) (fb:=dVar 0) (t:=[.val (.int k),.val (.int x),.val (.tup [.int (M:Int),.lst (us.map tD)])]) (r1:=.cl (.lst (us.map tD))) (r2:=.cl (.int k)) (us:=us) (a:=k) rfl rfl rfl rfl k0 k1
     exact in_tD (rfl:dVar 1 _=some (.cl (.int x))) ei) (fun k _ _=>⟨.cl (.int k),rfl,rfl⟩) (.inl (zc2 _)),zao6 _⟩)
  rw [this]
  simp [mD,ss,ssT,Function.comp_def]
 have E4:(dIfS (dBo (d2 kNe (dVar 2) (zh2 1 [1] (fsR1 (d2 kIx (dVar 1) (dC (.int 0)))) (za3 0) zc9 (zd1 1 [0,1] (fsR1 (dT1 kLen (za2 (d2 kIx (dVar 1) (dC (.int 1))) dNil))) (za3 0) (dBo (d2 kIn (dVar 1) (d2 kIx (d2 kIx (dVar 2) (dC (.int 1))) (dVar 0)))) (dVar 0))))) (dRet (dC (.bl false))) zl8) t3=some (.nx t3):=grd (b:=false) (bo_of ((zh6 (rfl:dVar 2 t3=some (.tm (mD ss))) a4).trans (ne_mD ss rfl rfl))) rfl
 have a5:(zh2 1 [] (fsL (dVar 2)) (za3 0) zc9 (dT1 zaa7 (za2 (dVar 0) dNil))) t3=some (.dn (mD ss)):=zar7 (e:=rwD) (g:=rwD) (r:=.tm (mD ss)) (xs:=ss) (b:=true) (c:=[]) rfl rfl rfl (by lia) (fun s _=>⟨.nw (s.map D.int),zap4 (r:=.cl (rwD s)) (xs:=s) rfl rfl,zao6 s⟩)
 have cT:=cv_T hu
 have ue:us.length≤400:=by lia
 have ch1:=zas8 ue cT (by rw [zal9];lia)
 let H:=(ze6 us.length ss).1
 let ch:=(ze6 us.length ss).2
 have ec:ze6 us.length ss=(finH us.length ss 500 [],rstH us.length ss 500 []):=by
  show chs us.length ss 500 [] []=_
  rw [chs_eq,List.nil_append]
 have eH:H=finH us.length ss 500 []:=by show (ze6 us.length ss).1=_;rw [ec]
 have eC:ch=rstH us.length ss 500 []:=by show (ze6 us.length ss).2=_;rw [ec]
 have ne:ss≠[]:=cT.ne u0
 have cr:=zam0 (M:=us.length) (ss:=ss) ne 500 []
 have cn:=(rst_nd cT 500 [] (HI.nil _ _)).1
 obtain⟨hH,lH⟩:=zas7 cT 500 [] [] (HI.nil us.length ss) (by simp;lia)
 have hH:HI us.length ss H:=hH
 have cP:CvP M us ch:=by
  refine⟨by rw [eC];exact cn,fun p hp=>?_,fun u hu'=>?_⟩
  ·rw [eC]at hp
   have:=cr p hp
   rw [sl]at this
   exact this
  ·obtain⟨i,hi,e⟩:=zbi2.mp hu'
   have hx:=zw3 ue cT (i:Int) (by lia) (by lia)
   have hx:(i:Int)∈(finH us.length ss 500 []).map Prod.fst:=by
    rw [← eH];exact hx
   rcases zam1 500 [] hx with z | ⟨k,hk,z⟩
   ·exact nomatch z
   ·have kr:=cr k hk
    rw [sl]at kr
    rw [ssT_get kr.1 kr.2]at z
    have:=(mem_tieN.mp z).2
    have eu:uA us (i:Int)=u:=by
     unfold uA
     rw [zay9,zav9,zav4 hi,e]
     rfl
    rw [eu]at this
    rw [eC]
    rcases this with y | y
    ·exact .inl (y ▸ hk)
    ·exact .inr (y ▸ hk)
 have cl:ch.length≤7:=by
  have:=zp6 cP.nd (C:=zb0 M) (fun p hp=>zg9 (cP.x0 p hp).1 (cP.x0 p hp).2)
  rw [zi1]at this
  lia
 let S3:Sl:=.val (.lst (ch.map D.int))
 let S4:Sl:=.val (.lst ((zb0 us.length).map fun x=>tP (shr H x)))
 let t5:Th:=[N,W,S2,S3,S4,.no,.no,.no,.no,.no,.no,.no,.no,.no,.no]
 have a6:=(zk5 (zx6 (f:=d2 kIx (dVar 1) (dC (.int 1))) (t:=t3) (r:=.cl (.lst (us.map tD))) rfl rfl) a5).trans (callt (G:=ze1) (rs:=[.cl (.int (us.length:Int)),.dn (mD ss)]) ch1 rfl)
 have E5:zp3 (zj4 2 (zc3 (za3 3) (zc3 (za3 4) zk3))) (dT1 (zc8 ze1) (za2 (dT1 kLen (za2 (d2 kIx (dVar 1) (dC (.int 1))) dNil)) (za2 (zh2 1 [] (fsL (dVar 2)) (za3 0) zc9 (dT1 zaa7 (za2 (dVar 0) dNil))) dNil))) t3=some (.nx t5):=by
  unfold zp3
  rw [a6]
  rfl
 let o1:List Int:=zav7 M 1
 have r6:=repn_of (fa:=dT1 kLst (za2 (dC (.int 1)) dNil)) (fb:=d2 kIx (dVar 1) (dC (.int 0))) (t:=t5) (x:=1) (m:=M) rfl rfl (by lia)
 have e6:=(zk5 (rfl:dVar 1 t5=some (.cl (.tup [.int (M:Int),.lst (us.map tD)]))) r6).trans (calld (G:=zd6) (rs:=[.cl (.tup [.int (M:Int),.lst (us.map tD)]),.nw (o1.map D.int)]) (cover_is (M:=M) (us:=us) (ws:=o1) (by lia) (by simp [o1]) (by lia) hu))
 let cv:=cvN M us o1
 let pr:=(us.foldl stC (o1,[])).2
 let S5:Sl:=.val (.lst (cv.map D.int))
 let S6:Sl:=.val (.lst (pr.map D.int))
 let t6:Th:=[N,W,S2,S3,S4,S5,S6,.no,.no,.no,.no,.no,.no,.no,.no]
 have E6:zp3 (zj4 2 (zc3 (za3 5) (zc3 (za3 6) zk3))) (dT1 (zc8 zd6) (za2 (dVar 1) (za2 (d2 qM (dT1 kLst (za2 (dC (.int 1)) dNil)) (d2 kIx (dVar 1) (dC (.int 0)))) dNil))) t5=some (.nx t6):=by
  unfold zp3
  rw [e6]
  rfl
 have a7:(zd1 1 [3] (fsL (d2 kIx (dVar 1) (dC (.int 1)))) (za3 0) (dAnd (dBo (d2 kNin (d2 kIx (dVar 0) (dC (.int 0))) (dVar 1))) (dBo (d2 kNin (d2 kIx (dVar 0) (dC (.int 1))) (dVar 1)))) (dVar 0)) t6=some (.nw ((us.filter fun _=>false).map tD)) :=
  zu2 (e:=tD) (p:=fun _=>false) (g:=tD) (xs:=us) (r:=.cl (.lst (us.map tD))) (b:=true) (c:=[.lst (ch.map D.int)]) rfl rfl rfl (by lia)
   (fun u hu'=>by
    have h1:=zaa3 (u.1:Int) ch (fa:=d2 kIx (dVar 0) (dC (.int 0))) (fb:=dVar 1) (t:=[.val (tD u),.val (.lst (ch.map D.int))]) (r1:=.cl (.int (u.1:Int))) (r2:=.cl (.lst (ch.map D.int))) rfl rfl rfl rfl
    have h2:=zaa3 (u.2:Int) ch (fa:=d2 kIx (dVar 0) (dC (.int 1))) (fb:=dVar 1) (t:=[.val (tD u),.val (.lst (ch.map D.int))]) (r1:=.cl (.int (u.2:Int))) (r2:=.cl (.lst (ch.map D.int))) rfl rfl rfl rfl
    refine (zy9 h1 h2).trans ?_
    rcases cP.me u hu' with z | z
    ·rw [decide_eq_true z];rfl
    ·rw [decide_eq_true z,Bool.not_true,zbi5]) (fun u _ h=>nomatch h) (.inl (zy1 _))
 rw [zba5.mpr fun _ _=>by simp]at a7
 have E7:=zn1 (i:=7) a7 (by simp [t6])
 let S7:Sl:=.own []
 let t7:Th:=[N,W,S2,S3,S4,S5,S6,S7,.no,.no,.no,.no,.no,.no,.no]
 have c8:dBo (d2 kNe (dVar 7) (dT1 kLst dNil)) t7=some false:=zah7 [] (rfl:dVar 7 t7=some (.tm (.lst []))) (rfl:dT1 kLst dNil t7=some (.nw [])) rfl rfl
 have c9:=lt_of (zt4 (f:=dVar 3) (t:=t7) (r:=.cl (.lst (ch.map D.int))) (xs:=ch) rfl rfl) (sum_of (f:=dVar 6) (t:=t7) (r:=.cl (.lst (pr.map D.int))) (xs:=pr) rfl rfl)
 have pl:pr.sum≤(ch.length:Int):=by
  have:=pays_le (ws:=o1) hu (by simp [o1]) (fun w hw=>by have:=List.eq_of_mem_replicate hw;lia) cP.nd cP.x0 cP.me
  rw [zag1 cP.x0]at this
  exact this
 rw [decide_eq_false (by lia)]at c9
 have E8:dIfS (dOr (dBo (d2 kNe (dVar 7) (dT1 kLst dNil))) (dBo (d2 qL (dT1 kLen (za2 (dVar 3) dNil)) (dT1 kSum (za2 (dVar 6) dNil))))) (dRet (dC (.bl false))) zl8 t7=some (.nx t7):=grd (or_of2 c8 c9) rfl
 have E9:dAsg 8 (dT1 kLst dNil) t7=some (.nx (tR N W ss S3 H us.length S5 S6 S7 [] .no .no)):=rfl
 obtain⟨had,u9,u10,e10⟩:=loop_R (N:=N) (W:=W) (s3:=S3) (s5:=S5) (s6:=S6) (s7:=S7) ue cT hH 500 [] .no .no (HI.nil _ _) (fun p hp=>by rw [eH];exact hp)
 have E10:dFor (za3 9) (dVar 3) bdR (tR N W ss S3 H us.length S5 S6 S7 [] .no .no)=some (.nx (tR N W ss S3 H us.length S5 S6 S7 had u9 u10)):=(zaq3 (r:=.cl (.lst (ch.map D.int))) rfl rfl rfl).trans (by rw [eC];exact e10)
 let t10:Th:=tR N W ss S3 H us.length S5 S6 S7 had u9 u10
 let B:=mxL (ss.map List.length)
 have nl:ss.map List.length≠[]:=fun z=>ne (zbe6.mp z)
 have hB':∀s∈ssT M us,s.length≤B:=fun s hs=>zai0 (zax8.mpr ⟨s,hs,rfl⟩)
 have hBM:B≤us.length:=mxL_le fun a ha=>by
  obtain⟨s,hs,rfl⟩:=zax8.mp ha
  exact cT.len hs
 have a11:(zd1 1 [] (fsL (dVar 2)) (za3 0) zc9 (dT1 kLen (za2 (dVar 0) dNil))) t10=some (.nw (((ss.map List.length).map fun (n:Nat)=>(n:Int)).map D.int)):=by
  have:=zu2 (e:=rwD) (p:=fun _=>true) (g:=fun s=>D.int (s.length:Int)) (ft:=zc9) (fe:=dT1 kLen (za2 (dVar 0) dNil)) (t:=t10) (f:=dVar 2) (r:=.tm (mD ss)) (xs:=ss) (cap:=[]) (b:=true) (c:=[]) rfl rfl rfl (by lia)
   (fun _ _=>rfl) (fun s _ _=>⟨_,zt4 (xs:=s) (rfl:dVar 0 _=some (.cl (rwD s))) rfl,rfl⟩) (.inl (by rw [zba4.mpr fun _ _=>rfl,show (ss.map fun s=>D.int (s.length:Int))=(ss.map fun s=>(s.length:Int)).map D.int by simp];exact zc2 _))
  rw [this,zba4.mpr fun _ _=>rfl]
  simp [Function.comp_def]
 have b11:=zaq8 (r:=.nw (((ss.map List.length).map fun (n:Nat)=>(n:Int)).map D.int)) a11 rfl (by rw [zaw6,zaw6];lia)
 rw [top_mx nl]at b11
 have d11:=(zz3 b11).trans (callc (G:=zi0) (rs:=[.cl (.int (B:Int))]) (zaf0 (n:=B) (by lia)) rfl)
 let S11:Sl:=.val (.int (hA B:Int))
 let S12:Sl:=.val (.int (hB B:Int))
 let S8:Sl:=.own (had.map D.int)
 let t11:Th:=[N,W,S2,S3,S4,S5,S6,S7,S8,u9,u10,S11,S12,.no,.no]
 have E11:zp3 (zj4 2 (zc3 (za3 11) (zc3 (za3 12) zk3))) (dT1 (zc8 zi0) (za2 (dT1 (zaa8 zl2) (za2 (zd1 1 [] (fsL (dVar 2)) (za3 0) zc9 (dT1 kLen (za2 (dVar 0) dNil))) dNil)) dNil)) t10=some (.nx t11):=by
  unfold zp3
  rw [d11]
  rfl
 have E12:dAsg 13 (dT1 kLst (za2 (dVar 5) dNil)) t11=some (.nx [N,W,S2,S3,S4,S5,S6,S7,S8,u9,u10,S11,S12,.own ([cv].map rwD),.no]):=rfl
 have cvP:CvP M us cv:=⟨cvN_rng.1,cvN_rng.2,zas2 hu⟩
 obtain⟨kk,hk,ek⟩:∃kk:Nat,kk≤41∧(d2 qA (dC (.int 1)) (dT1 qN (za2 (dC (.int 40)) (za2 (dT1 kLen (za2 (dVar 0) dNil)) dNil)))) [N,W,S2,S3,S4,S5,S6,S7,S8,u9,u10,S11,S12,.own ([cv].map rwD),.no]=some (.cl (.int (kk:Int))):=by
  have l:=zt4 (f:=dVar 0) (t:=[N,W,S2,S3,S4,S5,S6,S7,S8,u9,u10,S11,S12,.own ([cv].map rwD),.no]) (r:=.cl (.lst (ns.map D.int))) (xs:=ns) rfl rfl
  have mi:=(zk5 (k:=k2I fun i j=>if j<i then j else i) (rfl:dC (.int 40) _=some (.cl (.int 40))) l).trans (rfl:_=some (Ev.cl (.int (if (ns.length:Int)<40 then (ns.length:Int) else 40))))
  have:=zk4 (fa:=dC (.int 1)) (a:=1) rfl mi
  refine⟨(1+(if (ns.length:Int)<40 then (ns.length:Int) else 40)).toNat,by split<;>lia,?_⟩
  rw [this,zba2 (by split<;>lia)]
 obtain⟨t13,e13,XX,u14,xl,xP,rfl⟩:=zaq4 (k:=za3 14) (b:=bdO) (n:=kk) (f:=fun (j:Nat)=>D.int (j:Int)) (P:=fun j t => ∃(XX:List (List Int)) (u14:Sl),XX.length=1+j∧(∀X∈XX,CvP M us X)∧t=[N,W,S2,S3,S4,S5,S6,S7,S8,u9,u10,S11,S12,.own (XX.map rwD),u14]) (fun j hj t ⟨XX,u14,xl,xP,et⟩=>by
  subst et
  let t1:Th:=[N,W,S2,S3,S4,S5,S6,S7,S8,u9,u10,S11,S12,.own (XX.map rwD),.val (.int (j:Int))]
  obtain⟨bs,bl,_,eb⟩:=zy5 ns hb (9+j) M (by lia) (by lia) (q:=2) (by decide) (by decide)
  have a1:=zk4 (fa:=dC (.int 9)) (fb:=dVar 14) (t:=t1) (a:=9) (b:=(j:Int)) rfl rfl
  rw [show (9:Int)+(j:Int)=((9+j:Nat):Int) by lia]at a1
  have r1:=(t4_of (rfl:dVar 0 t1=some (.cl (.lst (ns.map D.int)))) a1 (rfl:(d2 kIx (dVar 1) (dC (.int 0))) t1=some (.cl (.int (M:Int)))) (rfl:dC (.int 2) t1=some (.cl (.int 2)))).trans eb
  obtain⟨X,nd,x0,me,ex⟩:=zam4 M7 ul hu bl
  have r2:=(zk5 (rfl:dVar 1 t1=some (.cl (.tup [.int (M:Int),.lst (us.map tD)]))) r1).trans (calln (G:=zh3) (rs:=[.cl (.tup [.int (M:Int),.lst (us.map tD)]),.nw (bs.map D.int)]) ex)
  have A:bdO t1=some (.nx [N,W,S2,S3,S4,S5,S6,S7,S8,u9,u10,S11,S12,.own ((XX++[X]).map rwD),.val (.int (j:Int))]):=by
   have:=app_nw (i:=13) (t:=t1) (xs:=XX.map rwD) r2 rfl (by rw [zaw6];lia)
   rw [zbc3]
   exact this
  refine⟨t1,_,rfl,A,XX++[X],_,by rw [zax2,zay8];lia,fun Y hY=>?_,rfl⟩
  rcases zav2.mp hY with z | z
  ·exact xP Y z
  ·rw [zax0.mp z];exact⟨nd,x0,me⟩) [N,W,S2,S3,S4,S5,S6,S7,S8,u9,u10,S11,S12,.own ([cv].map rwD),.no] ⟨[cv],.no,by simp,fun X hX=>by rw [zax0.mp hX];exact cvP,rfl⟩
 have E13:zv2 (za3 14) (d2 qA (dC (.int 1)) (dT1 qN (za2 (dC (.int 40)) (za2 (dT1 kLen (za2 (dVar 0) dNil)) dNil)))) bdO [N,W,S2,S3,S4,S5,S6,S7,S8,u9,u10,S11,S12,.own ([cv].map rwD),.no]=_:=(zad9 (n:=kk) ek rfl (by lia)).trans ((congrArg (fun l=>forD (za3 14) bdO l _) (show (zb0 kk).map D.int=(zay0 kk).map fun (j:Nat)=>D.int (j:Int) by simp [zb0,Function.comp_def])).trans e13)
 let t13:Th:=[N,W,S2,S3,S4,S5,S6,S7,S8,u9,u10,S11,S12,.own (XX.map rwD),u14]
 have fb:=zy2 (n:=B) (by lia)
 have sA:sm (hA B:Int)=true:=smN (zaz4 (zax3 (Nat.div_le_self _ _) (hm_le B)) fb.1)
 have sB:sm (hB B:Int)=true:=smN (zaz4 (Nat.div_le_self _ _) fb.2)
 have a14:(zd1 1 [12,11,3] (fsL (dVar 13)) (za3 0) (dBo (d2 qG (d2 qM (dT1 kLen (za2 (dVar 3) dNil)) (dVar 1)) (d2 qM (dVar 2) (dT1 kLen (za2 (dVar 0) dNil))))) (dVar 0)) t13=some (.nw ((XX.filter fun _=>false).map rwD)) :=
  zu2 (e:=rwD) (p:=fun _=>false) (g:=rwD) (xs:=XX) (r:=.tm (mD XX)) (b:=true) (c:=[.int (hB B:Int),.int (hA B:Int),.lst (ch.map D.int)]) rfl rfl rfl (by lia)
   (fun X hX=>by
    have P:=xP X hX
    let tt:Th:=[.val (rwD X),.val (.int (hB B:Int)),.val (.int (hA B:Int)),.val (.lst (ch.map D.int))]
    have Xl:X.length≤M:=by
     have:=zp6 P.nd (C:=zb0 M) (fun p hp=>zg9 (P.x0 p hp).1 (P.x0 p hp).2)
     rwa [zi1]at this
    have m1:=zm9 (zt4 (f:=dVar 3) (t:=tt) (r:=.cl (.lst (ch.map D.int))) (xs:=ch) rfl rfl) (rfl:dVar 1 tt=some (.cl (.int (hB B:Int)))) (zm5 (by lia) (by lia)) sB
    have m2:=zm9 (rfl:dVar 2 tt=some (.cl (.int (hA B:Int)))) (zt4 (f:=dVar 0) (t:=tt) (r:=.cl (rwD X)) (xs:=X) rfl rfl) sA (zm5 (by lia) (by lia))
    refine (gt_of m1 m2).trans ?_
    have le:=P.le hu hB' hBM 500
    rw [← eC]at le
    rw [decide_eq_false (by
     have:((ch.length*hB B:Nat):Int)≤((hA B*X.length:Nat):Int):=by lia
     rw [zbf1,zbf1]at this
     lia)]) (fun X _ h=>nomatch h) (.inl (by rw [zba5.mpr fun _ _=>by simp];rfl))
 rw [zba5.mpr fun _ _=>by simp]at a14
 have E14:=zm8 ((zh6 (k:=kEq) a14 (rfl:dT1 kLst dNil t13=some (.nw []))).trans (rfl:kEq (.nw []) (.nw [])=some (.cl (.bl true))))
 show (g_law t0).bind zi3=_
 exact bnd ((zb5 E1).trans ((zb5 E2).trans ((zb5 E3).trans ((zb5 E4).trans ((zb5 E5).trans ((zb5 E6).trans ((zb5 E7).trans ((zb5 E8).trans ((zb5 E9).trans ((zb5 E10).trans ((zb5 E11).trans ((zb5 E12).trans ((zb5 E13).trans E14)))))))))))))
end KX
set_option maxHeartbeats 4000000
namespace KX
open PySem.Spec L2 DL
def spLaw (K:zau7):Sp:=spD K G_law
theorem all_mk {P:Program}{w:World}{K:zau7}{h:Heap}{mg:Str→Option Value}{fa:Addr} (X:K.In h) (G:h.Ns mainGlobals mg) (hfa:mg "law"=some (.ref fa)) {f0:Addr}{f1:Addr}{f2:Addr}{f3:Addr}{f4:Addr}{f5:Addr}{f6:Addr}{f7:Addr}{f8:Addr}{f9:Addr}{f10:Addr}{f11:Addr}{f12:Addr}
  (h0:Hv K "common_factor" zf9 f0)
  (h1:Hv K "fraction" zm1 f1)
  (h2:Hv K "harmonic" zm0 f2)
  (h3:Hv K "lacking_things" zf1 f3)
  (h4:Hv K "choose_by_new" zg0 f4)
  (h5:Hv K "ties_of" zo0 f5)
  (h6:Hv K "cover_by_price" zf2 f6)
  (h7:Hv K "_law_cell_at" zh8 f7)
  (h8:Hv K "_law_mixed" zk0 f8)
  (h9:Hv K "_law_row" zo2 f9)
  (h10:Hv K "_law_web" zo1 f10)
  (h11:Hv K "_law_put_on" zi4 f11)
  (h12:Hv K "law" s_law f12)
  (z_abs:zbb1 K mainGlobals "abs"=some none) (z_enumerate:zbb1 K mainGlobals "enumerate"=some none) (z_len:zbb1 K mainGlobals "len"=some none) (z_list:zbb1 K mainGlobals "list"=some none) (z_max:zbb1 K mainGlobals "max"=some none) (z_min:zbb1 K mainGlobals "min"=some none) (z_range:zbb1 K mainGlobals "range"=some none) (z_sorted:zbb1 K mainGlobals "sorted"=some none) (z_sum:zbb1 K mainGlobals "sum"=some none)   :
  TbOk K []∧∃fd:FuncData,(∀(s:zaw0) (v:Value),BindsTo s fd ⟨[v],[]⟩ [("_law_script",v)])∧∀base:BHeap,base.tabs=tbOf K []→K.In base→base.Ns mainGlobals mg→(∀x∈([]:List Str),∀c P,zbo2 K x=some (c,P)→zbn1 base c P)→FnOk P w K mg base CX0 4 fa fd ["_law_script"] (spLaw K):=by
 have e:=hfa.symm.trans (h12.mg X G)
 cases e
 have bu:Blt mg:=⟨zay4 X G z_abs,zay4 X G z_enumerate,zay4 X G z_len,zay4 X G z_list,zay4 X G z_max,zay4 X G z_min,zay4 X G z_range,zay4 X G z_sorted,zay4 X G z_sum⟩
 obtain⟨_,u0⟩:=h0.fn
 have d0:Df K mg "common_factor" zf9 ["one", "other"] f0 _:=⟨u0,h0.mg X G,zr6 u0 fun _ _ _ _ _ _ _ _=>rfl⟩
 obtain⟨_,u1⟩:=h1.fn
 have d1:Df K mg "fraction" zm1 ["top", "bottom"] f1 _:=⟨u1,h1.mg X G,zr6 u1 fun _ _ _ _ _ _ _ _=>rfl⟩
 obtain⟨_,u2⟩:=h2.fn
 have d2:Df K mg "harmonic" zm0 ["many"] f2 _:=⟨u2,h2.mg X G,binds1 u2 fun _ _ _ _ _ _ _=>rfl⟩
 obtain⟨_,u3⟩:=h3.fn
 have d3:Df K mg "lacking_things" zf1 ["many", "sets", "numbers"] f3 _:=⟨u3,h3.mg X G,binds3 u3 fun _ _ _ _ _ _ _ _ _=>rfl⟩
 obtain⟨_,u4⟩:=h4.fn
 have d4:Df K mg "choose_by_new" zg0 ["many", "sets"] f4 _:=⟨u4,h4.mg X G,zr6 u4 fun _ _ _ _ _ _ _ _=>rfl⟩
 obtain⟨_,u5⟩:=h5.fn
 have d5:Df K mg "ties_of" zo0 ["web", "point"] f5 _:=⟨u5,h5.mg X G,zr6 u5 fun _ _ _ _ _ _ _ _=>rfl⟩
 obtain⟨_,u6⟩:=h6.fn
 have d6:Df K mg "cover_by_price" zf2 ["web", "weights"] f6 _:=⟨u6,h6.mg X G,zr6 u6 fun _ _ _ _ _ _ _ _=>rfl⟩
 obtain⟨_,u7⟩:=h7.fn
 have d7:Df K mg "_law_cell_at" zh8 ["_law_script", "_law_k"] f7 _:=⟨u7,h7.mg X G,zr6 u7 fun _ _ _ _ _ _ _ _=>rfl⟩
 obtain⟨_,u8⟩:=h8.fn
 have d8:Df K mg "_law_mixed" zk0 ["_law_cell", "_law_k"] f8 _:=⟨u8,h8.mg X G,zr6 u8 fun _ _ _ _ _ _ _ _=>rfl⟩
 obtain⟨_,u9⟩:=h9.fn
 have d9:Df K mg "_law_row" zo2 ["_law_script", "_law_at", "_law_many", "_law_top"] f9 _:=⟨u9,h9.mg X G,binds4 u9 fun _ _ _ _ _ _ _ _ _ _=>rfl⟩
 obtain⟨_,u10⟩:=h10.fn
 have d10:Df K mg "_law_web" zo1 ["_law_script", "_law_at", "_law_most"] f10 _:=⟨u10,h10.mg X G,binds3 u10 fun _ _ _ _ _ _ _ _ _=>rfl⟩
 obtain⟨_,u11⟩:=h11.fn
 have d11:Df K mg "_law_put_on" zi4 ["_law_web_here", "_law_bits"] f11 _:=⟨u11,h11.mg X G,zr6 u11 fun _ _ _ _ _ _ _ _=>rfl⟩
 obtain⟨_,u12⟩:=h12.fn
 have d12:Df K mg "law" s_law ["_law_script"] fa _:=⟨u12,h12.mg X G,binds1 u12 fun _ _ _ _ _ _ _=>rfl⟩
 refine⟨tbOk_nil,_,Hv.bt u12 fun _ _ _ _ _ _ _=>rfl,fun base ht _ _ hCd=>?_⟩
 have F_common_factor:=zr9 (P:=P) (w:=w) (base:=base) d0.fn bu
 have F_fraction:=zae5 (P:=P) (w:=w) (base:=base) d1.fn bu (d0.cal F_common_factor)
 have F_harmonic:=zae4 (P:=P) (w:=w) (base:=base) d2.fn bu (d1.cal F_fraction)
 have F_lacking_things:=zq1 (P:=P) (w:=w) (base:=base) d3.fn bu
 have F_choose_by_new:=zs0 (P:=P) (w:=w) (base:=base) d4.fn bu (d3.cal F_lacking_things)
 have F_ties_of:=zak0 (P:=P) (w:=w) (base:=base) d5.fn bu
 have F_cover_by_price:=zq2 (P:=P) (w:=w) (base:=base) d6.fn bu (d5.cal F_ties_of)
 have F_law_cell_at:=zv1 (P:=P) (w:=w) (base:=base) d7.fn bu
 have F_law_mixed:=zaa1 (P:=P) (w:=w) (base:=base) d8.fn bu
 have F_law_row:=zak2 (P:=P) (w:=w) (base:=base) d9.fn bu (d7.cal F_law_cell_at) (d8.cal F_law_mixed)
 have F_law_web:=zak1 (P:=P) (w:=w) (base:=base) d10.fn bu (d9.cal F_law_row)
 have F_law_put_on:=zx0 (P:=P) (w:=w) (base:=base) d11.fn bu
 have F_law:=ok_law (P:=P) (w:=w) (base:=base) d12.fn bu (d10.cal F_law_web) (d5.cal F_ties_of) (d4.cal F_choose_by_new) (d6.cal F_cover_by_price) (d2.cal F_harmonic) (d9.cal F_law_row) (d11.cal F_law_put_on)
 exact F_law
theorem walk {l:zbk5}{q:Program}{loose:List Str}{XP:(Str→Option Value)→Heap→Prop}{YP:World→Heap→Prop}{d:DefRec}{K:Params→zau7} (hn:l.most=some 63) (hdf:d.params.defaults=[])
  (hY:∀(w:World) (h:Heap),YP w h→(K w.params).In h) (hrec:∀x∈([]:List Str),∃dr,(recsOf q).find? (fun e=>e.name == x)=some dr)
  (Fx:∀(w:World) (mg:Str→Option Value) (fa:Addr) (h:Heap),(K w.params).In h→h.Ns mainGlobals mg→mg d.name=some (.ref fa) →
   TbOk (K w.params) []∧∃fd:FuncData,(∀(s:zaw0) (u:Value),BindsTo s fd ⟨[u],[]⟩ [("_law_script",u)])∧∀base:BHeap,base.tabs=tbOf (K w.params) []→(K w.params).In base→base.Ns mainGlobals mg→(∀x∈([]:List Str),∀c P,zbo2 (K w.params) x=some (c,P)→zbn1 base c P)→FnOk l.prog w (K w.params) mg base CX0 4 fa fd ["_law_script"] (spLaw (K w.params))) :
  zbo0 q loose XP YP l.row.toRowW d [] (fun f vs=>PySem.call f vs) :=
 L2.walk_ofT (n:=63) (k:=4) (x := "_law_script") (names:=[]) (CX:=fun _=>CX0) (sp:=fun w=>spLaw (K w.params)) hn (by decide) hdf ⟨rfl,by decide,by decide⟩ hY hrec Fx
  (fun _ H a ns hl hb hS=>⟨[],[.lst (ns.map .int)],.cl (.bl true),fun p hp=>(by cases hp),.cons (.lst (by rw [hide_nil];exact hS) (Reps.ints ns)) .nil,law_true ns hl hb,fun v H' _ q=>by cases q;rfl⟩) fun _ _ _ _ _ z=>z
end KX
open PySem PySem.W PyProof.Rows
set_option maxRecDepth 100000 in
set_option maxHeartbeats 0 in
theorem PySem.Challenge.cw_nearenough_k57_whole_points_as_sets_holds : PySem.Challenge.rw_nearenough_k57_whole_points_as_sets.Holds := by
 w_on;o_law;k_head;(case hw=>w_witness2)
 k_fill
 refine KX.walk (l:=PySem.Challenge.rw_nearenough_k57_whole_points_as_sets) rfl rfl (fun w h Y=>by first | exact PySem.W.kIn_of Y | exact PySem.W.km_in_of Y) (by intro x hx;simp at hx) ?F
 case F =>
  intro w mg fa h KI G hmg
  refine' KX.all_mk KI G hmg ?h0 ?h1 ?h2 ?h3 ?h4 ?h5 ?h6 ?h7 ?h8 ?h9 ?h10 ?h11 ?h12 ?z_abs ?z_enumerate ?z_len ?z_list ?z_max ?z_min ?z_range ?z_sorted ?z_sum
  all_goals try (refine' DL.Hv.mk ?a ?l ?c ?k;(case a=>k_is);(case l=>k_is);(case c=>k_is);(case k=>k_is))
  all_goals try k_is

