import PyProof.Rows.All
import Wide.All
import OpenK.AllK
import Wide.FinOn
import PyProof.EqAt
import PyProof.EqKinds
import PyProof.TupleCall
import Lean
import PySem.Challenge.RW_strongboxes_k21_the_first_stand
set_option Elab.async false
set_option linter.all false
set_option maxRecDepth 100000
set_option maxHeartbeats 4000000
def PySem.W.Fast.tw9616138140072519223:Nat:=0
def PySem.W.Fast.tw4296587056826475432:Nat:=0
def PySem.W.Fast.tw4163024730863196268:Nat:=0
def PySem.W.Fast.tw18005271017167697650:Nat:=0
def PySem.W.Fast.tw13233379103108079286:Nat:=0
def PySem.W.Fast.tw17997783560827532023:Nat:=0
def PySem.W.Fast.tw14228510186165916797:Nat:=0
def PySem.W.Fast.tw17332000584514496201:Nat:=0
def PySem.W.Fast.tw9209705157747334068:Nat:=0
def PySem.W.Fast.tw13733593438986538114:Nat:=0
def PySem.W.Fast.tw10793023186851426214:Nat:=0
def PySem.W.Fast.tw457743256957085060:Nat:=0
def PySem.W.Fast.tw17890088665135768285:Nat:=0
def PySem.W.Fast.tw18323824300785230326:Nat:=0
def PySem.W.Fast.tw8073057459689853731:Nat:=0
def PySem.W.Fast.tw11530821034585712752:Nat:=0
def PySem.W.Fast.tw17449601993121821911:Nat:=0
def PySem.W.Fast.tw10201024787897559161:Nat:=0
def PySem.W.Fast.tw13194727641742323975:Nat:=0
def PySem.W.Fast.tw13674668744052455400:Nat:=0
def PySem.W.Fast.tw4623882758083939839:Nat:=0
def PySem.W.Fast.tw14514896937153236781:Nat:=0
def PySem.W.Fast.tw18410548095003635800:Nat:=0
def PySem.W.Fast.tw3695772546847038122:Nat:=0
def PySem.W.Fast.tw10020781559678019587:Nat:=0
def PySem.W.Fast.tw7820784869532492030:Nat:=0
def PySem.W.Fast.tw14580911670778749270:Nat:=0
def PySem.W.Fast.tw17390139564147599538:Nat:=0
def PySem.W.Fast.tw7264946000849653868:Nat:=0
def PySem.W.Fast.tw3515069402895230283:Nat:=0
def PySem.W.Fast.tw14694924892151613436:Nat:=0
def PySem.W.Fast.tw5225878906911364567:Nat:=0
def PySem.W.Fast.tw8048158314202118898:Nat:=0
def PySem.W.Fast.tw7301521847742850895:Nat:=0
def PySem.W.Fast.tw6597761911480151995:Nat:=0
def PySem.W.Fast.tw2104703448319014865:Nat:=0
def PySem.W.Fast.tw17949031102086506581:Nat:=0
def PySem.W.Fast.tw196321358617916927:Nat:=0
def PySem.W.Fast.tw4806468212674650332:Nat:=0
def PySem.W.Fast.tw9178796686658709621:Nat:=0
def PySem.W.Fast.tw1004941217927248291:Nat:=0
def PySem.W.Fast.tw17282703334180060628:Nat:=0
def PySem.W.Fast.tw14917442281926927769:Nat:=0
def PySem.W.Fast.tw12125021273426107973:Nat:=0
def PySem.W.Fast.tw16757215230259237794:Nat:=0
def PySem.W.Fast.tw17469704325490636395:Nat:=0
def PySem.W.Fast.tw7454895369458433538:Nat:=0
def PySem.W.Fast.tw12710235291782059068:Nat:=0
def PySem.W.Fast.tw14332563978920478139:Nat:=0
def PySem.W.Fast.tw7653570292138132129:Nat:=0
def PySem.W.Fast.tw8568973733166276521:Nat:=0
def PySem.W.Fast.tw1897037709406625349:Nat:=0
def PySem.W.Fast.tw9729039527250859333:Nat:=0
def PySem.W.Fast.tw1248161392345676423:Nat:=0
def PySem.W.Fast.tw125646272945307820:Nat:=0
def PySem.W.Fast.tw14853927669076436096:Nat:=0
def PySem.W.Fast.tw14923657686810165184:Nat:=0
def PySem.W.Fast.tw10288131884302195010:Nat:=0
def PySem.W.Fast.tw4103813206312118451:Nat:=0
def PySem.W.Fast.tw17616072638545264562:Nat:=0
def PySem.W.Fast.tw5582555046088387617:Nat:=0
def PySem.W.Fast.tw16665698168947825644:Nat:=0
def PySem.W.Fast.tw17947276583960073179:Nat:=0
def PySem.W.Fast.tw17810663087812106720:Nat:=0
def PySem.W.Fast.tw16311597721850931857:Nat:=0
def PySem.W.Fast.tw14813024469104726064:Nat:=0
def PySem.W.Fast.tw4653794122007495990:Nat:=0
def PySem.W.Fast.tw2632471575884661281:Nat:=0
def PySem.W.Fast.tw8534525278502424906:Nat:=0
def PySem.W.Fast.tw7605598502179453551:Nat:=0
def PySem.W.Fast.tw9503777018501947957:Nat:=0
def PySem.W.Fast.tw3187313797771843916:Nat:=0
def PySem.W.Fast.tw6846378643307503548:Nat:=0
def PySem.W.Fast.tw17355038166840313273:Nat:=0
def PySem.W.Fast.tw16100198138699124588:Nat:=0
def PySem.W.Fast.tw17805999756350761888:Nat:=0
def PySem.W.Fast.tw12338545617869295926:Nat:=0
def PySem.W.Fast.tw16232516466024382874:Nat:=0
def PySem.W.Fast.tw18383698223710112106:Nat:=0
def PySem.W.Fast.tw9445240134768648780:Nat:=0
def PySem.W.Fast.tw2387175704668933978:Nat:=0
def PySem.W.Fast.tw4214566540111850348:Nat:=0
def PySem.W.Fast.tw4468158587637563342:Nat:=0
def PySem.W.Fast.tw12821797318226469759:Nat:=0
def PySem.W.Fast.tw5895781359331934112:Nat:=0
def PySem.W.Fast.tw3774655199278771906:Nat:=0
def PySem.W.Fast.tw17351140772679598466:Nat:=0
def PySem.W.Fast.tw15969712675475632906:Nat:=0
def PySem.W.Fast.tw14213868706521055495:Nat:=0
def PySem.W.Fast.tw13679105336809761785:Nat:=0
def PySem.W.Fast.tw2927554139014824232:Nat:=0
def PySem.W.Fast.tw12265650429605479676:Nat:=0
def PySem.W.Fast.tw6240360109211430151:Nat:=0
def PySem.W.Fast.tw5864287716303508715:Nat:=0
def PySem.W.Fast.tw4206073611059261428:Nat:=0
def PySem.W.Fast.tw6166134987805585871:Nat:=0
def PySem.W.Fast.tw7016488419217699482:Nat:=0
def PySem.W.Fast.tw9954920941254297510:Nat:=0
def PySem.W.Fast.tw8676091567268243944:Nat:=0
def PySem.W.Fast.tw15831280625486141928:Nat:=0
def PySem.W.Fast.tw9204585514174289442:Nat:=0
def PySem.W.Fast.tw9109829385531366013:Nat:=0
def PySem.W.Fast.tw8916395534289639758:Nat:=0
def PySem.W.Fast.tw84293621349925704:Nat:=0
def PySem.W.Fast.tw7928016866422155027:Nat:=0
def PySem.W.Fast.tw6246886729045792342:Nat:=0
def PySem.W.Fast.tw4574425186710026882:Nat:=0
def PySem.W.Fast.tw355689736662537465:Nat:=0
def PySem.W.Fast.tw3296329027832189059:Nat:=0
def PySem.W.Fast.tw1679511628459312766:Nat:=0
def PySem.W.Fast.tw14536501135704915300:Nat:=0
def PySem.W.Fast.tw10340832087982279809:Nat:=0
def PySem.W.Fast.tw2376835326266679690:Nat:=0
def PySem.W.Fast.tw1449752772248727183:Nat:=0
def PySem.W.Fast.tw15439496972353518529:Nat:=0
def PySem.W.Fast.tw5974552696869280422:Nat:=0
def PySem.W.Fast.tw1978895761168671420:Nat:=0
def PySem.W.Fast.tw16223842211970861875:Nat:=0
def PySem.W.Fast.tw15493574347279842020:Nat:=0
def PySem.W.Fast.tw11903710894992569868:Nat:=0
namespace L2
open PySem PySem.Spec PyProof.Rows
abbrev Key:=Sum Int Str
def Gq:Key->Value->Bool
  | .inl k,v=>Value.isInt k v
  | .inr x,v=>Value.isStrOf x v
def UK (w:World):Key->Int
  | .inl k=>hashInt k
  | .inr x=>hashStr w x
theorem A8:∀ {k:Key} {v:Value},Gq k v=true->(∃ i t,k=Sum.inl i /\ v=Value.int i t) ∨ (∃ x t,k=Sum.inr x /\ v=Value.str x t)
  | .inl i,v,h=>by
    obtain ⟨t,e⟩:=Value.isInt_shape (k:=i) (v:=v) h
    exact .inl ⟨i,t,rfl,e⟩
  | .inr x,v,h=>by
    obtain ⟨t,e⟩:=Value.isStrOf_shape (x:=x) (v:=v) h
    exact .inr ⟨x,t,rfl,e⟩
theorem Le (i:Int) (t:Tok):Gq (.inl i) (.int i t)=true:=by simp [Gq,Value.isInt]
theorem Ld (x:Str) (t:Tok):Gq (.inr x) (.str x t)=true:=by simp [Gq,Value.isStrOf]
theorem Ru (a b:Int):decide ((Sum.inl a:Key)=Sum.inl b)=(a == b):=by
  by_cases e:a=b
  . subst e; simp
  . have h : ¬ (Sum.inl a:Key)=Sum.inl b:=fun q=>e (Sum.inl.inj q)
    rw [decide_eq_false h]
    exact (beq_eq_false_iff_ne.mpr e).symm
theorem Rr (a b:Str):decide ((Sum.inr a:Key)=Sum.inr b)=decide (a=b):=by
  by_cases e:a=b
  . subst e; simp
  . have h : ¬ (Sum.inr a:Key)=Sum.inr b:=fun q=>e (Sum.inr.inj q)
    rw [decide_eq_false h,decide_eq_false e]
theorem Rt (a:Int) (b:Str):decide ((Sum.inl a:Key)=Sum.inr b)=false:=decide_eq_false (fun q=>nomatch q)
theorem Rs (a:Str) (b:Int):decide ((Sum.inr a:Key)=Sum.inl b)=false:=decide_eq_false (fun q=>nomatch q)
def BY (prog:Program) (w:World):PySem.KeyKind prog w Key where
  is:=Gq
  hash:=UK w
  inj:=fun v a b ha hb=>by
    rcases A8 ha with ⟨i,t,rfl,rfl⟩ | ⟨x,t,rfl,rfl⟩
    . rcases A8 hb with ⟨j,u,rfl,e⟩ | ⟨y,u,rfl,e⟩
      . injection e with e1 _; rw [e1]
      . exact nomatch e
    . rcases A8 hb with ⟨j,u,rfl,e⟩ | ⟨y,u,rfl,e⟩
      . exact nomatch e
      . injection e with e1 _; rw [e1]
  byValue:=fun k v h=>by
    rcases A8 h with ⟨i,t,rfl,rfl⟩ | ⟨x,t,rfl,rfl⟩ <;> rfl
  pyHash:=fun hv h=>by
    rcases A8 hv with ⟨i,t,rfl,rfl⟩ | ⟨x,t,rfl,rfl⟩
    . exact wpAny_pyHash_int h
    . exact wpAny_pyHash_str h
  eqBool:=fun hu hv h=>by
    rcases A8 hu with ⟨i,t,rfl,rfl⟩ | ⟨x,t,rfl,rfl⟩
    . rcases A8 hv with ⟨j,u,rfl,rfl⟩ | ⟨y,u,rfl,rfl⟩
      . rw [Ru] at h; exact wpAny_eqBool_int h
      . rw [Rt] at h; exact SeqAt.EqAt.int_str i t y u _ _ _ _ h
    . rcases A8 hv with ⟨j,u,rfl,rfl⟩ | ⟨y,u,rfl,rfl⟩
      . rw [Rs] at h; exact SeqAt.EqAt.str_int x t j u _ _ _ _ h
      . rw [Rr] at h; exact wpAny_eqBool_str h
  «strs»:=fun k x t v h=>by
    rcases A8 h with ⟨i,u,rfl,e⟩ | ⟨y,u,rfl,e⟩
    . exact nomatch e
    . injection e with e1 _
      subst e1
      cases v <;> rfl
theorem Ic (prog:Program) (w:World) (i:Int) (t:Tok):(BY prog w).is (.inl i) (.int i t)=true:=Le i t
theorem Ib (prog:Program) (w:World) (x:Str) (t:Tok):(BY prog w).is (.inr x) (.str x t)=true:=Ld x t
end L2
namespace L2
open PySem PySem.Spec PyProof.Rows
inductive V where
  | non | bl (b:Bool) | int (i:Int) | str (x:Str) | byt (b:Array UInt8) | flt (b:UInt64) | ref (a:Addr) | ty (n:String)
  deriving DecidableEq
def RelV:V->Value->Prop
  | .non,u=>u=Value.none
  | .bl b,u=>u=Value.bool b
  | .int i,u=>∃ t,u=Value.int i t
  | .str x,u=>∃ t,u=Value.str x t
  | .byt b,u=>∃ t,u=Value.bytes b t
  | .flt b,u=>∃ t,u=Value.float b t
  | .ref a,u=>u=Value.ref a
  | .ty n,u=>u=Value.type n
abbrev Vals:List V->List Value->Prop:=Paired RelV
theorem Vals.length {xs:List V} {us:List Value} (r:Vals xs us):xs.length=us.length:=Paired.length r
theorem Vals.get:∀ {xs:List V} {us:List Value} {i:Nat} {x:V},Vals xs us->xs[i]? = some x->∃ u,us[i]? = some u /\ RelV x u
  | _,_,_,_,.nil,e=>by simp at e
  | _,_,0,_,.cons r _,e=>by simp at e; subst e; exact ⟨_,rfl,r⟩
  | _,_,i + 1,x,.cons _ t,e=>by
    obtain ⟨u,h1,h2⟩:=Vals.get (i:=i) (x:=x) t (by simpa using e)
    exact ⟨u,by simpa using h1,h2⟩
theorem Vals.set {x:V} {u:Value} (r:RelV x u):∀ {xs:List V} {us:List Value} (i:Nat),Vals xs us->Vals (xs.set i x) (us.set i u)
  | _,_,_,.nil=>.nil
  | _,_,0,.cons _ t=>.cons r t
  | _,_,i + 1,.cons q t=>.cons q (Vals.set r i t)
theorem Vals.append:∀ {xs ys:List V} {us ws:List Value},Vals xs us->Vals ys ws->Vals (xs ++ ys) (us ++ ws)
  | _,_,_,_,.nil,s=>s
  | _,_,_,_,.cons r t,s=>.cons r (Vals.append t s)
theorem Vals.take:∀ {xs:List V} {us:List Value} (n:Nat),Vals xs us->Vals (xs.take n) (us.take n)
  | _,_,0,_=>.nil
  | _,_,_ + 1,.nil=>.nil
  | _,_,n + 1,.cons r t=>.cons r (Vals.take n t)
theorem Vals.drop:∀ {xs:List V} {us:List Value} (n:Nat),Vals xs us->Vals (xs.drop n) (us.drop n)
  | _,_,0,r=>r
  | _,_,_ + 1,.nil=>.nil
  | _,_,n + 1,.cons _ t=>Vals.drop n t
def RelO:Option V->Option Value->Prop
  | some v,some u=>RelV v u
  | none,none=>True
  | _,_=>False
def KV {κ:Type}:List (κ × V)->List (κ × Value)->Prop:=Paired fun (p:κ × V) (q:κ × Value)=>p.1=q.1 /\ RelV p.2 q.2
def kV:Key->V
  | .inl i=>.int i
  | .inr x=>.str x
inductive HO where
  | lst (xs:List V)
  | tup (xs:List V)
  | dK (kvs:List (Key × V)) | dT (kvs:List (List Key × V))
  | set (S:Int->Bool) (n:Nat)
  | ins (C dx:Addr) (fs:List (Str × V))
  | own (x:Addr)
  | xd (fs:List (Str × V))
  | met (f x:Addr)
  | rng (lo hi:Int)
  | frz (o:Obj) (u:HO)
  | tbl (ps:Array Value)
  | ext (φ:Heap->Prop)
abbrev Hp:=Addr->Option HO
def upd (H:Hp) (a:Addr) (o:HO):Hp:=fun b=>if b=a then some o else H b
theorem At {H:Hp} {a:Addr} {o:HO}:upd H a o a=some o:=by unfold upd; rw [if_pos rfl]
theorem Al {H:Hp} {a b:Addr} {o:HO} (h:b ≠ a):upd H a o b=H b:=by unfold upd; rw [if_neg h]
theorem TW {H:Hp} {a b:Addr} {o u:HO} (h:H a=some o) (h':H b=some u) (d:o ≠ u):a ≠ b:=by
  intro e; subst e; rw [h] at h'; exact d (Option.some.inj h')
theorem Bp {H:Hp} {a b:Addr} {o:HO} (h:H a=some o) (h':H b=none):a ≠ b:=by
  intro e; subst e; rw [h] at h'; cases h'
section
variable (P:Program) (w:World)
def ObjOk (H:Hp) (h:Heap) (a:Addr):HO->Prop
  | .lst xs=>xs.length <= sizeLine /\ ∃ (its:List Value) (n:Nat),Vals xs its /\ h.get? a=some { cls:=.type "list",data:=.seq its.toArray n }
  | .tup xs=>xs.length <= sizeLine /\ ∃ its:List Value,Vals xs its /\ IsTup h a its.toArray
  | .dK kvs=>kvs.length <= sizeLine /\ (a == sysModules)=false /\ ∃ vs,KV kvs vs /\ h.DictOf (BY P w) a vs
  | .dT kvs=>kvs.length <= sizeLine /\ (a == sysModules)=false /\ ∃ xs:List (List Key × Addr × Value),
      Paired (fun (p:List Key × V) (q:List Key × Addr × Value)=>p.1=q.1 /\ H q.2.1=some (.tup (p.1.map kV)) /\ RelV p.2 q.2.2) kvs xs /\
      ∃ o es ep,h.get? a=some o /\ o.ExactDict /\ o.data=.dict es ep /\ es.toList=xs.map (entryOfKey (tupleKind (BY P w))) /\ (xs.map (·.1)).Nodup
  | .set S n=>h.SetOf (intKind P w) a S n
  | .ins C dx fs=>H dx=some (.own a) /\ fs.length <= 1000 /\ dx ≠ a /\ h.get? a=some (PySem.W.instObj C dx) /\
      ∃ mA,h.Ns1 dx mA /\ (∀ f,RelO (fs.lookup f) (mA f)) /\ PySem.Within mA (fs.map (·.1))
  | .own _=>∃ o,h.get? a=some o
  | .xd fs=>∃ mA,h.Ns1 a mA /\ ∀ f,RelO (fs.lookup f) (mA f)
  | .rng lo hi=>∃ t u v,h.get? a=some { cls:=.type "range",data:=.fields #[.int lo t,.int hi u,.int 1 v] }
  | .frz o u=>h.get? a=some o /\ ObjOk H h a u
  | .tbl ps=>h.get? a=some { cls:=.none,data:=.fields ps }
  | .met f x=>h.get? a=some (PySem.W.methodObj (.ref f) (.ref x))
  | .ext φ=>φ h /\ (∃ o,h.get? a=some o) /\ ∀ h1 h2:Heap,φ h1->(∀ o,h1.get? a=some o->h2.get? a=some o)->φ h2
def HOk (H:Hp) (h:Heap):Prop:=∀ a o,H a=some o->ObjOk P w H h a o
end
section
variable {P:Program} {w:World} {H H':Hp} {h h':Heap} {a:Addr} {o:HO}
theorem ObjOk.lt (x:ObjOk P w H h a o):a < h.objs.size:=by
  cases o with
  | lst xs=>obtain ⟨_,_,_,_,e⟩:=x; exact Heap.lt_size e
  | tup xs=>obtain ⟨_,_,_,p⟩:=x; exact p.lt
  | dK kvs=>obtain ⟨_,_,_,_,o,_,_,e,_⟩:=x; exact Heap.lt_size e
  | dT kvs=>obtain ⟨_,_,_,_,o,_,_,e,_⟩:=x; exact Heap.lt_size e
  | set S n=>obtain ⟨o,_,_,_,e,_⟩:=x; exact Heap.lt_size e
  | ins C dx fs=>obtain ⟨_,_,_,e,_⟩:=x; exact Heap.lt_size e
  | own y=>obtain ⟨_,e⟩:=x; exact Heap.lt_size e
  | xd fs=>obtain ⟨_,⟨_,_,_,e,_⟩,_⟩:=x; exact Heap.lt_size e
  | rng lo hi=>obtain ⟨_,_,_,e⟩:=x; exact Heap.lt_size e
  | frz ob u=>obtain ⟨e,_⟩:=x; exact Heap.lt_size e
  | tbl ps=>exact Heap.lt_size (show h.get? a=some _ from x)
  | met f y=>exact Heap.lt_size (show h.get? a=some _ from x)
  | ext φ=>obtain ⟨_,⟨_,e⟩,_⟩:=x; exact Heap.lt_size e
theorem Paired.mapP {α β:Type} {F G:α->β->Prop}:∀ {l₁:List α} {l₂:List β},Paired F l₁ l₂->(∀ a b,F a b->G a b)->Paired G l₁ l₂
  | _,_,.nil,_=>.nil
  | _,_,.cons r t,f=>.cons (f _ _ r) (Paired.mapP t f)
theorem ObjOk.stay (x:ObjOk P w H h a o) (k:∀ b u,(b=a ∨ H b=some (.own a))->h.get? b=some u->h'.get? b=some u)
    (ho:∀ b,H b=some (.own a)->H' b=some (.own a)) (ht:∀ b xs,H b=some (.tup xs)->H' b=some (.tup xs)):ObjOk P w H' h' a o:=by
  induction o with
  | lst xs=>obtain ⟨z,its,n,r,e⟩:=x; exact ⟨z,its,n,r,k _ _ (.inl rfl) e⟩
  | tup xs=>obtain ⟨z,its,r,ob,e,c⟩:=x; exact ⟨z,its,r,ob,k _ _ (.inl rfl) e,c⟩
  | dK kvs=>obtain ⟨z,y,vs,r,ob,es,ep,e,c⟩:=x; exact ⟨z,y,vs,r,ob,es,ep,k _ _ (.inl rfl) e,c⟩
  | dT kvs=>
    obtain ⟨z,y,xs,r,ob,es,ep,e,c⟩:=x
    exact ⟨z,y,xs,Paired.mapP r fun p q z=>⟨z.1,ht _ _ z.2.1,z.2.2⟩,ob,es,ep,k _ _ (.inl rfl) e,c⟩
  | set S n=>obtain ⟨ob,es,ep,t,e,c⟩:=x; exact ⟨ob,es,ep,t,k _ _ (.inl rfl) e,c⟩
  | ins C dx fs=>
    obtain ⟨d,z,ne,e,mA,⟨od,es,ep,e2,c⟩,r⟩:=x
    exact ⟨ho _ d,z,ne,k _ _ (.inl rfl) e,mA,⟨od,es,ep,k _ _ (.inr d) e2,c⟩,r⟩
  | own y=>obtain ⟨ob,e⟩:=x; exact ⟨ob,k _ _ (.inl rfl) e⟩
  | xd fs=>obtain ⟨mA,⟨od,es,ep,e,c⟩,r⟩:=x; exact ⟨mA,⟨od,es,ep,k _ _ (.inl rfl) e,c⟩,r⟩
  | rng lo hi=>obtain ⟨t,u,v,e⟩:=x; exact ⟨t,u,v,k _ _ (.inl rfl) e⟩
  | frz ob u ih=>obtain ⟨e,q⟩:=x; exact ⟨k _ _ (.inl rfl) e,ih q⟩
  | tbl ps=>
    have e:h.get? a=some { cls:=.none,data:=.fields ps }:=x
    show h'.get? a=some { cls:=.none,data:=.fields ps }
    exact k a _ (.inl rfl) e
  | met f y=>
    have e:h.get? a=some (PySem.W.methodObj (.ref f) (.ref y)):=x
    show h'.get? a=some (PySem.W.methodObj (.ref f) (.ref y))
    exact k a _ (.inl rfl) e
  | ext φ=>obtain ⟨p,⟨o,e⟩,st⟩:=x; exact ⟨st _ _ p fun o q=>k _ _ (.inl rfl) q,⟨o,k _ _ (.inl rfl) e⟩,st⟩
theorem HOk.lt (x:HOk P w H h) (e:H a=some o):a < h.objs.size:=(x a o e).lt
theorem HOk.fresh (x:HOk P w H h) (e:h.objs.size <= a):H a=none:=by
  cases q:H a with
  | none=>rfl
  | some u=>exact absurd (Nat.lt_of_lt_of_le (x.lt q) e) (Nat.lt_irrefl _)
theorem HOk.kept (x:HOk P w H h) (k:∀ b u,h.get? b=some u->h'.get? b=some u):HOk P w H h':=fun a o e=>
  (x a o e).stay (fun b u _ q=>k b u q) (fun _ q=>q) fun _ _ q=>q
theorem HOk.laid (x:HOk P w H h) (k:∀ b u,h.get? b=some u->h'.get? b=some u) (hp:h.objs.size <= a) (new:ObjOk P w (upd H a o) h' a o):HOk P w (upd H a o) h':=fun b u e=>by
  have hn:=x.fresh hp
  by_cases hb:b=a
  . subst hb; rw [At] at e; cases e; exact new
  . rw [Al hb] at e
    exact (x b u e).stay (fun c v _ q=>k c v q) (fun c q=>by rw [Al (Bp q hn)]; exact q) fun c xs q=>by rw [Al (Bp q hn)]; exact q
end
def Rd (H:Hp) (a:Addr) (u:HO):Prop:=H a=some u ∨ ∃ o,H a=some (.frz o u)
theorem Rd.ok {P:Program} {w:World} {H:Hp} {h:Heap} {a:Addr} {u:HO} (r:Rd H a u) (x:HOk P w H h):ObjOk P w H h a u:=by
  rcases r with r | ⟨o,r⟩
  . exact x a u r
  . obtain ⟨_,q⟩:=x a _ r
    exact q
def Mut:Option HO->Prop
  | some (.lst _)=>True
  | some (.dK _)=>True
  | some (.dT _)=>True
  | some (.set _ _)=>True
  | some (.ins _ _ _)=>True
  | some (.ext _)=>True
  | _=>False
section
variable {P:Program} {w:World} {H:Hp} {h h':Heap} {x e:Addr} {o':HO}
theorem HOk.write (ok:HOk P w H h) (mu:Mut (H x)) (he:e=x ∨ H e=some (.own x)) (k:∀ b u,b ≠ e->h.get? b=some u->h'.get? b=some u) (heo:∃ u,h'.get? e=some u)
    (new:ObjOk P w (upd H x o') h' x o'):HOk P w (upd H x o') h':=fun b u q=>by
  have nown:∀ c y,H c=some (.own y)->c ≠ x:=fun c y r z=>by subst z; rw [r] at mu; exact mu
  have ntup:∀ c xs,H c=some (.tup xs)->c ≠ x:=fun c xs r z=>by subst z; rw [r] at mu; exact mu
  by_cases hb:b=x
  . subst hb; rw [At] at q; cases q; exact new
  . rw [Al hb] at q
    by_cases hbe:b=e
    . have q':H b=some (.own x):=by
        rcases he with z | z
        . exact absurd (hbe.trans z) hb
        . rw [hbe]; exact z
      rw [q] at q'; cases q'
      obtain ⟨v,hv⟩:=heo
      exact ⟨v,by rw [hbe]; exact hv⟩
    . refine (ok b u q).stay (fun c v hc r=>k c v ?_ r) (fun c r=>by rw [Al (nown c b r)]; exact r) fun c xs r=>by rw [Al (ntup c xs r)]; exact r
      rcases hc with rfl | hc
      . exact hbe
      . rintro rfl
        rcases he with z | z
        . exact nown c b hc z
        . rw [hc] at z; cases z; exact hb rfl
end
structure Un (fs ex:List Addr) (H H':Hp) (h h':Heap):Prop where
  keep:∀ b o,h.get? b=some o->H b=none->b ∉ fs->b ∉ ex->h'.get? b=some o
  slot:∀ b o,h.get? b=some o->H b=none->b ∈ fs->b ∉ ex->∃ sl,h'.get? b=some { o with slots:=sl }
  free:∀ b o,h.get? b=some o->H b=none->b ∉ ex->H' b=none
  there:∀ b o,h.get? b=some o->b ∉ ex->∃ o',h'.get? b=some o'
  tups:∀ b xs,H b=some (.tup xs)->H' b=some (.tup xs)
  frzs:∀ b o u,H b=some (.frz o u)->H' b=some (.frz o u)
  tbls:∀ b ps,H b=some (.tbl ps)->∃ more,H' b=some (.tbl (ps ++ more))
section
variable {fs fs' ex ex':List Addr} {H H1 H2:Hp} {h h1 h2 h':Heap} {a x e:Addr} {o:HO}
theorem Un.any (u:Un fs ex H H1 h h1) {b:Addr} {ob:Obj} (q:h.get? b=some ob) (n:H b=none) (hx:b ∉ ex):∃ sl,h1.get? b=some { ob with slots:=sl }:=by
  by_cases hb:b ∈ fs
  . exact u.slot b ob q n hb hx
  . exact ⟨ob.slots,u.keep b ob q n hb hx⟩
theorem Un.kept (k:∀ b u,h.get? b=some u->h'.get? b=some u):Un fs ex H H h h':=
  ⟨fun b ob q _ _ _=>k b ob q,fun b ob q _ _ _=>⟨ob.slots,k b ob q⟩,fun _ _ _ n _=>n,fun b ob q _=>⟨ob,k b ob q⟩,fun _ _ q=>q,fun _ _ _ q=>q,fun _ ps q=>⟨#[],by rw [q]; simp⟩⟩
theorem Un.refl:Un fs ex H H h h:=Un.kept fun _ _ q=>q
theorem Un.laid (k:∀ b u,h.get? b=some u->h'.get? b=some u) (hp:h.objs.size <= a) (hn:H a=none):Un fs ex H (upd H a o) h h' where
  keep:=fun b u q _ _ _=>k b u q
  slot:=fun b u q _ _ _=>⟨u.slots,k b u q⟩
  free:=fun b u q n _=>by rw [Al (Nat.ne_of_lt (Nat.lt_of_lt_of_le (Heap.lt_size q) hp))]; exact n
  there:=fun b u q _=>⟨u,k b u q⟩
  tups:=fun b xs q=>by rw [Al (Bp q hn)]; exact q
  frzs:=fun b u xs q=>by rw [Al (Bp q hn)]; exact q
  tbls:=fun b ps q=>⟨#[],by rw [Al (Bp q hn),q]; simp⟩
theorem Un.write (mu:Mut (H x)) (he:e=x ∨ H e=some (.own x)) (k:∀ b u,b ≠ e->h.get? b=some u->h'.get? b=some u) (heo:∃ u,h'.get? e=some u):Un fs ex H (upd H x o) h h':=by
  have hx:∀ b,H b=none->b ≠ x:=fun b n z=>by subst z; rw [n] at mu; exact mu
  have hb:∀ b,H b=none->b ≠ e:=fun b n z=>by
    subst z
    rcases he with r | r
    . exact hx b n r
    . rw [n] at r; cases r
  have hm:∀ b u,H b=some u->¬ Mut (some u)->b ≠ x:=fun b u q nm z=>by subst z; rw [q] at mu; exact nm mu
  refine ⟨fun b u q n _ _=>k b u (hb b n) q,fun b u q n _ _=>⟨u.slots,k b u (hb b n) q⟩,fun b u q n _=>by rw [Al (hx b n)]; exact n,fun b u q _=>?_,
    fun b xs q=>by rw [Al (hm b _ q fun z=>z)]; exact q,fun b u xs q=>by rw [Al (hm b _ q fun z=>z)]; exact q,fun b ps q=>⟨#[],by rw [Al (hm b _ q fun z=>z),q]; simp⟩⟩
  by_cases hbe:b=e
  . subst hbe; exact heo
  . exact ⟨u,k b u hbe q⟩
end
def trk (h:Heap) (H:Hp):List Addr:=(List.range h.objs.size).filter fun a=>(H a).isSome
def He (h:Heap) (H:Hp):Heap:=PySem.W.hideAll h (trk h H)
theorem Li (h:Heap) (H:Hp):(He h H).objs.size=h.objs.size:=PySem.W.hideAll_size _ _
theorem NX {h:Heap} {H:Hp} {b:Addr} {o:Obj} (e:h.get? b=some o) (n:H b=none):(He h H).get? b=some o:=
  PySem.W.hideAll_get _ e fun hm=>by
    have q:(H b).isSome=true:=(List.mem_filter.mp hm).2
    rw [n] at q; simp at q
theorem PM {h:Heap} {H:Hp} {b:Addr} {o:Obj} (e:(He h H).get? b=some o):h.get? b=some o /\ H b=none:=by
  have e':h.get? b=some o:=PySem.W.of_hideAll (trk h H) e
  refine ⟨e',?_⟩
  cases q:H b with
  | none=>rfl
  | some x=>
    have hm:b ∈ trk h H:=List.mem_filter.mpr ⟨List.mem_range.mpr (Heap.lt_size e'),by simp [q]⟩
    have z:(He h H).get? b=none:=PySem.W.hideAll_none (trk h H) hm
    rw [z] at e; cases e
end L2
namespace L2
open PySem PySem.Spec PyProof.Rows
structure Mod (K:PySem.W.Frag) (mg:Str->Option Value) (base:Heap):Prop where
  kin:K.In base
  glob:base.Ns mainGlobals mg
  blt:∃ mb,base.Ns builtinsNs mb /\ ∀ x:Str,x ≠ "__name__" -> mb x=bootBuiltins x
  nolimit:base.NoLimit
structure Cx where
  prog:Program
  w:World
  K:PySem.W.Frag
  mg:Str->Option Value
  base:Heap
  A:Around
  N:List Str
  s₀:Shared
  H₀:Hp
  env:Env
  outer:List Env
  stack:List Env
  ex:List Addr
  fn:Str->Bool
  calm:Bool
  pn:List (Addr × Obj)
  xe:Value->Shared->Prop
def frs (l:List Env):List Addr:=l.filterMap (·.frame)
abbrev Cx.fs (X:Cx):List Addr:=frs X.outer
def Vis (sc:Scope) (x:Str):Prop:=sc.names.lookup x=some .local ∨ sc.names.lookup x=some .cell ∨ sc.names.lookup x=some .free
def Loc (sc:Scope) (x:Str):Prop:=sc.names.lookup x=some .local ∨ sc.names.lookup x=some .cell
def UN (env:Env) (h:Heap) (m:Str->Option Value) (x:Str) (u:Value):Prop:=
  (env.kindOf x=some .local /\ m x=some u) ∨ ((env.kindOf x=some .cell ∨ env.kindOf x=some .free) /\ ∃ c,env.cells.lookup x=some c /\ h.IsCell c (some u))
structure Cx.Ok (X:Cx):Prop where
  mod:Mod X.K X.mg X.base
  kind:X.env.scope.kind=.function
  glob:X.env.globals=mainGlobals
  blt:X.env.builtins=builtinsNs
  above:X.s₀.heap.objs.size <= X.env.locals
  inj:∀ x y c,X.env.cells.lookup x=some c->X.env.cells.lookup y=some c->x=y
  has:∀ x,(X.env.kindOf x=some .cell ∨ X.env.kindOf x=some .free)->∃ c,X.env.cells.lookup x=some c
  cab:∀ x c,X.fn x=true->X.env.cells.lookup x=some c->X.s₀.heap.objs.size <= c
  hd:X.calm=true->X.A.handled=none
  frames:X.A.frames=some X.stack
  stk:X.stack=X.outer ∨ (X.stack=X.env :: X.outer /\ X.env.frame=some X.env.locals)
  exf:∀ b ∈ X.ex,b ≠ X.env.locals /\ ∀ x c,X.env.cells.lookup x=some c->c ≠ b
  bs:∀ b o,X.base.get? b=some o->X.s₀.heap.get? b=some o /\ X.H₀ b=none
  bsz:X.base.objs.size <= X.s₀.heap.objs.size
  noex:∀ b o,X.base.get? b=some o->b ∉ X.ex
  exfs:∀ b ∈ X.ex,b ∉ X.fs
  funs:X.s₀.heap.FunFrames X.base X.outer
  frf:∀ b ∈ X.fs,X.H₀ b=none
structure Inv (X:Cx) (pins:List (Addr × Obj)) (σ:List (Option V)) (H:Hp) (s:Shared):Prop where
  ok:X.Ok
  os:s.os=X.s₀.os
  bare:AllBare s.gens
  base:Un X.fs X.ex X.H₀ H X.s₀.heap s.heap
  loc:∃ m,s.heap.Ns X.env.locals m /\ ∀ (i:Nat) (x:Str) (v:V),X.N[i]? = some x->σ[i]? = some (some v)->Vis X.env.scope x->∃ u,RelV v u /\ UN X.env s.heap m x u
  cell:∀ x c,X.env.cells.lookup x=some c->∃ v,s.heap.IsCell c v
  free:H X.env.locals=none
  freeC:∀ x c,X.env.cells.lookup x=some c->H c=none
  pin:∀ p ∈ X.pn ++ pins,s.heap.get? p.1=some p.2 /\ H p.1=none /\ p.1 ≠ X.env.locals /\ p.1 ∉ X.fs /\ ∀ v,p.2.data ≠ .cell v
  hok:HOk X.prog X.w H s.heap
  len:σ.length=X.N.length
section
variable {X:Cx} {pins:List (Addr × Obj)} {σ:List (Option V)} {H H':Hp} {s:Shared} {h':Heap}
theorem Cx.Ok.nofr (ok:X.Ok) {b:Addr} {o:Obj} (e:X.base.get? b=some o):b ∉ X.fs:=fun hb=>by
  have:=(ok.funs.mem hb).1
  rw [e] at this; cases this
theorem Inv.bs (I:Inv X pins σ H s):∀ b o,X.base.get? b=some o->s.heap.get? b=some o /\ H b=none:=fun b o e=>
  ⟨I.base.keep b o (I.ok.bs b o e).1 (I.ok.bs b o e).2 (I.ok.nofr e) (I.ok.noex b o e),I.base.free b o (I.ok.bs b o e).1 (I.ok.bs b o e).2 (I.ok.noex b o e)⟩
theorem Inv.bk (I:Inv X pins σ H s):∀ b o,X.base.get? b=some o->s.heap.get? b=some o:=fun b o e=>(I.bs b o e).1
theorem Inv.mod (I:Inv X pins σ H s):Mod X.K X.mg X.base:=I.ok.mod
theorem Inv.kIn (I:Inv X pins σ H s):X.K.In s.heap:=I.ok.mod.kin.keeps I.bk
theorem Inv.lt (I:Inv X pins σ H s):X.env.locals < s.heap.objs.size:=let ⟨_,hn,_⟩:=I.loc; hn.lt
theorem Inv.sz (I:Inv X pins σ H s):X.s₀.heap.objs.size <= s.heap.objs.size:=Nat.le_trans I.ok.above (Nat.le_of_lt I.lt)
theorem Inv.nofs (I:Inv X pins σ H s) {a:Addr} (h:s.heap.objs.size <= a):a ∉ X.fs:=fun hb=>by
  obtain ⟨_,o,ho,_⟩:=I.ok.funs.mem hb
  exact absurd (Nat.lt_of_lt_of_le (Heap.lt_size ho) (Nat.le_trans I.sz h)) (Nat.lt_irrefl _)
theorem Inv.cne (I:Inv X pins σ H s):∀ x c,X.env.cells.lookup x=some c->c ≠ X.env.locals:=fun x c e z=>by
  obtain ⟨v,o,ho,hd⟩:=I.cell x c e
  obtain ⟨m,⟨o',es,ep,ho',hd',_⟩,_⟩:=I.loc
  rw [z,ho'] at ho; cases ho; rw [hd'] at hd; cases hd
theorem Inv.funs (I:Inv X pins σ H s):s.heap.FunFrames X.base X.outer:=by
  have all:∀ (l:List Env),(∀ b ∈ frs l,b ∈ X.fs)->X.s₀.heap.FunFrames X.base l->s.heap.FunFrames X.base l:=by
    intro l
    induction l with
    | nil=>intro _ _; trivial
    | cons env r ih=>
      intro hs hl
      obtain ⟨hk,⟨L,o,hf,hn,ho,hd⟩,hr⟩:=hl
      have hL:L ∈ X.fs:=hs L (by unfold frs; rw [List.filterMap_cons,hf]; exact List.mem_cons_self)
      obtain ⟨sl,e⟩:=I.base.slot L o ho (I.ok.frf L hL) hL fun z=>I.ok.exfs L z hL
      exact ⟨hk,⟨L,_,hf,hn,e,hd⟩,ih (fun b hb=>hs b (by unfold frs; rw [List.filterMap_cons,hf]; exact List.mem_cons_of_mem _ hb)) hr⟩
  exact all X.outer (fun _ hb=>hb) I.ok.funs
theorem Inv.stack (I:Inv X pins σ H s):s.heap.FunFrames X.base X.stack:=by
  rcases I.ok.stk with e | ⟨e,hf⟩
  . rw [e]; exact I.funs
  . rw [e]
    obtain ⟨m,hn,_⟩:=I.loc
    refine .cons (by rw [I.ok.kind]; decide) hf hn ?_ I.funs
    exact Heap.get?_none_of_le (Nat.le_trans I.ok.bsz I.ok.above)
theorem Inv.stkSub (I:Inv X pins σ H s):∀ b ∈ frs X.stack,b ∈ X.env.locals :: X.fs:=fun b hb=>by
  rcases I.ok.stk with e | ⟨e,hf⟩
  . rw [e] at hb; exact List.mem_cons_of_mem _ hb
  . rw [e] at hb
    unfold frs at hb
    rw [List.filterMap_cons,hf] at hb
    exact hb
theorem Inv.stkFree (I:Inv X pins σ H s):∀ b ∈ frs X.stack,H b=none:=fun b hb=>by
  rcases List.mem_cons.mp (I.stkSub b hb) with e | hb
  . rw [e]; exact I.free
  . obtain ⟨_,o,ho,_⟩:=I.ok.funs.mem hb
    exact I.base.free b o ho (I.ok.frf b hb) fun z=>I.ok.exfs b z hb
theorem Inv.step {g':Array GenState} {t':Nat} {d':Drawn} {ch:List Addr} (I:Inv X pins σ H s)
    (hch:∀ b ∈ ch,(b ∈ X.ex ∨ X.s₀.heap.objs.size <= b) /\ b ≠ X.env.locals /\ (∀ x c,X.env.cells.lookup x=some c->c ≠ b) /\ ∀ p ∈ X.pn ++ pins,p.1 ≠ b)
    (keep:∀ b o,b ≠ X.env.locals->b ∉ X.fs->b ∉ ch->s.heap.get? b=some o->H b=none->h'.get? b=some o)
    (slot:∀ b o,b ≠ X.env.locals->b ∈ X.fs->b ∉ ch->s.heap.get? b=some o->H b=none->∃ sl,h'.get? b=some { o with slots:=sl }) (free:∀ b o,b ∉ ch->s.heap.get? b=some o->H b=none->H' b=none)
    (there:∀ b o,b ∉ ch->s.heap.get? b=some o->∃ o',h'.get? b=some o')
    (tups:∀ b xs,H b=some (.tup xs)->H' b=some (.tup xs)) (frzs:∀ b o u,H b=some (.frz o u)->H' b=some (.frz o u)) (tbls:∀ b ps,H b=some (.tbl ps)->∃ more,H' b=some (.tbl (ps ++ more)))
    (ns:∀ m,s.heap.Ns X.env.locals m->h'.Ns X.env.locals m) (hok:HOk X.prog X.w H' h') (hg:AllBare g') :
    Inv X pins σ H' { s with heap:=h',gens:=g',drawn:=d',toks:=t' }:=by
  have neL:∀ b o,X.s₀.heap.get? b=some o->b ≠ X.env.locals:=fun b o e=>Nat.ne_of_lt (Nat.lt_of_lt_of_le (Heap.lt_size e) I.ok.above)
  have neC:∀ b o,X.s₀.heap.get? b=some o->b ∉ X.ex->b ∉ ch:=fun b o e hx hb=>by
    rcases (hch b hb).1 with z | z
    . exact hx z
    . exact absurd (Nat.lt_of_lt_of_le (Heap.lt_size e) z) (Nat.lt_irrefl _)
  have cellK:∀ x c,X.env.cells.lookup x=some c->∀ v,s.heap.IsCell c v->h'.IsCell c v:=fun x c e v ⟨o,ho,hd⟩=>by
    have nch:c ∉ ch:=fun z=>(hch c z).2.2.1 x c e rfl
    by_cases hc:c ∈ X.fs
    . obtain ⟨sl,q⟩:=slot c o (I.cne x c e) hc nch ho (I.freeC x c e)
      exact ⟨_,q,hd⟩
    . exact ⟨o,keep c o (I.cne x c e) hc nch ho (I.freeC x c e),hd⟩
  refine ⟨I.ok,I.os,hg,⟨fun b o e n hb hx=>?_,fun b o e n hb hx=>?_,fun b o e n hx=>?_,fun b o e hx=>?_,fun b xs e=>tups b xs (I.base.tups b xs e),fun b o xs e=>frzs b o xs (I.base.frzs b o xs e),fun b ps e=>?_⟩,?_,fun x c e=>?_,?_,fun x c e=>?_,fun p hp=>?_,hok,I.len⟩
  . exact keep b o (neL b o e) hb (neC b o e hx) (I.base.keep b o e n hb hx) (I.base.free b o e n hx)
  . obtain ⟨sl,e1⟩:=I.base.slot b o e n hb hx
    obtain ⟨sl',e2⟩:=slot b _ (neL b o e) hb (neC b o e hx) e1 (I.base.free b o e n hx)
    exact ⟨sl',e2⟩
  . obtain ⟨o',e1⟩:=I.base.there b o e hx
    exact free b o' (neC b o e hx) e1 (I.base.free b o e n hx)
  . obtain ⟨o',e1⟩:=I.base.there b o e hx
    exact there b o' (neC b o e hx) e1
  . obtain ⟨m1,e1⟩:=I.base.tbls b ps e
    obtain ⟨m2,e2⟩:=tbls b _ e1
    exact ⟨m1 ++ m2,by rw [e2,Array.append_assoc]⟩
  . obtain ⟨m,hn,hl⟩:=I.loc
    refine ⟨m,ns m hn,fun i x v e1 e2 e3=>?_⟩
    obtain ⟨u,r,l⟩:=hl i x v e1 e2 e3
    refine ⟨u,r,?_⟩
    rcases l with l | ⟨k,c,e,z⟩
    . exact .inl l
    . exact .inr ⟨k,c,e,cellK x c e _ z⟩
  . obtain ⟨v,z⟩:=I.cell x c e
    exact ⟨v,cellK x c e v z⟩
  . obtain ⟨m,⟨o,_,_,ho,_⟩,_⟩:=I.loc
    exact free _ o (fun z=>(hch _ z).2.1 rfl) ho I.free
  . obtain ⟨v,o,ho,hd⟩:=I.cell x c e
    exact free c o (fun z=>(hch c z).2.2.1 x c e rfl) ho (I.freeC x c e)
  . obtain ⟨e,n,ne,nf,d⟩:=I.pin p hp
    have nch:p.1 ∉ ch:=fun z=>(hch p.1 z).2.2.2 p hp rfl
    exact ⟨keep p.1 p.2 ne nf nch e n,free p.1 p.2 nch e n,ne,nf,d⟩
theorem Inv.un {t':Nat} (I:Inv X pins σ H s) (u:Un X.fs [] H H' s.heap h') (hok:HOk X.prog X.w H' h'):Inv X pins σ H' { s with heap:=h',toks:=t' }:=by
  obtain ⟨m,⟨o,es,ep,ho,r⟩,_⟩:=id I.loc
  obtain ⟨sl,hL⟩:=u.any ho I.free (by simp)
  exact I.step (g':=s.gens) (d':=s.drawn) (ch:=[]) (fun _ z=>nomatch z) (fun b o _ hb _ e n=>u.keep b o e n hb (by simp)) (fun b o _ hb _ e n=>u.slot b o e n hb (by simp)) (fun b o _ e n=>u.free b o e n (by simp)) (fun b o _ e=>u.there b o e (by simp)) u.tups u.frzs u.tbls (fun m' hm=>by
    obtain ⟨o',es',ep',ho',r'⟩:=hm
    rw [ho] at ho'; cases ho'
    exact ⟨_,es',ep',hL,r'⟩) hok I.bare
theorem Inv.call {g':Array GenState} {t':Nat} {d':Drawn} {ch:List Addr} (I:Inv X pins σ H s) (u:Un (frs X.stack) ch H H' s.heap h') (hok:HOk X.prog X.w H' h') (hg:AllBare g')
    (hch:∀ b ∈ ch,(b ∈ X.ex ∨ X.s₀.heap.objs.size <= b) /\ b ≠ X.env.locals /\ (∀ x c,X.env.cells.lookup x=some c->c ≠ b) /\ ∀ p ∈ X.pn ++ pins,p.1 ≠ b) :
    Inv X pins σ H' { s with heap:=h',gens:=g',drawn:=d',toks:=t' }:=by
  obtain ⟨m,⟨o,es,ep,ho,r⟩,_⟩:=id I.loc
  obtain ⟨sl,hL⟩:=u.any ho I.free fun z=>(hch _ z).2.1 rfl
  exact I.step (ch:=ch) hch (fun b o hL hb hc e n=>u.keep b o e n (fun z=>(List.mem_cons.mp (I.stkSub b z)).elim hL hb) hc) (fun b o _ _ hc e n=>u.any e n hc) (fun b o hc e n=>u.free b o e n hc) (fun b o hc e=>u.there b o e hc) u.tups u.frzs u.tbls (fun m' hm=>by
    obtain ⟨o',es',ep',ho',r'⟩:=hm
    rw [ho] at ho'; cases ho'
    exact ⟨_,es',ep',hL,r'⟩) hok hg
theorem Inv.turned {t':Nat} {it:Addr} (I:Inv X pins σ H s) (k:∀ b o,b ≠ it->s.heap.get? b=some o->h'.get? b=some o) (hn:H it=none) (hL:it ≠ X.env.locals)
    (h1:it ∈ X.ex ∨ X.s₀.heap.objs.size <= it) (h2:∀ x c,X.env.cells.lookup x=some c->c ≠ it) (h3:∀ p ∈ X.pn ++ pins,p.1 ≠ it):Inv X pins σ H { s with heap:=h',toks:=t' }:=by
  have nit:∀ b u,H b=some u->b ≠ it:=fun b u e z=>by rw [z,hn] at e; cases e
  refine I.step (g':=s.gens) (d':=s.drawn) (ch:=[it]) (fun b hb=>?_) (fun b o _ _ hc e _=>k b o (fun z=>hc (by simp [z])) e) (fun b o _ _ hc e _=>⟨o.slots,k b o (fun z=>hc (by simp [z])) e⟩) (fun _ _ _ _ n=>n)
    (fun b o hc e=>⟨o,k b o (fun z=>hc (by simp [z])) e⟩) (fun _ _ e=>e) (fun _ _ _ e=>e) (fun b ps e=>⟨#[],by rw [e]; simp⟩) (fun m hm=>?_) (fun b u e=>?_) I.bare
  . have e:b=it:=by simpa using hb
    subst e
    exact ⟨h1,hL,h2,h3⟩
  . obtain ⟨o,es,ep,ho,r⟩:=hm
    exact ⟨o,es,ep,k _ o (Ne.symm hL) ho,r⟩
  . refine (I.hok b u e).stay (fun c v hc q=>k c v ?_ q) (fun _ q=>q) fun _ _ q=>q
    rcases hc with z | z
    . rw [z]; exact nit b u e
    . exact nit c _ z
theorem Inv.tok (I:Inv X pins σ H s) (t:Nat):Inv X pins σ H { s with toks:=t }:=I.un (h':=s.heap) (t':=t) Un.refl I.hok
theorem Inv.kept {t':Nat} (I:Inv X pins σ H s) (k:∀ b u,s.heap.get? b=some u->h'.get? b=some u):Inv X pins σ H { s with heap:=h',toks:=t' }:=I.un (Un.kept k) (I.hok.kept k)
theorem Inv.laid {a:Addr} {o:HO} {t':Nat} (I:Inv X pins σ H s) (k:∀ b u,s.heap.get? b=some u->h'.get? b=some u) (hp:s.heap.objs.size <= a) (new:ObjOk X.prog X.w (upd H a o) h' a o) :
    Inv X pins σ (upd H a o) { s with heap:=h',toks:=t' }:=I.un (Un.laid k hp (I.hok.fresh hp)) (I.hok.laid k hp new)
theorem Inv.write {x e:Addr} {o:HO} {t':Nat} (I:Inv X pins σ H s) (mu:Mut (H x)) (he:e=x ∨ H e=some (.own x)) (k:∀ b u,b ≠ e->s.heap.get? b=some u->h'.get? b=some u) (heo:∃ u,h'.get? e=some u)
    (new:ObjOk X.prog X.w (upd H x o) h' x o):Inv X pins σ (upd H x o) { s with heap:=h',toks:=t' }:=I.un (Un.write mu he k heo) (I.hok.write mu he k heo new)
theorem Inv.weak {σ':List (Option V)} (I:Inv X pins σ H s) (hl:σ'.length=σ.length) (w:∀ (i:Nat) v,σ'[i]? = some (some v)->σ[i]? = some (some v)):Inv X pins σ' H s:=
  ⟨I.ok,I.os,I.bare,I.base,let ⟨m,hn,hl'⟩:=I.loc; ⟨m,hn,fun i x v e1 e2 e3=>hl' i x v e1 (w i v e2) e3⟩,I.cell,I.free,I.freeC,I.pin,I.hok,hl.trans I.len⟩
theorem Inv.pins_of {pins':List (Addr × Obj)} (I:Inv X pins σ H s) (h:∀ p ∈ pins',s.heap.get? p.1=some p.2 /\ H p.1=none /\ p.1 ≠ X.env.locals /\ p.1 ∉ X.fs /\ ∀ v,p.2.data ≠ .cell v):Inv X pins' σ H s:=
  ⟨I.ok,I.os,I.bare,I.base,I.loc,I.cell,I.free,I.freeC,fun p hp=>(List.mem_append.mp hp).elim (fun z=>I.pin p (List.mem_append_left _ z)) (h p),I.hok,I.len⟩
theorem Ia {N:List Str} (hN:N.Nodup) {i j:Nat} {x:Str} (a:N[i]? = some x) (b:N[j]? = some x):i=j:=by
  obtain ⟨h1,e1⟩:=List.getElem?_eq_some_iff.mp a
  obtain ⟨h2,e2⟩:=List.getElem?_eq_some_iff.mp b
  exact (List.getElem_inj hN).mp (e1.trans e2.symm)
theorem Gj {M:Model} {A:Around} {E:Value->Shared->Prop} {i:Nat} {x:Str} {v:V} {u:Value} {Q:Unit->Shared->Prop} (I:Inv X pins σ H s) (hN:X.N.Nodup) (hi:X.N[i]? = some x) (hx:Loc X.env.scope x) (r:RelV v u)
    (h:∀ s',Inv X pins (σ.set i (some v)) H s'->(∃ a,Heap.SameBut a s.heap s'.heap /\ (a=X.env.locals ∨ X.env.cells.lookup x=some a))->Q () s') (hf:X.fn x=true ∨ X.env.scope.names.lookup x=some .local:=by first | exact .inl rfl | exact .inr rfl | assumption):wpAny M A (storeName X.env x u) Q E s:=by
  obtain ⟨m,hn,hl⟩:=id I.loc
  have hcls:(X.env.scope.kind == .class || (X.env.scope.kind == .module && X.env.locals != X.env.globals))=false:=by rw [I.ok.kind]; rfl
  have hiσ:i < σ.length:=by rw [I.len]; exact (List.getElem?_eq_some_iff.mp hi).1
  have cne:=I.cne
  have tracked:∀ {a:Addr} {h':Heap},(∃ o,s.heap.get? a=some o /\ H a=none)->Heap.SameBut a s.heap h'->HOk X.prog X.w H h':=fun {a h'} ha hs b ob e=>by
    obtain ⟨_,_,hfree⟩:=ha
    refine (I.hok b ob e).stay (fun c w' hc q=>(hs.2 c ?_).trans q) (fun _ q=>q) fun _ _ q=>q
    rintro rfl
    rcases hc with rfl | hc
    . rw [hfree] at e; cases e
    . rw [hfree] at hc; cases hc
  rcases hx with hk | hk
  . refine wpAny_storeName_local hk hn (fun h' hn' hs=>?_) hcls
    obtain ⟨oL,_,_,hoL,_⟩:=id hn
    refine h _ ⟨I.ok,I.os,I.bare,⟨fun b o e n hb hx=>?_,fun b o e n hb hx=>?_,I.base.free,fun b o e hx=>?_,I.base.tups,I.base.frzs,I.base.tbls⟩,⟨_,hn',fun j y v' e1 e2 e3=>?_⟩,fun y c e=>?_,I.free,I.freeC,fun p hp=>?_,tracked ⟨oL,hoL,I.free⟩ hs,by simpa using I.len⟩ ⟨_,hs,.inl rfl⟩
    . exact (hs.2 b (Nat.ne_of_lt (Nat.lt_of_lt_of_le (Heap.lt_size e) I.ok.above))).trans (I.base.keep b o e n hb hx)
    . obtain ⟨sl,e1⟩:=I.base.slot b o e n hb hx
      exact ⟨sl,(hs.2 b (Nat.ne_of_lt (Nat.lt_of_lt_of_le (Heap.lt_size e) I.ok.above))).trans e1⟩
    . obtain ⟨o',e1⟩:=I.base.there b o e hx
      exact ⟨o',(hs.2 b (Nat.ne_of_lt (Nat.lt_of_lt_of_le (Heap.lt_size e) I.ok.above))).trans e1⟩
    . by_cases hj:j=i
      . subst hj
        rw [hi] at e1; cases e1
        rw [List.getElem?_set_self hiσ] at e2
        cases e2
        exact ⟨u,r,.inl ⟨hk,by simp⟩⟩
      . rw [List.getElem?_set_ne (Ne.symm hj)] at e2
        obtain ⟨u',r',q⟩:=hl j y v' e1 e2 e3
        refine ⟨u',r',?_⟩
        rcases q with ⟨k,e⟩ | ⟨k,c,e,z⟩
        . refine .inl ⟨k,?_⟩
          have:y ≠ x:=fun e=>hj (Ia hN e1 (e ▸ hi))
          simp [this,e]
        . exact .inr ⟨k,c,e,z.sameBut hs (cne y c e)⟩
    . obtain ⟨w',z⟩:=I.cell y c e
      exact ⟨w',z.sameBut hs (cne y c e)⟩
    . obtain ⟨e,n,ne,nf,d⟩:=I.pin p hp
      exact ⟨(hs.2 p.1 ne).trans e,n,ne,nf,d⟩
  . have hfn:X.fn x=true:=by
      rcases hf with z | z
      . exact z
      . rw [z] at hk; cases hk
    obtain ⟨c,hc⟩:=I.ok.has x (.inl hk)
    obtain ⟨w',z⟩:=I.cell x c hc
    refine wpAny_storeName_cell I.ok.kind hk hc z (fun h' hc' hs=>?_)
    obtain ⟨oc,hoc,hocd⟩:=id z
    refine h { s with heap:=h' } ⟨I.ok,I.os,I.bare,⟨fun b o e n hb hx=>?_,fun b o e n hb hx=>?_,I.base.free,fun b o e hx=>?_,I.base.tups,I.base.frzs,I.base.tbls⟩,⟨m,hn.sameBut hs (Ne.symm (cne x c hc)),fun j y v' e1 e2 e3=>?_⟩,fun y c' e=>?_,I.free,I.freeC,fun p hp=>?_,tracked ⟨oc,hoc,I.freeC x c hc⟩ hs,by simpa using I.len⟩ ⟨c,hs,.inr hc⟩
    . exact (hs.2 b (Nat.ne_of_lt (Nat.lt_of_lt_of_le (Heap.lt_size e) (I.ok.cab x c hfn hc)))).trans (I.base.keep b o e n hb hx)
    . obtain ⟨sl,e1⟩:=I.base.slot b o e n hb hx
      exact ⟨sl,(hs.2 b (Nat.ne_of_lt (Nat.lt_of_lt_of_le (Heap.lt_size e) (I.ok.cab x c hfn hc)))).trans e1⟩
    . obtain ⟨o',e1⟩:=I.base.there b o e hx
      exact ⟨o',(hs.2 b (Nat.ne_of_lt (Nat.lt_of_lt_of_le (Heap.lt_size e) (I.ok.cab x c hfn hc)))).trans e1⟩
    . by_cases hj:j=i
      . subst hj
        rw [hi] at e1; cases e1
        rw [List.getElem?_set_self hiσ] at e2
        cases e2
        exact ⟨u,r,.inr ⟨.inl hk,c,hc,hc'⟩⟩
      . rw [List.getElem?_set_ne (Ne.symm hj)] at e2
        obtain ⟨u',r',q⟩:=hl j y v' e1 e2 e3
        refine ⟨u',r',?_⟩
        rcases q with q | ⟨k,c',e,z'⟩
        . exact .inl q
        . refine .inr ⟨k,c',e,z'.sameBut hs ?_⟩
          rintro rfl
          exact hj (Ia hN e1 (I.ok.inj _ _ _ e hc ▸ hi))
    . by_cases hcc:c'=c
      . subst hcc; exact ⟨_,hc'⟩
      . obtain ⟨w2,z2⟩:=I.cell y c' e
        exact ⟨w2,z2.sameBut hs hcc⟩
    . obtain ⟨e,n,ne,nf,d⟩:=I.pin p hp
      refine ⟨(hs.2 p.1 ?_).trans e,n,ne,nf,d⟩
      intro q
      rw [q,hoc] at e
      have q':oc=p.2:=Option.some.inj e
      exact d w' (by rw [← q']; exact hocd)
theorem IH {M:Model} {A:Around} {E:Value->Shared->Prop} {i:Nat} {x:Str} {v:V} {u:Value} {Q:Unit->Shared->Prop} (I:Inv X pins σ H s) (hN:X.N.Nodup) (hi:X.N[i]? = some x) (hx:Loc X.env.scope x) (r:RelV v u)
    (h:∀ s',Inv X pins (σ.set i (some v)) H s'->Q () s') (hf:X.fn x=true ∨ X.env.scope.names.lookup x=some .local:=by first | exact .inl rfl | exact .inr rfl | assumption):wpAny M A (storeName X.env x u) Q E s:=
  Gj I hN hi hx r (fun s' I' _=>h s' I') hf
theorem Inv.call' {s':Shared} {ch:List Addr} (I:Inv X pins σ H s) (ho:s'.os=s.os) (u:Un (frs X.stack) ch H H' s.heap s'.heap) (hok:HOk X.prog X.w H' s'.heap) (hg:AllBare s'.gens)
    (hch:∀ b ∈ ch,(b ∈ X.ex ∨ X.s₀.heap.objs.size <= b) /\ b ≠ X.env.locals /\ (∀ x c,X.env.cells.lookup x=some c->c ≠ b) /\ ∀ p ∈ X.pn ++ pins,p.1 ≠ b):Inv X pins σ H' s':=by
  obtain ⟨h',g',d',t',o'⟩:=s'
  have e:o'=s.os:=ho
  subst e
  exact I.call (g':=g') (t':=t') (d':=d') u hok hg hch
end
abbrev XK:=Value->Option Addr->Hp->Prop
abbrev St:=List (Option V)
abbrev VK:=V->Hp->Prop
abbrev TE:=St->Hp->VK->Prop
abbrev TT:=St->Hp->(Bool->Hp->Prop)->Prop
abbrev TA:=St->Hp->(List V->Hp->Prop)->Prop
structure J5 where
  nx:St->Hp->Prop
  rt:VK
  bk:St->Hp->Prop:=fun _ _=>False
  ct:St->Hp->Prop:=fun _ _=>False
abbrev TS:=J5->St->Hp->Prop
def EP (X:Cx) (pins:List (Addr × Obj)) (σ:St) (Q:VK) (u:Value) (s':Shared):Prop:=∃ v H',Inv X pins σ H' s' /\ RelV v u /\ Q v H'
def TP (X:Cx) (pins:List (Addr × Obj)) (σ:St) (Q:Bool->Hp->Prop) (b:Bool) (s':Shared):Prop:=∃ H',Inv X pins σ H' s' /\ Q b H'
def AP (X:Cx) (pins:List (Addr × Obj)) (σ:St) (Q:List V->Hp->Prop) (us:List Value) (s':Shared):Prop:=∃ vs H',Inv X pins σ H' s' /\ Vals vs us /\ Q vs H'
def SP (X:Cx) (pins:List (Addr × Obj)) (D:J5) (f:Flow) (s':Shared):Prop:=
  match f with
  | .next=>∃ σ' H',Inv X pins σ' H' s' /\ D.nx σ' H'
  | .brk=>∃ σ' H',Inv X pins σ' H' s' /\ D.bk σ' H'
  | .cont=>∃ σ' H',Inv X pins σ' H' s' /\ D.ct σ' H'
  | .ret u=>∃ v σ' H',Inv X pins σ' H' s' /\ RelV v u /\ D.rt v H'
def PE (X:Cx) (e:Expr) (t:TE):Prop:=
  ∀ (pins:List (Addr × Obj)) (s:Shared) (σ:St) (H:Hp) (Q:VK),Inv X pins σ H s->t σ H Q->wpAny (model X.prog X.w) X.A (eval e X.env) (EP X pins σ Q) X.xe s
def PT (X:Cx) (e:Expr) (t:TT):Prop:=
  ∀ (pins:List (Addr × Obj)) (s:Shared) (σ:St) (H:Hp) (Q:Bool->Hp->Prop),Inv X pins σ H s->t σ H Q->wpAny (model X.prog X.w) X.A (isTrue e X.env (eval e X.env)) (TP X pins σ Q) X.xe s
def PW (X:Cx) (e:Expr) (t:TT):Prop:=
  ∀ (whole:Sem Value) (pins:List (Addr × Obj)) (s:Shared) (σ:St) (H:Hp) (Q:Bool->Hp->Prop),Inv X pins σ H s->t σ H Q->wpAny (model X.prog X.w) X.A (isTrue e X.env whole) (TP X pins σ Q) X.xe s
theorem PW.pt {X:Cx} {e:Expr} {t:TT} (h:PW X e t):PT X e t:=h _
def PA (X:Cx) (es:List Expr) (t:TA):Prop:=
  ∀ (pos:Pos) (pins:List (Addr × Obj)) (s:Shared) (σ:St) (H:Hp) (Q:List V->Hp->Prop),Inv X pins σ H s->t σ H Q->wpAny (model X.prog X.w) X.A (spliced (backTo pos (starEach es X.env))) (AP X pins σ Q) X.xe s
def PS (X:Cx) (st:Stmt) (t:TS):Prop:=
  ∀ (pins:List (Addr × Obj)) (s:Shared) (σ:St) (H:Hp) (D:J5),Inv X pins σ H s->t D σ H->wpAny (model X.prog X.w) X.A (exec st X.env) (SP X pins D) X.xe s
def PSs (X:Cx) (st:List Stmt) (t:TS):Prop:=
  ∀ (pins:List (Addr × Obj)) (s:Shared) (σ:St) (H:Hp) (D:J5),Inv X pins σ H s->t D σ H->wpAny (model X.prog X.w) X.A (execs st X.env) (SP X pins D) X.xe s
theorem thn {α:Type} {t:Sem α} {Q Q':α->Shared->Prop} {M:Model} {A:Around} {E:Value->Shared->Prop} {s:Shared} (h:wpAny M A t Q E s) (hQ:∀ a s,Q a s->Q' a s):wpAny M A t Q' E s:=wpAny_mono h hQ fun _ _ x=>x
end L2
namespace L2
open PySem PySem.Spec PyProof.Rows
section
variable {X:Cx}
def Tv (i:Nat):TE:=fun σ H Q=>∃ v,σ[i]? = some (some v) /\ Q v H
def tC (v:V):TE:=fun _ H Q=>Q v H
theorem RP {i:Nat} {x:Str} {pos:Pos} (hN:X.N[i]? = some x) (hv:Vis X.env.scope x) (hd:(x == ("__debug__" : Str))=false:=by decide) (hcd:(x == ("__classdict__" : Str))=false:=by decide):PE X (.Name x pos) (Tv i):=by
  intro pins s σ H Q I h
  obtain ⟨v,e,h⟩:=h
  obtain ⟨m,hn,hl⟩:=I.loc
  obtain ⟨u,r,l⟩:=hl i x v hN e hv
  have fin:EP X pins σ Q u s:=⟨v,H,I,r,h⟩
  rcases l with ⟨hk,hm⟩ | ⟨hk,c,hc,hcell⟩
  . exact wpAny_Name (wpAny_loadName_local I.ok.kind hk hn hm fin) hd
  . rcases hk with hk | hk
    . exact wpAny_Name (wpAny_loadName_cell I.ok.kind hk hc hcell fin) hd
    . exact wpAny_Name (wpAny_loadName_free I.ok.kind hk hc hcell fin hcd) hd
theorem RY {i j pos}:PE X (.Constant (.int i) j pos) (tC (.int i)):=fun _ _ _ H _ I h=>wpAny_Constant_int ⟨.int i,H,I.tok _,⟨_,rfl⟩,h⟩
theorem TJ {b j pos}:PE X (.Constant (.bool b) j pos) (tC (.bl b)):=fun _ _ _ H _ I h=>Constant_bool ⟨.bl b,H,I,rfl,h⟩
theorem RX {j pos}:PE X (.Constant .none j pos) (tC .non):=fun _ _ _ H _ I h=>Constant_none ⟨.non,H,I,rfl,h⟩
theorem RU {x j pos}:PE X (.Constant (.str x) j pos) (tC (.str x)):=fun _ _ _ H _ I h=>Calls.Constant_str ⟨.str x,H,I.tok _,⟨_,rfl⟩,h⟩
def Gl (X:Cx) (x:Str):Prop:=X.env.kindOf x=some .globalImplicit
theorem Ha {E:Value->Shared->Prop} {pins:List (Addr × Obj)} {s:Shared} {σ:St} {H:Hp} {x:Str} {u:Value} {pos:Pos} {Q:Value->Shared->Prop} (I:Inv X pins σ H s) (hg:Gl X x) (hm:X.mg x=some u) (h:Q u s)
    (hd:(x == ("__debug__" : Str))=false:=by decide):wpAny (model X.prog X.w) X.A (eval (.Name x pos) X.env) Q E s:=
  Calls.Name_function_global I.ok.kind hg (Calls.loadGlobal_global (by rw [I.ok.glob]; exact I.mod.glob.keeps I.bk) hm h) hd
theorem El {E:Value->Shared->Prop} {pins:List (Addr × Obj)} {s:Shared} {σ:St} {H:Hp} {x:Str} {u:Value} {pos:Pos} {Q:Value->Shared->Prop} (I:Inv X pins σ H s) (hg:Gl X x) (hm:X.mg x=none) (hv:bootBuiltins x=some u) (h:Q u s)
    (hn:x ≠ "__name__" := by decide) (hd:(x == ("__debug__" : Str))=false:=by decide):wpAny (model X.prog X.w) X.A (eval (.Name x pos) X.env) Q E s:=by
  obtain ⟨mb,h1,h2⟩:=I.mod.blt
  exact Calls.Name_function_global I.ok.kind hg (Calls.loadGlobal_builtin (by rw [I.ok.glob]; exact I.mod.glob.keeps I.bk) hm (by rw [I.ok.blt]; exact h1.keeps I.bk) ((h2 x hn).trans hv) h) hd
theorem KY {x:Str} {v:V} {u:Value} {pos:Pos} (hg:Gl X x) (hm:X.mg x=some u) (r:RelV v u) (hd:(x == ("__debug__" : Str))=false:=by decide):PE X (.Name x pos) (tC v):=
  fun _ _ _ H _ I h=>Ha I hg hm ⟨v,H,I,r,h⟩ hd
theorem PF {x:Str} {v:V} {u:Value} {pos:Pos} (hg:Gl X x) (hm:X.mg x=none) (hv:bootBuiltins x=some u) (r:RelV v u) (hn:x ≠ "__name__" := by decide) (hd:(x == ("__debug__" : Str))=false:=by decide):PE X (.Name x pos) (tC v):=
  fun _ _ _ H _ I h=>El I hg hm hv ⟨v,H,I,r,h⟩ hn hd
variable {a b:Expr} {ta tb:TE} {pos:Pos}
def tB (t:TE):TT:=fun σ H Q=>t σ H fun x H1=>∃ c,x=.bl c /\ Q c H1
theorem RC {e:Expr} {t:TE} (h:PE X e t) (he:∀ whole,isTrue e X.env whole=(do let v ← whole; standAt e.pos; holding [v] (truthy v)):=by intro _; rfl):PT X e (tB t):=by
  intro pins s σ H Q I hw
  refine isTrue_plain (thn (h pins s σ H _ I hw) fun v s1 ⟨x,H1,I1,r1,q1⟩=>?_) (he _)
  obtain ⟨d,rfl,q⟩:=q1
  cases r1
  exact wpAny_truthy_bool ⟨H1,I1,q⟩
variable {tA tB':TT} {rest:List Expr}
def T6 (t u:TT):TT:=fun σ H Q=>t σ H fun c H1=>if c=true then u σ H1 Q else Q false H1
def tOr (t u:TT):TT:=fun σ H Q=>t σ H fun c H1=>if c=true then Q true H1 else u σ H1 Q
def T0 (t:TT):TT:=fun σ H Q=>t σ H fun c H1=>Q (!c) H1
theorem Ov (ha:PT X a tA):PW X (.BoolOp .And [a] pos) tA:=by
  intro wh pins s σ H Q I h
  refine isTrue_and (thn (ha pins s σ H Q I h) fun c s1 e=>?_)
  cases c with
  | true=>exact isTrue_and_nil e
  | false=>exact e
theorem Q8 (ha:PT X a tA):PW X (.BoolOp .Or [a] pos) tA:=by
  intro wh pins s σ H Q I h
  refine isTrue_or (thn (ha pins s σ H Q I h) fun c s1 e=>?_)
  cases c with
  | false=>exact isTrue_or_nil e
  | true=>exact e
theorem Q9 (ha:PT X a tA) (hb:PW X (.BoolOp .And (b :: rest) pos) tB'):PW X (.BoolOp .And (a :: b :: rest) pos) (T6 tA tB'):=by
  intro wh pins s σ H Q I h
  refine isTrue_and (thn (ha pins s σ H _ I h) fun c s1 ⟨H1,I1,q1⟩=>?_)
  cases c with
  | true=>exact hb wh pins s1 σ H1 Q I1 q1
  | false=>exact ⟨H1,I1,q1⟩
theorem S7 (ha:PT X a tA) (hb:PW X (.BoolOp .Or (b :: rest) pos) tB'):PW X (.BoolOp .Or (a :: b :: rest) pos) (tOr tA tB'):=by
  intro wh pins s σ H Q I h
  refine isTrue_or (thn (ha pins s σ H _ I h) fun c s1 ⟨H1,I1,q1⟩=>?_)
  cases c with
  | true=>exact ⟨H1,I1,q1⟩
  | false=>exact hb wh pins s1 σ H1 Q I1 q1
theorem RD (ha:PT X a tA):PT X (.UnaryOp .Not a pos) (T0 tA):=by
  intro pins s σ H Q I h
  exact isTrue_not (ha pins s σ H (fun c H1=>Q (!c) H1) I h)
def tIf (t:TT) (ta tb:TE):TE:=fun σ H Q=>t σ H fun c H1=>if c=true then ta σ H1 Q else tb σ H1 Q
theorem M1 {c:Expr} (hc:PT X c tA) (ha:PE X a ta) (hb:PE X b tb):PE X (.IfExp c a b pos) (tIf tA ta tb):=by
  intro pins s σ H Q I h
  refine wpAny_IfExp (thn (hc pins s σ H _ I h) fun d s1 ⟨H1,I1,q1⟩=>?_)
  cases d with
  | true=>exact ha pins s1 σ H1 Q I1 q1
  | false=>exact hb pins s1 σ H1 Q I1 q1
end
end L2
namespace L2
open PySem PySem.Spec PyProof.Rows
def SqL (K:PySem.W.Frag) (H:Hp) (a:Addr) (xs:List V):Prop:=
  Rd H a (.lst xs) ∨
    ∃ (o:Obj) (its:Array Value) (n:Nat),K.lookup a=some o /\ o.cls=.type "list" /\ o.dict=none /\ o.data=.seq its n /\ its.size <= sizeLine /\ Vals xs its.toList
def SqT (K:PySem.W.Frag) (H:Hp) (a:Addr) (xs:List V):Prop:=
  Rd H a (.tup xs) ∨
    ∃ (o:Obj) (its:Array Value) (n:Nat),K.lookup a=some o /\ o.cls=.type "tuple" /\ o.data=.seq its n /\ its.size <= sizeLine /\ Vals xs its.toList
def UM:Value->Option V
  | .none=>some .non
  | .bool b=>some (.bl b)
  | .int i _=>some (.int i)
  | .str x _=>some (.str x)
  | .bytes b _=>some (.byt b)
  | .float b _=>some (.flt b)
  | .ref a=>some (.ref a)
  | .type n=>some (.ty n)
  | _=>none
theorem RelV.abs {x:V} {u:Value} (r:RelV x u):UM u=some x:=by
  cases x with
  | non=>cases r; rfl
  | bl _=>cases r; rfl
  | int _=>obtain ⟨t,rfl⟩:=r; rfl
  | str _=>obtain ⟨t,rfl⟩:=r; rfl
  | byt _=>obtain ⟨t,rfl⟩:=r; rfl
  | flt _=>obtain ⟨t,rfl⟩:=r; rfl
  | ref _=>cases r; rfl
  | ty _=>cases r; rfl
theorem RelV.inj {x y:V} {u:Value} (r:RelV x u) (q:RelV y u):x=y:=Option.some.inj (r.abs.symm.trans q.abs)
theorem Vals.inj:∀ {xs ys:List V} {us:List Value},Vals xs us->Vals ys us->xs=ys
  | _,_,_,.nil,.nil=>rfl
  | _,_,_,.cons r t,.cons r' t'=>by rw [r.inj r',Vals.inj t t']
section
variable {X:Cx} {pins:List (Addr × Obj)} {σ:St} {H:Hp} {s:Shared} {a:Addr} {xs ys:List V}
theorem SqL.of {K:PySem.W.Frag} (h:H a=some (.lst xs)):SqL K H a xs:=.inl (.inl h)
theorem SqT.of {K:PySem.W.Frag} (h:H a=some (.tup xs)):SqT K H a xs:=.inl (.inl h)
theorem Inv.list (I:Inv X pins σ H s) (h:SqL X.K H a xs):∃ its:List Value,Vals xs its /\ PlainL s.heap a its.toArray /\ xs.length <= sizeLine:=by
  rcases h with h | ⟨o,its,n,hk,hc,hd,hs,hz,r⟩
  . obtain ⟨z,its,n,r,e⟩:=h.ok I.hok
    exact ⟨its,r,⟨_,n,e,rfl,rfl,rfl⟩,z⟩
  . refine ⟨its.toList,r,⟨o,n,I.kIn a o hk,hc,hd,by simpa using hs⟩,?_⟩
    have e:=r.length
    simp only [Array.length_toList] at e
    omega
theorem Inv.tuple (I:Inv X pins σ H s) (h:SqT X.K H a xs):∃ its:List Value,Vals xs its /\ IsTup s.heap a its.toArray /\ xs.length <= sizeLine:=by
  rcases h with h | ⟨o,its,n,hk,hc,hs,hz,r⟩
  . obtain ⟨z,its,r,p⟩:=h.ok I.hok
    exact ⟨its,r,p,z⟩
  . refine ⟨its.toList,r,⟨o,I.kIn a o hk,hc,n,by simpa using hs⟩,?_⟩
    have e:=r.length
    simp only [Array.length_toList] at e
    omega
theorem Inv.list_inj (I:Inv X pins σ H s) (h:SqL X.K H a xs) (h':SqL X.K H a ys):xs=ys:=by
  obtain ⟨its,r,⟨o,n,e,_,_,d⟩,_⟩:=I.list h
  obtain ⟨its',r',⟨o',n',e',_,_,d'⟩,_⟩:=I.list h'
  rw [e] at e'; cases e'
  rw [d] at d'
  injection d' with d1 _
  have:its=its':=by simpa using congrArg Array.toList d1
  subst this
  exact r.inj r'
theorem Inv.tuple_inj (I:Inv X pins σ H s) (h:SqT X.K H a xs) (h':SqT X.K H a ys):xs=ys:=by
  obtain ⟨its,r,⟨o,e,_,n,d⟩,_⟩:=I.tuple h
  obtain ⟨its',r',⟨o',e',_,n',d'⟩,_⟩:=I.tuple h'
  rw [e] at e'; cases e'
  rw [d] at d'
  injection d' with d1 _
  have:its=its':=by simpa using congrArg Array.toList d1
  subst this
  exact r.inj r'
end
abbrev Cx.wish (X:Cx) (E:Value->Shared->Prop):Cx:={ X with xe:=E }
abbrev Cx.nox (X:Cx):Cx:=X.wish fun _ _=>False
theorem Cx.Ok.wish {X:Cx} (ok:X.Ok) (E:Value->Shared->Prop):(X.wish E).Ok:=
  ⟨ok.mod,ok.kind,ok.glob,ok.blt,ok.above,ok.inj,ok.has,ok.cab,ok.hd,ok.frames,ok.stk,ok.exf,ok.bs,ok.bsz,ok.noex,ok.exfs,ok.funs,ok.frf⟩
theorem Cx.Ok.unwish {X:Cx} {E:Value->Shared->Prop} (ok:(X.wish E).Ok):X.Ok:=
  ⟨ok.mod,ok.kind,ok.glob,ok.blt,ok.above,ok.inj,ok.has,ok.cab,ok.hd,ok.frames,ok.stk,ok.exf,ok.bs,ok.bsz,ok.noex,ok.exfs,ok.funs,ok.frf⟩
section
variable {X:Cx} {pins:List (Addr × Obj)} {σ:St} {H:Hp} {s:Shared} {E:Value->Shared->Prop}
theorem Inv.wish (I:Inv X pins σ H s) (E:Value->Shared->Prop):Inv (X.wish E) pins σ H s:=⟨I.ok.wish E,I.os,I.bare,I.base,I.loc,I.cell,I.free,I.freeC,I.pin,I.hok,I.len⟩
theorem Inv.unwish (I:Inv (X.wish E) pins σ H s):Inv X pins σ H s:=⟨I.ok.unwish,I.os,I.bare,I.base,I.loc,I.cell,I.free,I.freeC,I.pin,I.hok,I.len⟩
theorem SP.unwish {D:J5} {f:Flow} {s':Shared} (h:SP (X.wish E) pins D f s'):SP X pins D f s':=by
  cases f with
  | next=>obtain ⟨σ',H',I,q⟩:=h; exact ⟨σ',H',I.unwish,q⟩
  | brk=>obtain ⟨σ',H',I,q⟩:=h; exact ⟨σ',H',I.unwish,q⟩
  | cont=>obtain ⟨σ',H',I,q⟩:=h; exact ⟨σ',H',I.unwish,q⟩
  | ret u=>obtain ⟨v,σ',H',I,r,q⟩:=h; exact ⟨v,σ',H',I.unwish,r,q⟩
theorem PSs.nox {st:List Stmt} {t:TS} (h:PSs X.nox st t):PSs X st t:=fun pins s σ H D I hw=>
  wpAny_mono (h pins s σ H D (I.wish _) hw) (fun _ _ q=>q.unwish) fun _ _ z=>False.elim z
end
section
variable {X:Cx} {st:Stmt} {rest:List Stmt} {t u:TS} {e:Expr} {te:TE} {pos:Pos}
def Sa:TS:=fun D σ H=>D.nx σ H
def Tx (t u:TS):TS:=fun D σ H=>t { D with nx:=u D } σ H
theorem O1:PSs X [] Sa:=fun _ _ σ H _ I h=>wpAny_execs_nil ⟨σ,H,I,h⟩
theorem Ms (h1:PS X st t) (h2:PSs X rest u):PSs X (st :: rest) (Tx t u):=by
  intro pins s σ H D I h
  refine wpAny_execs_cons (thn (h1 pins s σ H { D with nx:=u D } I h) fun f s1 q=>?_)
  cases f with
  | next=>
    obtain ⟨σ',H',I',q⟩:=q
    exact h2 pins s1 σ' H' D I' q
  | ret v=>exact q
  | brk=>exact q
  | cont=>exact q
theorem O0 (h1:PS X st t):PSs X [st] t:=by
  intro pins s σ H D I h
  refine wpAny_execs_cons (thn (h1 pins s σ H D I h) fun f s1 q=>?_)
  cases f with
  | next=>exact wpAny_execs_nil q
  | ret v=>exact q
  | brk=>exact q
  | cont=>exact q
theorem Inv.quiet {pins:List (Addr × Obj)} {σ:St} {H:Hp} {s:Shared} (I:Inv X pins σ H s):interactive X.env=false:=by simp [interactive,I.ok.kind]
def Se (te:TE):TS:=fun D σ H=>te σ H fun _ H1=>D.nx σ H1
theorem O2 (he:PE X e te) (hs:swapsWith e none pos.line X.env=pure false:=by rfl):PS X (.Expr e pos) (Se te):=by
  intro pins s σ H D I h
  exact wpAny_Expr_any (thn (he pins s σ H _ I h) fun v s1 ⟨x,H1,I1,r1,q1⟩=>⟨σ,H1,I1,q1⟩) I.quiet hs
def Tz (te:TE):TS:=fun D σ H=>te σ H D.rt
theorem RH (he:PE X e te):PS X (.Return (some e) pos) (Tz te):=by
  intro pins s σ H D I h
  exact wpAny_Return_some (thn (he pins s σ H _ I h) fun v s1 ⟨x,H1,I1,r1,q1⟩=>⟨x,σ,H1,I1,r1,q1⟩)
def T3 (c:TT) (t u:TS):TS:=fun D σ H=>c σ H fun b H1=>if b=true then t D σ H1 else u D σ H1
theorem TB {c:Expr} {a b:List Stmt} {tc:TT} (hc:PT X c tc) (ha:PSs X a t) (hb:PSs X b u):PS X (.If c a b pos) (T3 tc t u):=by
  intro pins s σ H D I h
  refine wpAny_If (thn (hc pins s σ H _ I h) fun d s1 ⟨H1,I1,q1⟩=>?_)
  cases d with
  | true=>exact ha pins s1 σ H1 D I1 q1
  | false=>exact hb pins s1 σ H1 D I1 q1
end
abbrev TG:=V->St->Hp->(St->Hp->Prop)->Prop
abbrev TGs:=List V->St->Hp->(St->Hp->Prop)->Prop
def PG (X:Cx) (target:Expr) (t:TG):Prop:=
  ∀ (pins:List (Addr × Obj)) (s:Shared) (σ:St) (H:Hp) (v:V) (u:Value) (Q:St->Hp->Prop),Inv X pins σ H s->RelV v u->t v σ H Q->
    wpAny (model X.prog X.w) X.A (assign target X.env u) (fun _ s'=>∃ σ' H',Inv X pins σ' H' s' /\ Q σ' H') X.xe s
def PGs (X:Cx) (ts:List Expr) (t:TGs):Prop:=
  ∀ (pins:List (Addr × Obj)) (s:Shared) (σ:St) (H:Hp) (vs:List V) (us:List Value) (Q:St->Hp->Prop),Inv X pins σ H s->Vals vs us->t vs σ H Q->
    wpAny (model X.prog X.w) X.A (assignInOrder ((assignEach ts X.env).map (·.2)) us) (fun _ s'=>∃ σ' H',Inv X pins σ' H' s' /\ Q σ' H') X.xe s
abbrev SJ:=V->V->V->Hp->(Hp->Prop)->Prop
def Tr (X:Cx) (t:SJ):Prop:=
  ∀ (pins:List (Addr × Obj)) (s:Shared) (σ:St) (H:Hp) (o i v:V) (ov iv u:Value) (Q:Hp->Prop),Inv X pins σ H s->RelV o ov->RelV i iv->RelV v u->t o i v H Q->
    wpAny (model X.prog X.w) X.A (setItem ov iv u) (fun _ s'=>∃ H',Inv X pins σ H' s' /\ Q H') X.xe s
section
variable {X:Cx} {pos:Pos}
def DL (i:Nat):TG:=fun v σ H Q=>Q (σ.set i (some v)) H
theorem Aq {i:Nat} {x:Str} (hN:X.N.Nodup) (hi:X.N[i]? = some x) (hx:Loc X.env.scope x) (hf:X.fn x=true ∨ X.env.scope.names.lookup x=some .local:=by first | exact .inl rfl | exact .inr rfl | assumption):PG X (.Name x pos) (DL i):=by
  intro pins s σ H v u Q I r h
  exact wpAny_assign_Name (IH I hN hi hx r (fun s' I'=>⟨_,H,I',h⟩) hf)
def Tf:TGs:=fun vs σ H Q=>vs=[] /\ Q σ H
def QN (t:TG) (u:TGs):TGs:=fun vs σ H Q=>∃ v r,vs=v :: r /\ t v σ H fun σ' H'=>u r σ' H' Q
theorem EJ:PGs X [] Tf:=by
  intro pins s σ H vs us Q I r h
  obtain ⟨e,h⟩:=h
  subst e
  cases r
  exact assignInOrder_nil ⟨σ,H,I,h⟩
theorem BT {e:Expr} {es:List Expr} {t:TG} {u:TGs} (h1:PG X e t) (h2:PGs X es u)
    (hs:(assignEach (e :: es) X.env).map (·.2)=assign e X.env :: (assignEach es X.env).map (·.2):=by rfl):PGs X (e :: es) (QN t u):=by
  intro pins s σ H vs us Q I r h
  obtain ⟨v,vr,e1,h⟩:=h
  subst e1
  cases r with
  | cons r rr=>
    rw [hs]
    refine assignInOrder_cons (thn (h1 pins s σ H _ _ _ I r h) fun _ s1 ⟨σ1,H1,I1,q1⟩=>?_)
    exact h2 pins s1 σ1 H1 _ _ Q I1 rr q1
def R7 (K:PySem.W.Frag) (n:Nat) (t:TGs):TG:=fun v σ H Q=>∃ a xs,v=.ref a /\ SqT K H a xs /\ xs.length=n /\ t xs σ H Q
theorem My {es:List Expr} {k:Nat} {t:TGs} {n:Nat} (hc:X.calm=true) (h:PGs X es t)
    (hn:(assignEach es X.env).length=n:=by rfl) (hst:(assignEach es X.env).findIdx? (·.1)=none:=by rfl):PG X (.Tuple es k pos) (R7 X.K n t):=by
  intro pins s σ H v u Q I r hw
  obtain ⟨a,xs,e1,hq,hl,hw⟩:=hw
  subst e1
  cases r
  obtain ⟨its,rv,ht,hz⟩:=I.tuple hq
  refine assign_Tuple_tuple (I.ok.hd hc) ht (by simp [hn,← hl,rv.length]) hst fun h' hx=>?_
  have I1:Inv X pins σ H { s with heap:=h' }:=I.kept (t':=s.toks) fun b o e=>hx b o (Nat.ne_of_lt (Heap.lt_size e)) e
  exact h pins _ σ H xs _ Q I1 (by simpa using rv) hw
def UL (to ti:TE) (t:SJ):TG:=fun v σ H Q=>to σ H fun o H1=>ti σ H1 fun i H2=>t o i v H2 fun H3=>Q σ H3
theorem RN {o i:Expr} {to ti:TE} {t:SJ} (ho:PE X o to) (hi:PE X i ti) (hs:Tr X t)
    (ha:∀ v,assign (.Subscript o i pos) X.env v=(do
      let ov ← holding [v] (eval o X.env)
      let iv ← holding [v,ov] (eval i X.env)
      standAt pos
      holding [v,ov,iv] (setItem ov iv v)
      release [v,ov,iv] []):=by intro _; rfl):PG X (.Subscript o i pos) (UL to ti t):=by
  intro pins s σ H v u Q I r h
  rw [ha]
  refine wpAny_bind (wpAny_holding (thn (ho pins s σ H _ I h) fun ov s1 ⟨x,H1,I1,r1,q1⟩=>?_))
  refine wpAny_bind (wpAny_holding (thn (hi pins s1 σ H1 _ I1 q1) fun iv s2 ⟨y,H2,I2,r2,q2⟩=>?_))
  refine wpAny_bind (wpAny_standAt (wpAny_bind (wpAny_holding (thn (hs pins s2 σ H2 x y v ov iv u _ I2 r1 r2 r q2) fun _ s3 ⟨H3,I3,q3⟩=>?_))))
  exact wpAny_release ⟨σ,H3,I3,q3⟩
def OP (te:TE) (g:TG):TS:=fun D σ H=>te σ H fun x H1=>g x σ H1 D.nx
theorem RL {tg e:Expr} {te:TE} {g:TG} (he:PE X e te) (hg:PG X tg g) (hs:swapsWithSole [tg] e pos.line X.env=pure false:=by rfl) (hw:swappedStores [tg] e X.env=pure none:=by rfl)
    (h1:(assignEach [tg] X.env).map (·.2)=[assign tg X.env]:=by rfl):PS X (.Assign [tg] e pos) (OP te g):=by
  intro pins s σ H D I h
  refine wpAny_Assign_stores (thn (he pins s σ H _ I h) fun v s1 ⟨x,H1,I1,r1,q1⟩=>?_) hs hw
  rw [h1]
  exact thn (hg pins s1 σ H1 x v _ I1 r1 q1) fun _ s2 q=>q
theorem RF {i:Nat} {x:Str} {e:Expr} {te:TE} {pos':Pos} (hN:X.N.Nodup) (hi:X.N[i]? = some x) (hx:Loc X.env.scope x) (he:PE X e te) (hs:swapsWith e (some (.Name x pos')) pos.line X.env=pure false:=by rfl) (hf:X.fn x=true ∨ X.env.scope.names.lookup x=some .local:=by first | exact .inl rfl | exact .inr rfl | assumption) :
    PS X (.Assign [.Name x pos'] e pos) (OP te (DL i)):=by
  intro pins s σ H D I h
  refine wpAny_Assign_Name (thn (he pins s σ H _ I h) fun v s1 ⟨y,H1,I1,r1,q1⟩=>?_) hs
  exact IH I1 hN hi hx r1 (fun s2 I2=>⟨_,H1,I2,q1⟩) hf
end
section
variable {X:Cx} {pos:Pos}
end
structure It where
  go:Nat->Hp->Prop
  yld:Nat->Hp->V->Hp->Prop
  stop:Nat->Hp->Prop
def DP (X:Cx) (pins:List (Addr × Obj)) (H:Hp) (b:Addr):Prop:=
  H b=none /\ b ≠ X.env.locals /\ b ∉ X.fs /\ (b ∈ X.ex ∨ X.s₀.heap.objs.size <= b) /\ (∀ x c,X.env.cells.lookup x=some c->c ≠ b) /\ ∀ p ∈ X.pn ++ pins,p.1 ≠ b
theorem Inv.fpOk {X:Cx} {pins:List (Addr × Obj)} {σ:St} {H H':Hp} {s:Shared} {b:Addr} (I:Inv X pins σ H s) (hb:s.heap.objs.size <= b) (hn:H' b=none):DP X pins H' b:=by
  refine ⟨hn,Nat.ne_of_gt (Nat.lt_of_lt_of_le I.lt hb),I.nofs hb,.inr (Nat.le_trans I.sz hb),fun x c e z=>?_,fun p hp z=>?_⟩
  . obtain ⟨v,q⟩:=I.cell x c e
    exact absurd (Nat.lt_of_lt_of_le q.lt (by rw [z]; exact hb)) (Nat.lt_irrefl _)
  . exact absurd (Nat.lt_of_lt_of_le (Heap.lt_size (I.pin p hp).1) (by rw [z]; exact hb)) (Nat.lt_irrefl _)
structure Hl (P:Program) (w:World) (K:PySem.W.Frag) (tg:Expr) (J:It) (fp:List Addr) (it:Addr) (tn:Nat->Heap->Prop):Prop where
  mem:it ∈ fp
  obj:∀ i h,tn i h->∀ b ∈ fp,∃ o,h.get? b=some o /\ ∀ v,o.data ≠ .cell v
  keep:∀ i h h',tn i h->(∀ b ∈ fp,∀ o,h.get? b=some o->h'.get? b=some o)->tn i h'
  item:∀ (X:Cx),X.prog=P->X.w=w->X.K=K->X.calm=true->∀ (i:Nat) (pins:List (Addr × Obj)) (s:Shared) (σ:St) (H:Hp) (E:Value->Shared->Prop),Inv X pins σ H s->(∀ b ∈ fp,DP X pins H b)->tn i s.heap->J.go i H->
    wpAny (model P w) X.A (pyNext (.ref it)) (fun r s1=>∃ u,r=some u /\
      wpAny (model P w) X.A (letOwnedTupleGo tg (.ref it) u) (fun _ s2=>∃ x H',Inv X pins σ H' s2 /\ RelV x u /\ J.yld i H x H' /\ tn (i + 1) s2.heap /\ ∀ b ∈ fp,H' b=none) E s1) E s
  done:∀ (X:Cx),X.prog=P->X.w=w->X.K=K->X.calm=true->∀ (i:Nat) (pins:List (Addr × Obj)) (s:Shared) (σ:St) (H:Hp) (E:Value->Shared->Prop),Inv X pins σ H s->(∀ b ∈ fp,DP X pins H b)->tn i s.heap->J.stop i H->
    wpAny (model P w) X.A (pyNext (.ref it)) (fun r s1=>r=none /\ Inv X pins σ H s1) E s
  self:∀ (A:Around) (i:Nat) (s:Shared) (Q:Value->Shared->Prop) (E:Value->Shared->Prop),tn i s.heap->Q (.ref it) s->wpAny (model P w) A (pyIter (.ref it)) Q E s
abbrev TI:=St->Hp->(It->Hp->Prop)->Prop
def PIE (X:Cx) (pins:List (Addr × Obj)) (σ:St) (tg:Expr) (R:It->Hp->Prop) (itv:Value) (s2:Shared):Prop:=
  ∃ (it:Addr) (fp:List Addr) (tn:Nat->Heap->Prop) (J:It) (H':Hp),itv=.ref it /\ Inv X pins σ H' s2 /\ Hl X.prog X.w X.K tg J fp it tn /\ tn 0 s2.heap /\ (∀ b ∈ fp,DP X pins H' b) /\ R J H'
def PI (X:Cx) (tg iter:Expr) (wi:TI):Prop:=
  ∀ (pins:List (Addr × Obj)) (s:Shared) (σ:St) (H:Hp) (R:It->Hp->Prop),Inv X pins σ H s->wi σ H R->
    wpAny (model X.prog X.w) X.A (eval iter X.env) (fun v s1=>wpAny (model X.prog X.w) X.A (pyIter v) (PIE X pins σ tg R) X.xe s1) X.xe s
theorem NZ {M:Model} {A:Around} {E:Value->Shared->Prop} {s:Shared} {tg:Expr} {it:Addr} {u:Value} {o:Obj} {n:String} {vs:Array Value} {Q:Unit->Shared->Prop} (ho:s.heap.get? it=some o) (hc:o.cls=.type n) (hd:o.data=.fields vs)
    (hn:["enumerate", "zip", "dict_itemiterator", "dict_reverseitemiterator", "odict_iterator", "itertools.zip_longest", "itertools.pairwise"].contains n=false) (hQ:Q () s):wpAny M A (letOwnedTupleGo tg (.ref it) u) Q E s:=by
  unfold letOwnedTupleGo
  cases tg <;> first
    | exact wpAny_pure hQ
    | (cases u <;> first
        | exact wpAny_pure hQ
        | (refine wpAny_bind (wpAny_load ho ?_)
           rw [hc,hd]
           show wpAny M A (if (["enumerate", "zip", "dict_itemiterator", "dict_reverseitemiterator", "odict_iterator", "itertools.zip_longest", "itertools.pairwise"].contains n && vs[0]? == some (rawInt _))=true then _ else _) Q E s
           rw [if_neg (by intro h; rw [hn,Bool.false_and] at h; cases h)]
           exact wpAny_pure hQ))
def Itl (K:PySem.W.Frag) (a:Addr):It:=
  ⟨fun i H=>∃ xs x,SqL K H a xs /\ xs[i]? = some x,fun i H x H'=>H'=H /\ ∀ xs,SqL K H a xs->xs[i]? = some x,fun i H=>∃ xs,SqL K H a xs /\ xs.length <= i⟩
def Itt (K:PySem.W.Frag) (a:Addr):It:=
  ⟨fun i H=>∃ xs x,SqT K H a xs /\ xs[i]? = some x,fun i H x H'=>H'=H /\ ∀ xs,SqT K H a xs->xs[i]? = some x,fun i H=>∃ xs,SqT K H a xs /\ xs.length <= i⟩
def Itr (lo:Int) (n:Nat):It:=⟨fun i _=>i < n,fun i H x H'=>H'=H /\ x=.int (lo + i),fun i _=>n <= i⟩
theorem K9 {P:Program} {w:World} {K:PySem.W.Frag} {tg:Expr} (a it:Addr):Hl P w K tg (Itl K a) [it] it (fun i h=>h.IsListIter it a i) where
  mem:=by simp
  obj:=fun i h st b hb=>by
    have e:b=it:=by simpa using hb
    subst e
    obtain ⟨o,e,c,d⟩:=st
    exact ⟨o,e,fun v z=>by rw [d] at z; cases z⟩
  keep:=fun i h h' st k=>st.at fun o e=>k it (by simp) o e
  item:=by
    intro X hP hw hK hc i pins s σ H E I hf st hg
    subst hP hw hK
    obtain ⟨xs,x,hq,hx⟩:=hg
    obtain ⟨its,rv,p,hz⟩:=I.list hq
    obtain ⟨u,hu,ru⟩:=rv.get hx
    obtain ⟨f0,f1,f2,f3,f4,f5⟩:=hf it (by simp)
    refine wpAny_pyNext_list_item st p.isList (x:=u) (by simpa using hu) fun h' st' sb=>?_
    have I1:Inv X pins σ H { s with heap:=h' }:=I.turned (t':=s.toks) (fun b o hb e=>(sb.2 b hb).trans e) f0 f1 f3 f4 f5
    obtain ⟨o,e,c,d⟩:=id st'
    exact ⟨u,rfl,NZ (s:={ s with heap:=h' }) e c d (by decide) ⟨x,H,I1,ru,⟨rfl,fun ys hy=>by rw [I.list_inj hy hq]; exact hx⟩,st',fun b hb=>(hf b hb).1⟩⟩
  done:=by
    intro X hP hw hK hc i pins s σ H E I hf st hg
    subst hP hw hK
    obtain ⟨xs,hq,hx⟩:=hg
    obtain ⟨its,rv,p,hz⟩:=I.list hq
    obtain ⟨f0,f1,f2,f3,f4,f5⟩:=hf it (by simp)
    have hl:=rv.length
    exact wpAny_pyNext_list_end (I.ok.hd hc) st p.isList (by simp; omega) fun h' eb=>⟨rfl,I.turned (t':=s.toks) (fun b o hb e=>eb b o hb e) f0 f1 f3 f4 f5⟩
  self:=fun _ _ _ _ _ st h=>wpAny_pyIter_listiter st h
theorem JV {P:Program} {w:World} {K:PySem.W.Frag} {tg:Expr} (a it:Addr):Hl P w K tg (Itt K a) [it] it (fun i h=>h.IsTupleIter it a i) where
  mem:=by simp
  obj:=fun i h st b hb=>by
    have e:b=it:=by simpa using hb
    subst e
    obtain ⟨o,e,c,d⟩:=st
    exact ⟨o,e,fun v z=>by rw [d] at z; cases z⟩
  keep:=fun i h h' st k=>st.at fun o e=>k it (by simp) o e
  item:=by
    intro X hP hw hK hc i pins s σ H E I hf st hg
    subst hP hw hK
    obtain ⟨xs,x,hq,hx⟩:=hg
    obtain ⟨its,rv,p,hz⟩:=I.tuple hq
    obtain ⟨u,hu,ru⟩:=rv.get hx
    obtain ⟨f0,f1,f2,f3,f4,f5⟩:=hf it (by simp)
    refine wpAny_pyNext_tuple_item st (show s.heap.IsTuple a its.toArray from p) (x:=u) (by simpa using hu) fun h' st' sb=>?_
    have I1:Inv X pins σ H { s with heap:=h' }:=I.turned (t':=s.toks) (fun b o hb e=>(sb.2 b hb).trans e) f0 f1 f3 f4 f5
    obtain ⟨o,e,c,d⟩:=id st'
    exact ⟨u,rfl,NZ (s:={ s with heap:=h' }) e c d (by decide) ⟨x,H,I1,ru,⟨rfl,fun ys hy=>by rw [I.tuple_inj hy hq]; exact hx⟩,st',fun b hb=>(hf b hb).1⟩⟩
  done:=by
    intro X hP hw hK hc i pins s σ H E I hf st hg
    subst hP hw hK
    obtain ⟨xs,hq,hx⟩:=hg
    obtain ⟨its,rv,p,hz⟩:=I.tuple hq
    obtain ⟨f0,f1,f2,f3,f4,f5⟩:=hf it (by simp)
    have hl:=rv.length
    exact wpAny_pyNext_tuple_end (I.ok.hd hc) st (show s.heap.IsTuple a its.toArray from p) (by simp; omega) fun h' eb=>⟨rfl,I.turned (t':=s.toks) (fun b o hb e=>eb b o hb e) f0 f1 f3 f4 f5⟩
  self:=fun _ _ _ _ _ st h=>wpAny_pyIter_tupleiter st h
theorem JW {P:Program} {w:World} {K:PySem.W.Frag} {tg:Expr} (it:Addr) (lo:Int) (n:Nat):Hl P w K tg (Itr lo n) [it] it (fun i h=>IsRangeIter h it (lo + (i:Nat) * 1) ((n:Int) - (i:Nat)) 1) where
  mem:=by simp
  obj:=fun i h st b hb=>by
    have e:b=it:=by simpa using hb
    subst e
    exact ⟨_,st,fun v z=>by
      have z':Data.fields _=Data.cell v:=z
      cases z'⟩
  keep:=fun i h h' st k=>k it (by simp) _ st
  item:=by
    intro X hP hw hK hc i pins s σ H E I hf st hg
    subst hP hw hK
    obtain ⟨f0,f1,f2,f3,f4,f5⟩:=hf it (by simp)
    have W:=Walks.range (prog:=X.prog) (w:=X.w) (I.ok.hd hc) it lo 1 n
    refine W.item i s _ _ hg st fun v h' tk hv st' kk=>?_
    obtain ⟨t,rfl⟩:=hv
    have I1:Inv X pins σ H { s with heap:=h',toks:=tk }:=I.turned (fun b o hb e=>kk b o (by simpa using hb) e) f0 f1 f3 f4 f5
    refine ⟨_,rfl,NZ (s:={ s with heap:=h',toks:=tk }) (n := "range_iterator") st' rfl rfl (by decide) ⟨.int (lo + i),H,I1,⟨t,?_⟩,⟨rfl,rfl⟩,st',fun b hb=>(hf b hb).1⟩⟩
    rw [Int.mul_one]
  done:=by
    intro X hP hw hK hc i pins s σ H E I hf st hg
    subst hP hw hK
    obtain ⟨f0,f1,f2,f3,f4,f5⟩:=hf it (by simp)
    exact wpAny_pyNext_range_end (I.ok.hd hc) st (by have:n <= i:=hg; omega) fun h' eb=>⟨rfl,I.turned (t':=s.toks) (fun b o hb e=>eb b o hb e) f0 f1 f3 f4 f5⟩
  self:=fun _ _ _ _ _ st h=>wpAny_pyIter_rangeiter st h
end L2
namespace L2
open PySem PySem.Spec PyProof.Rows
section
variable {X:Cx} {tg:Expr}
def QK (K:PySem.W.Frag) (tl:TE):TI:=fun σ H R=>tl σ H fun x H1=>∃ a,x=.ref a /\ (∃ xs,SqL K H1 a xs) /\ R (Itl K a) H1
def Tc (K:PySem.W.Frag) (tl:TE):TI:=fun σ H R=>tl σ H fun x H1=>∃ a,x=.ref a /\ (∃ xs,SqT K H1 a xs) /\ R (Itt K a) H1
theorem KW {l:Expr} {tl:TE} (hl:PE X l tl):PI X tg l (QK X.K tl):=by
  intro pins s σ H R I h
  refine thn (hl pins s σ H _ I h) fun v s1 ⟨x,H1,I1,r1,q1⟩=>?_
  obtain ⟨a,e,⟨xs,hq⟩,q⟩:=q1
  subst e
  cases r1
  obtain ⟨its,rv,p,hz⟩:=I1.list hq
  refine wpAny_pyIter_list p.isList ?_
  refine ⟨s1.heap.objs.size,[s1.heap.objs.size],_,_,H1,rfl,I1.kept (t':=s1.toks) fun b o e=>Heap.get?_push_of_some _ e,K9 a _,⟨_,Heap.get?_push_size _ rfl,rfl,rfl⟩,fun b hb=>?_,q⟩
  have e:b=s1.heap.objs.size:=by simpa using hb
  subst e
  exact I1.fpOk (Nat.le_refl _) (I1.hok.fresh (Nat.le_refl _))
theorem RM {l:Expr} {tl:TE} (hl:PE X l tl):PI X tg l (Tc X.K tl):=by
  intro pins s σ H R I h
  refine thn (hl pins s σ H _ I h) fun v s1 ⟨x,H1,I1,r1,q1⟩=>?_
  obtain ⟨a,e,⟨xs,hq⟩,q⟩:=q1
  subst e
  cases r1
  obtain ⟨its,rv,p,hz⟩:=I1.tuple hq
  refine wpAny_pyIter_tuple (show s1.heap.IsTuple a its.toArray from p) ?_
  refine ⟨s1.heap.objs.size,[s1.heap.objs.size],_,_,H1,rfl,I1.kept (t':=s1.toks) fun b o e=>Heap.get?_push_of_some _ e,JV a _,⟨_,Heap.get?_push_size _ rfl,rfl,rfl⟩,fun b hb=>?_,q⟩
  have e:b=s1.heap.objs.size:=by simpa using hb
  subst e
  exact I1.fpOk (Nat.le_refl _) (I1.hok.fresh (Nat.le_refl _))
theorem Mj {pins:List (Addr × Obj)} {σ:St} {H:Hp} {s:Shared} {R:It->Hp->Prop} {E:Value->Shared->Prop} {lo hi:Int} {t u v:Tok} {tk:Nat} (I:Inv X pins σ H s) (h1 : -(2 ^ 62) <= lo) (h2:lo < 2 ^ 62) (h3 : -(2 ^ 62) <= hi) (h4:hi < 2 ^ 62)
    (q:R (Itr lo (hi - lo).toNat) H):wpAny (model X.prog X.w) X.A (pyIter (.ref s.heap.objs.size)) (PIE X pins σ tg R) E { s with heap:=s.heap.push { cls:=.type "range",data:=.fields #[.int lo t,.int hi u,.int 1 v] },toks:=tk }:=by
  refine wpAny_pyIter_range (IsRange.new ..) (small_one h1 h2 h3 h4) ?_
  have I1:Inv X pins σ H { s with heap:=s.heap.push { cls:=.type "range",data:=.fields #[.int lo t,.int hi u,.int 1 v] },toks:=tk }:=I.kept fun b o e=>Heap.get?_push_of_some _ e
  refine ⟨(s.heap.push { cls:=.type "range",data:=.fields #[.int lo t,.int hi u,.int 1 v] }).objs.size,[(s.heap.push { cls:=.type "range",data:=.fields #[.int lo t,.int hi u,.int 1 v] }).objs.size],_,_,H,rfl,
    I1.kept (t':=tk) fun b o e=>Heap.get?_push_of_some _ e,JW _ lo (hi - lo).toNat,?_,fun b hb=>?_,q⟩
  . have e1:lo + ((0:Nat):Int) * 1=lo:=by simp
    have e2:(((hi - lo).toNat:Nat):Int) - ((0:Nat):Int)=Builtin.Range.rangeSize lo hi 1:=by rw [rangeSize_one]; split <;> omega
    show IsRangeIter _ _ (lo + ((0:Nat):Int) * 1) ((((hi - lo).toNat:Nat):Int) - ((0:Nat):Int)) 1
    rw [e1,e2]
    exact Heap.get?_push_size _ rfl
  . have e:b=(s.heap.push { cls:=.type "range",data:=.fields #[.int lo t,.int hi u,.int 1 v] }).objs.size:=by simpa using hb
    subst e
    exact I1.fpOk (Nat.le_refl _) (I1.hok.fresh (Nat.le_refl _))
def Td (ta:TA):TI:=fun σ H R=>ta σ H fun vs H1=>∃ j:Int,vs=[.int j] /\ -(2 ^ 62) <= j /\ j < 2 ^ 62 /\ R (Itr 0 j.toNat) H1
theorem LU {a:Expr} {ta:TA} {p pos:Pos} (hg:Gl X "range") (hm:X.mg "range" = none) (ha:PA X [a] ta) (hs:starEach [a] X.env=[(false,eval a X.env)]:=by rfl):PI X tg (.Call (.Name "range" p) [a] [] pos) (Td ta):=by
  intro pins s σ H R I h
  refine Call_ (El I hg hm boot_range (PyProof.Rows.callWith_type1 (thn (ha pos pins s σ H _ I h) fun us s1 ⟨vs,H1,I1,r1,q1⟩=>?_) hs rfl))
  obtain ⟨j,e,q1,q2,q⟩:=q1
  subst e
  cases r1 with
  | cons r rr=>
    cases rr
    obtain ⟨t,rfl⟩:=r
    exact call_range_1 (Mj I1 (by omega) (by omega) q1 q2 (by simpa using q))
def T4 (wi:TI) (g:TG) (tb:TS):TS:=fun D σ H=>wi σ H fun J H1=>∃ W:Nat->Nat->St->Hp->Prop,(∃ m,W 0 m σ H1) /\ ∀ i m σ H,W i m σ H->
  (J.stop i H /\ D.nx σ H) ∨ (J.go i H /\ ∃ N:St->Hp->Prop,(∀ σ' H',N σ' H'->∃ m',m' < m /\ W (i + 1) m' σ' H') /\ ∀ x H',J.yld i H x H'->g x σ H' fun σ2 H2=>tb { D with nx:=N,ct:=N,bk:=D.nx } σ2 H2)
def HU (fp:List Addr) (h:Heap):List (Addr × Obj):=fp.filterMap fun b=>(h.get? b).map fun o=>(b,o)
theorem BB {fp:List Addr} {h:Heap} {b:Addr} {o:Obj} (hb:b ∈ fp) (e:h.get? b=some o):(b,o) ∈ HU fp h:=List.mem_filterMap.mpr ⟨b,hb,by rw [e]; rfl⟩
theorem LY {fp:List Addr} {h:Heap} {p:Addr × Obj} (hp:p ∈ HU fp h):p.1 ∈ fp /\ h.get? p.1=some p.2:=by
  obtain ⟨b,hb,e⟩:=List.mem_filterMap.mp hp
  cases q:h.get? b with
  | none=>rw [q] at e; cases e
  | some o=>
    rw [q] at e
    have e':(b,o)=p:=Option.some.inj e
    subst e'
    exact ⟨hb,q⟩
theorem Inv.pinned {pins:List (Addr × Obj)} {σ:St} {H:Hp} {s:Shared} {fp:List Addr} (I:Inv X pins σ H s) (hf:∀ b ∈ fp,DP X pins H b) (ho:∀ b ∈ fp,∃ o,s.heap.get? b=some o /\ ∀ v,o.data ≠ .cell v):Inv X (pins ++ HU fp s.heap) σ H s:=
  I.pins_of fun p hp=>(List.mem_append.mp hp).elim (fun z=>I.pin p (List.mem_append_right _ z)) fun z=>by
    obtain ⟨hb,e⟩:=LY z
    obtain ⟨f0,f1,f2,_⟩:=hf p.1 hb
    obtain ⟨o,e',d⟩:=ho p.1 hb
    rw [e] at e'; cases e'
    exact ⟨e,f0,f1,f2,d⟩
theorem Inv.unpinned {pins pl:List (Addr × Obj)} {σ:St} {H:Hp} {s:Shared} (I:Inv X (pins ++ pl) σ H s):Inv X pins σ H s:=I.pins_of fun p hp=>I.pin p (List.mem_append_right _ (List.mem_append_left _ hp))
theorem RJ {iter:Expr} {body:List Stmt} {wi:TI} {g:TG} {tb:TS} {pos:Pos} (hp:PassesOwn (model X.prog X.w) X.A X.env X.xe) (hc:X.calm=true) (hi:PI X tg iter wi) (hg:PG X tg g) (hb:PSs X body tb)
    (hs:∀ x,foldedSetIterable iter X.env x=pure x:=by intro _; rfl):PS X (.For tg iter body [] pos) (T4 wi g tb):=by
  intro pins s σ H D I h
  refine wpAny_For (thn (hi pins s σ H _ I h) fun v s1 h1=>thn h1 fun itv s2 h2=>?_) hs
  obtain ⟨it,fp,tn,J,H2,e,I2,T,st2,f2,W,⟨m0,w0⟩,turn⟩:=h2
  subst e
  have stat:∀ {H':Hp},(∀ b ∈ fp,H' b=none)->∀ b ∈ fp,DP X pins H' b:=fun hn b hb=>⟨hn b hb,(f2 b hb).2⟩
  refine codeAny_forLoop_any (fun n s'=>∃ i σ' H',Inv X pins σ' H' s' /\ tn i s'.heap /\ (∀ b ∈ fp,H' b=none) /\ W i n σ' H') ?_ m0 ⟨0,σ,H2,I2,st2,fun b hb=>(f2 b hb).1,w0⟩
  rintro n s3 ⟨i,σ3,H3,I3,st3,fr3,w3⟩
  rcases turn i n σ3 H3 w3 with ⟨stop,qn⟩ | ⟨go,N,hN,step⟩
  . refine wpAny_passesOwn hp (thn (T.done X rfl rfl rfl hc i pins s3 σ3 H3 X.xe I3 (stat fr3) st3 stop) fun r s4 ⟨hr,I4⟩=>?_)
    subst hr
    exact wpAny_execs_nil ⟨σ3,H3,I4,qn⟩
  . refine wpAny_passesOwn hp (thn (T.item X rfl rfl rfl hc i pins s3 σ3 H3 X.xe I3 (stat fr3) st3 go) fun r s4 ⟨u,hr,h4⟩=>?_)
    subst hr
    refine wpAny_passesOwn hp (thn h4 fun _ s5 ⟨x,H5,I5,r5,y5,st5,fr5⟩=>?_)
    have I5':=I5.pinned (stat fr5) (T.obj _ _ st5)
    refine wpAny_passesOwn hp (thn (hg _ s5 σ3 H5 x u _ I5' r5 (step x H5 y5)) fun _ s6 ⟨σ6,H6,I6,q6⟩=>?_)
    refine wpAny_passesOwn hp (thn (hb _ s6 σ6 H6 _ I6 q6) fun f s7 q7=>?_)
    have again:∀ {σ7:St} {H7:Hp},Inv X (pins ++ HU fp s5.heap) σ7 H7 s7->N σ7 H7->∃ m,m < n /\ ∃ i σ' H',Inv X pins σ' H' s7 /\ tn i s7.heap /\ (∀ b ∈ fp,H' b=none) /\ W i m σ' H':=fun {σ7 H7} I7 n7=>by
      obtain ⟨m',hm,w7⟩:=hN σ7 H7 n7
      refine ⟨m',hm,i + 1,σ7,H7,I7.unpinned,T.keep _ _ _ st5 fun b hb o e=>(I7.pin (b,o) (List.mem_append_right _ (List.mem_append_right _ (BB hb e)))).1,fun b hb=>?_,w7⟩
      obtain ⟨o,e,d⟩:=T.obj _ _ st5 b hb
      exact (I7.pin (b,o) (List.mem_append_right _ (List.mem_append_right _ (BB hb e)))).2.1
    cases f with
    | next=>obtain ⟨σ7,H7,I7,n7⟩:=q7; exact again I7 n7
    | cont=>obtain ⟨σ7,H7,I7,n7⟩:=q7; exact again I7 n7
    | brk=>obtain ⟨σ7,H7,I7,q7⟩:=q7; exact ⟨σ7,H7,I7.unpinned,q7⟩
    | ret v=>obtain ⟨x7,σ7,H7,I7,r7,q7⟩:=q7; exact ⟨x7,σ7,H7,I7.unpinned,r7,q7⟩
end
end L2
namespace L2
open PySem PySem.Spec PyProof.Rows
abbrev R2:=V->V->Hp->VK->Prop
def OpR (X:Cx) (f:Value->Value->Sem Value) (r:R2):Prop:=
  ∀ (pins:List (Addr × Obj)) (s:Shared) (σ:St) (H:Hp) (x y:V) (v u:Value) (Q:VK),Inv X pins σ H s->RelV x v->RelV y u->r x y H Q->
    wpAny (model X.prog X.w) X.A (f v u) (EP X pins σ Q) X.xe s
def UnR (X:Cx) (f:Value->Sem Value) (r:V->Hp->VK->Prop):Prop:=
  ∀ (pins:List (Addr × Obj)) (s:Shared) (σ:St) (H:Hp) (x:V) (v:Value) (Q:VK),Inv X pins σ H s->RelV x v->r x H Q->
    wpAny (model X.prog X.w) X.A (f v) (EP X pins σ Q) X.xe s
def B7 (X:Cx) (f:Value) (r:List V->Hp->VK->Prop):Prop:=
  ∀ (pins:List (Addr × Obj)) (s:Shared) (σ:St) (H:Hp) (xs:List V) (us:List Value) (Q:VK),Inv X pins σ H s->Vals xs us->r xs H Q->
    wpAny (model X.prog X.w) X.A (call f us) (EP X pins σ Q) X.xe s
def tOp (r:R2) (ta tb:TE):TE:=fun σ H Q=>ta σ H fun x H1=>tb σ H1 fun y H2=>r x y H2 Q
def tUn (r:V->Hp->VK->Prop) (ta:TE):TE:=fun σ H Q=>ta σ H fun x H1=>r x H1 Q
def rI (C:Int->Int->Prop) (g:Int->Int->V):R2:=fun x y H Q=>∃ i j,x=.int i /\ y=.int j /\ C i j /\ Q (g i j) H
def rI0 (g:Int->Int->V):R2:=fun x y H Q=>∃ i j,x=.int i /\ y=.int j /\ Q (g i j) H
def rU (g:Int->V):V->Hp->VK->Prop:=fun x H Q=>∃ i,x=.int i /\ Q (g i) H
section
variable {X:Cx} {a b c:Expr} {ta tb tc:TE} {pos:Pos}
theorem SF (ha:PE X a ta) (hb:PE X b tb) {pins:List (Addr × Obj)} {s:Shared} {σ:St} {H:Hp} {R:V->V->Hp->Prop} (I:Inv X pins σ H s)
    (h:ta σ H fun x H1=>tb σ H1 fun y H2=>R x y H2) {Q:Value->Shared->Prop} {f:Value->Value->Sem Value}
    (hf:∀ v u s2 x y H2,Inv X pins σ H2 s2->RelV x v->RelV y u->R x y H2->wpAny (model X.prog X.w) X.A (f v u) Q X.xe s2) :
    wpAny (model X.prog X.w) X.A (eval a X.env) (fun v s₁=>wpAny (model X.prog X.w) X.A (eval b X.env) (fun u s₂=>wpAny (model X.prog X.w) X.A (f v u) Q X.xe s₂) X.xe s₁) X.xe s:=by
  refine thn (ha pins s σ H _ I h) fun v s1 ⟨x,H1,I1,r1,q1⟩=>?_
  refine thn (hb pins s1 σ H1 _ I1 q1) fun u s2 ⟨y,H2,I2,r2,q2⟩=>?_
  exact hf v u s2 x y H2 I2 r1 r2 q2
theorem TD {op:Operator} {r:R2} (ho:OpR X (binaryOp op) r) (ha:PE X a ta) (hb:PE X b tb):PE X (.BinOp a op b pos) (tOp r ta tb):=by
  intro pins s σ H Q I h
  exact wpAny_BinOp (SF ha hb I h fun v u s2 x y H2 I2 rx ry q=>ho pins s2 σ H2 x y v u Q I2 rx ry q)
theorem TC {op:UnaryOp} {r:V->Hp->VK->Prop} (ho:UnR X (unaryOp op) r) (ha:PE X a ta):PE X (.UnaryOp op a pos) (tUn r ta):=by
  intro pins s σ H Q I h
  exact UnaryOp_ (thn (ha pins s σ H _ I h) fun v s1 ⟨x,H1,I1,r1,q1⟩=>ho pins s1 σ H1 x v Q I1 r1 q1)
theorem opI {f:Value->Value->Sem Value} {C:Int->Int->Prop} {g:Int->Int->Int}
    (rule:∀ (i j:Int) (t u:Tok) (s:Shared) (Q:Value->Shared->Prop) (E:Value->Shared->Prop),C i j->Q (.int (g i j) s.toks) { s with toks:=s.toks + 1 }->wpAny (model X.prog X.w) X.A (f (.int i t) (.int j u)) Q E s) :
    OpR X f (rI C fun i j=>.int (g i j)):=by
  intro pins s σ H x y v u Q I rx ry h
  obtain ⟨i,j,rfl,rfl,hc,q⟩:=h
  obtain ⟨t,rfl⟩:=rx
  obtain ⟨t',rfl⟩:=ry
  exact rule i j t t' s _ _ hc ⟨.int (g i j),H,I.tok _,⟨_,rfl⟩,q⟩
theorem TN {f:Value->Value->Sem Value} {g:Int->Int->Int}
    (rule:∀ (i j:Int) (t u:Tok) (s:Shared) (Q:Value->Shared->Prop) (E:Value->Shared->Prop),Q (.int (g i j) s.toks) { s with toks:=s.toks + 1 }->wpAny (model X.prog X.w) X.A (f (.int i t) (.int j u)) Q E s) :
    OpR X f (rI0 fun i j=>.int (g i j)):=by
  intro pins s σ H x y v u Q I rx ry h
  obtain ⟨i,j,rfl,rfl,q⟩:=h
  obtain ⟨t,rfl⟩:=rx
  obtain ⟨t',rfl⟩:=ry
  exact rule i j t t' s _ _ ⟨.int (g i j),H,I.tok _,⟨_,rfl⟩,q⟩
theorem Rl {f:Value->Value->Sem Value} {g:Int->Int->Bool}
    (rule:∀ (i j:Int) (t u:Tok) (s:Shared) (Q:Value->Shared->Prop) (E:Value->Shared->Prop),Q (.bool (g i j)) s->wpAny (model X.prog X.w) X.A (f (.int i t) (.int j u)) Q E s) :
    OpR X f (rI0 fun i j=>.bl (g i j)):=by
  intro pins s σ H x y v u Q I rx ry h
  obtain ⟨i,j,rfl,rfl,q⟩:=h
  obtain ⟨t,rfl⟩:=rx
  obtain ⟨t',rfl⟩:=ry
  exact rule i j t t' s _ _ ⟨.bl (g i j),H,I,rfl,q⟩
def UR (i j:Int):Prop:=0 < j /\ j < 1073741824
def UQ (i j:Int):Prop:=0 <= j /\ j <= 1000000 /\ i.natAbs < 2 ^ 64
def CMul (i j:Int):Prop:=(-(2 ^ 64) < i /\ i < 2 ^ 64) ∨ (-(2 ^ 64) < j /\ j < 2 ^ 64)
theorem CMul.ok {i j:Int} (h:CMul i j):IntMulOk i j:=by
  rcases h with ⟨h1,h2⟩ | ⟨h1,h2⟩
  . exact .of_left (intBits_le_64 h1 h2)
  . exact .of_right (intBits_le_64 h1 h2)
theorem Rk:OpR X (binaryOp .Add) (rI0 fun i j=>.int (i + j)):=TN fun _ _ _ _ _ _ _ q=>add_int q
theorem Rb:OpR X (binaryOp .Sub) (rI0 fun i j=>.int (i - j)):=TN fun _ _ _ _ _ _ _ q=>sub_int q
theorem Rg:OpR X (binaryOp .Mult) (rI CMul fun i j=>.int (i * j)):=opI fun _ _ _ _ _ _ _ hc q=>mul_int q hc.ok
theorem PK:OpR X (binaryOp .FloorDiv) (rI UR fun i j=>.int (i / j)):=opI fun i j _ _ _ _ _ hc q=>by
  have h1:(0:Int) < j:=hc.1
  have h2:j < 1073741824:=hc.2
  exact floordiv_int (by omega) (by rw [Int.fdiv_eq_ediv_of_nonneg i (by omega)]; exact q) (.inl (PyProof.noPylong_small (by omega)))
theorem Rh:OpR X (binaryOp .Mod) (rI (fun _ j=>0 < j) fun i j=>.int (i % j)):=opI fun i j _ _ _ _ _ hc q=>by
  have h1:(0:Int) < j:=hc
  exact mod_int' (by omega) (by rw [Int.fmod_eq_emod_of_nonneg i (by omega)]; exact q)
theorem Re:OpR X (binaryOp .Pow) (rI UQ fun i j=>.int (i ^ j.toNat)):=opI fun _ _ _ _ _ _ _ hc q=>pow_int_small hc.1 hc.2.1 hc.2.2 q
theorem unI {f:Value->Sem Value} {g:Int->Int}
    (rule:∀ (i:Int) (t:Tok) (s:Shared) (Q:Value->Shared->Prop) (E:Value->Shared->Prop),Q (.int (g i) s.toks) { s with toks:=s.toks + 1 }->wpAny (model X.prog X.w) X.A (f (.int i t)) Q E s) :
    UnR X f (rU fun i=>.int (g i)):=by
  intro pins s σ H x v Q I rx h
  obtain ⟨i,rfl,q⟩:=h
  obtain ⟨t,rfl⟩:=rx
  exact rule i t s _ _ ⟨.int (g i),H,I.tok _,⟨_,rfl⟩,q⟩
theorem Qm:UnR X (unaryOp .USub) (rU fun i=>.int (-i)):=unI fun _ _ _ _ _ q=>neg_int q
end
section
variable {X:Cx} {a b c:Expr} {ta tb tc:TE} {pos:Pos}
theorem Nb {pins:List (Addr × Obj)} {σ:St} {H:Hp} {s:Shared} {Q:VK} {k k':Bool} (I:Inv X pins σ H s) (q:Q (.bl k) H) (e:k=k'):EP X pins σ Q (.bool k') s:=by
  subst e
  exact ⟨.bl k,H,I,rfl,q⟩
theorem TK:OpR X (compareOp .Lt) (rI0 fun i j=>.bl (decide (i < j))):=Rl fun _ _ _ _ _ _ _ q=>lt_int q
theorem TL:OpR X (compareOp .Gt) (rI0 fun i j=>.bl (decide (j < i))):=Rl fun _ _ _ _ _ _ _ q=>gt_int q
theorem TM:OpR X (compareOp .GtE) (rI0 fun i j=>.bl (decide (j <= i))):=Rl fun _ _ _ _ _ _ _ q=>ge_int q
theorem LW:OpR X (compareOp .In) (fun x y H Q=>∃ i j,x=.str i /\ y=.str j /\ Q (.bl (!(Builtin.Str.occurrences j i 0 j.length 1).isEmpty)) H):=by
  intro pins s σ H x y v u Q I rx ry h
  obtain ⟨i,j,rfl,rfl,q⟩:=h
  obtain ⟨t,rfl⟩:=rx
  obtain ⟨t',rfl⟩:=ry
  exact in_str (Nb I q rfl)
theorem PJ:OpR X (compareOp .IsNot) (fun x y H Q=>y=.non /\ Q (.bl (!decide (x=.non))) H):=by
  intro pins s σ H x y v u Q I rx ry h
  obtain ⟨rfl,q⟩:=h
  cases ry
  refine isnot_none_gen (Nb I q ?_)
  cases x <;> first
    | (cases rx; rfl)
    | (obtain ⟨t,rfl⟩:=rx; rfl)
theorem NB (b:Expr) {op:CmpOp} (h:op ≠ .In:=by decide) (h2:op ≠ .NotIn:=by decide):behindInMarks op b=false:=by
  have e1:(op == CmpOp.In)=false:=by cases op <;> first | rfl | exact absurd rfl h
  have e2:(op == CmpOp.NotIn)=false:=by cases op <;> first | rfl | exact absurd rfl h2
  cases b <;> simp [behindInMarks,e1,e2]
theorem PC {op:CmpOp} {r:R2} (ho:OpR X (compareOp op) r) (ha:PE X a ta) (hb:PE X b tb) (hm:behindInMarks op b=false):PE X (.Compare a [op] [b] pos) (tOp r ta tb):=by
  intro pins s σ H Q I h
  exact wpAny_Compare1 (SF ha hb I h fun v u s2 x y H2 I2 rx ry q=>ho pins s2 σ H2 x y v u Q I2 rx ry q) hm
def SY (t:TE):TT:=fun σ H Q=>t σ H fun x H'=>∃ k,x=.bl k /\ Q k H'
theorem Oz {op:CmpOp} {r:R2} (ho:OpR X (compareOp op) r) (ha:PE X a ta) (hb:PE X b tb) (hm:behindInMarks op b=false):PT X (.Compare a [op] [b] pos) (SY (tOp r ta tb)):=by
  intro pins s σ H Q I h
  refine wpAny_isTrue_Compare1 (thn (ha pins s σ H _ I h) fun v s1 ⟨x,H1,I1,r1,q1⟩=>thn (hb pins s1 σ H1 _ I1 q1) fun u s2 ⟨y,H2,I2,r2,q2⟩=>
    thn (ho pins s2 σ H2 x y v u _ I2 r1 r2 q2) fun c s3 ⟨z,H3,I3,r3,k,e,q3⟩=>?_) hm
  subst e
  cases r3
  exact wpAny_truthy_bool ⟨H3,I3,q3⟩
theorem F4:(sizeLine:Nat) < 2 ^ 63:=by rw [sizeLine_eq]; decide
theorem Jl:OpR X (binaryOp .Add) (fun x y H Q=>∃ i j,x=.str i /\ y=.str j /\ i.length + j.length <= sizeLine /\ Q (.str (i ++ j)) H):=by
  intro pins s σ H x y v u Q I rx ry h
  obtain ⟨i,j,rfl,rfl,hz,q⟩:=h
  obtain ⟨t,rfl⟩:=rx
  obtain ⟨t',rfl⟩:=ry
  exact add_str (fun t' tk=>⟨.str (i ++ j),H,I.tok _,⟨_,rfl⟩,q⟩) hz
theorem IA {x:V} {us:List Value} (r:Vals [x] us):∃ u,us=[u] /\ RelV x u:=by
  cases r with
  | cons r1 r2=>cases r2; exact ⟨_,rfl,r1⟩
theorem SV {x y:V} {us:List Value} (r:Vals [x,y] us):∃ u w',us=[u,w'] /\ RelV x u /\ RelV y w':=by
  cases r with
  | cons r1 r2=>
    cases r2 with
    | cons r3 r4=>cases r4; exact ⟨_,_,rfl,r1,r3⟩
theorem Lq:B7 X (.type "int") (fun xs H Q=>(∃ i,xs=[.int i] /\ Q (.int i) H) ∨ ∃ k,xs=[.bl k] /\ Q (.int (if k then 1 else 0)) H):=by
  intro pins s σ H xs us Q I r h
  rcases h with ⟨i,rfl,q⟩ | ⟨k,rfl,q⟩
  . obtain ⟨u,rfl,t,rfl⟩:=IA r
    exact call_int_int ⟨.int i,H,I,⟨_,rfl⟩,q⟩
  . obtain ⟨u,rfl,r1⟩:=IA r
    cases r1
    exact call_int_bool ⟨.int (if k then 1 else 0),H,I.tok _,⟨_,rfl⟩,q⟩
def UO (K:PySem.W.Frag) (x:V) (H:Hp) (n:Nat):Prop:=
  match x with
  | .str y=>y.length <= sizeLine /\ n=y.length
  | .byt y=>y.size <= sizeLine /\ n=y.size
  | .ref p=>(∃ xs,SqL K H p xs /\ n=xs.length) ∨ ∃ xs,SqT K H p xs /\ n=xs.length
  | _=>False
theorem No:B7 X (.builtin "len") (fun xs H Q=>∃ x n,xs=[x] /\ UO X.K x H n /\ Q (.int n) H):=by
  intro pins s σ H xs us Q I r h
  obtain ⟨x,n,rfl,e,q⟩:=h
  obtain ⟨u,rfl,rx⟩:=IA r
  have hl:=F4
  have hs:sizeLine=16777216:=sizeLine_eq
  cases x with
  | str y=>
    obtain ⟨t,rfl⟩:=rx
    obtain ⟨hy,e'⟩:y.length <= sizeLine /\ n=y.length:=e
    subst e'
    exact len_str (by omega) ⟨.int _,H,I.tok _,⟨_,rfl⟩,q⟩
  | byt y=>
    obtain ⟨t,rfl⟩:=rx
    obtain ⟨hy,e'⟩:y.size <= sizeLine /\ n=y.size:=e
    subst e'
    exact PySem.W.len_bytes (by omega) ⟨.int _,H,I.tok _,⟨_,rfl⟩,q⟩
  | ref p=>
    cases rx
    have e':(∃ xs,SqL X.K H p xs /\ n=xs.length) ∨ ∃ xs,SqT X.K H p xs /\ n=xs.length:=e
    rcases e' with ⟨xs,hx,e'⟩ | ⟨xs,hx,e'⟩
    . subst e'
      obtain ⟨its,r',pl,hz⟩:=I.list hx
      have hlen:=r'.length
      exact Calls.call_len_list pl.isList (by simp only [List.size_toArray]; omega) ⟨.int xs.length,H,I.tok _,⟨_,by simp only [List.size_toArray]; rw [hlen]⟩,q⟩
    . subst e'
      obtain ⟨its,r',pl,hz⟩:=I.tuple hx
      have hlen:=r'.length
      exact len_tuple pl (by simp only [List.size_toArray]; omega) ⟨.int xs.length,H,I.tok _,⟨_,by simp only [List.size_toArray]; rw [hlen]⟩,q⟩
  | _=>exact (show False from e).elim
end
end L2
namespace L2
open PySem PySem.Spec PyProof.Rows
structure ObjM (h:Heap) (x dx C:Addr) (mA:Str->Option Value):Prop where
  obj:h.get? x=some (PySem.W.instObj C dx)
  ns:h.Ns1 dx mA
  ne:dx ≠ x
theorem Lc {h:Heap} {dx:Addr} {mA:Str->Option Value} (n:h.Ns1 dx mA):∃ od,h.get? dx=some od /\ ∀ name,PySem.W.lookIn name od=some (mA name):=by
  obtain ⟨o,es,ep,ho,hd,hk,_,hm⟩:=n
  refine ⟨o,ho,fun name=>?_⟩
  have e:=hm name
  unfold nsFind findBy at e
  rw [← Array.find?_toList] at e
  unfold PySem.W.lookIn
  rw [hd]
  dsimp only
  split
  . rename_i y q
    rw [q] at e
    exact congrArg some e
  . rename_i q
    rw [q] at e
    have a:es.toList.any (·.refKey)=false:=by
      rw [List.any_eq_false]
      intro y hy
      obtain ⟨z,t,hkey⟩:=hk y (Array.mem_toList_iff.mp hy)
      simp [DictEntry.refKey,hkey]
    have a' : ¬ es.toList.any (·.refKey)=true:=by rw [a]; exact Bool.false_ne_true
    rw [if_neg a']
    exact congrArg some e
theorem ObjM.look {h:Heap} {x dx C:Addr} {mA:Str->Option Value} (I:ObjM h x dx C mA):∃ od,PySem.W.InstAt h x (PySem.W.instObj C dx) C (some od) /\ ∀ name,PySem.W.lookIn name od=some (mA name):=
  let ⟨od,ho,hl⟩:=Lc I.ns
  ⟨od,⟨I.obj,rfl,rfl,ho⟩,hl⟩
section
variable {prog:Program} {w:World} {A:Around} {E:Value->Shared->Prop} {s:Shared} {K:PySem.W.Frag} {x dx C f:Addr} {mA:Str->Option Value} {name:Str} {v:Value}
theorem Pi {expr:Bool} {Q:Value->Shared->Prop} (X:K.In s.heap) (I:ObjM s.heap x dx C mA) (hg:PySem.W.plainGet K C name=true) (hh:PySem.W.hasDictIn K C=true)
    (ha:PySem.W.findIn K (.ref C) name=some none) (hv:mA name=some v) (hv':PySem.W.handedIn v=true) (h:Q v { s with toks:=s.toks + 1 }) :
    wpAny (model prog w) A (getAttr (.ref x) name expr) Q E s:=by
  obtain ⟨od,J,hl⟩:=I.look
  exact PySem.W.get_value X J (PySem.W.plainGet_of hg).1 (PySem.W.findObj_own hh ha rfl (by rw [hl,hv])) hv' h
theorem OY {ns:List Str} {Q:Unit->Shared->Prop} (X:K.In s.heap) (I:ObjM s.heap x dx C mA)
    (hs:PySem.W.findIn K (.ref C) "__setattr__" = some (some (.builtin "object.__setattr__"))) (hp:PySem.W.plainOver K C=true) (ht:PySem.W.takerIn K C name=some none) (hh:PySem.W.hasDictIn K C=true)
    (hw:PySem.Within mA ns) (hsz:ns.length <= sizeLine)
    (h:∀ h',ObjM h' x dx C (fun y=>if y=name then some v else mA y)->Heap.SameBut dx s.heap h'->Q () { s with heap:=h',toks:=s.toks + 2 }) :
    wpAny (model prog w) A (setAttr (.ref x) name v) Q E s:=by
  obtain ⟨od,J,hl⟩:=I.look
  refine PySem.W.set_plain X J hs (PySem.W.osa_open (s:={ s with toks:=s.toks + 1 }) (r:=none) X J hp ht fun b=>?_)
  obtain ⟨cd,hc,hd'⟩:=PySem.W.any_some hh
  have hx:s.heap.get? x=some ⟨.ref C,some dx,.plain,#[]⟩:=I.obj
  refine wpAny_bind (wpAny_pure (wpAny_bind (wpAny_bind (wpAny_loadPart hx (wpAny_bind (PySem.W.Looks.here (s:={ s with toks:=s.toks + 1 }) (PySem.W.looks_clsIn X hc) ?_))))))
  rw [hd']
  refine wpAny_pure (a:=some dx) (wpAny_bind (wpAny_pure (wpAny_bind ?_)))
  refine wpAny_nsSet1 (s:={ s with toks:=s.toks + 1 }) I.ns fun h' hn2 hs2=>?_
  obtain ⟨oD,esD,epD,hoD,hdD,hcD⟩:=hn2.count (PySem.Within.cons name v hw)
  refine wpAny_bind (wpAny_lookBehind hoD (by rw [hdD]; exact pastItsLine_dict (Nat.le_trans hcD (by rw [List.length_cons]; omega))) ?_)
  exact wpAny_pure (h _ ⟨(hs2.2 _ (Ne.symm I.ne)).trans I.obj,hn2,I.ne⟩ hs2)
theorem NG {R:Result->Shared->Prop} {vs:List Value} {kw:List (Str × Value)} (X:K.In s.heap) (hm:PySem.W.makesIn K C=true)
    (hi:PySem.W.findIn K (.ref C) "__init__" = some (some (.ref f))) (hf:PySem.W.typeIn K (.ref f)=some (.type "function"))
    (h:codeAny (model prog w) (A.under (.builtin "type.__call__" ⟨.ref C :: vs,kw⟩)) (.call (.ref f) ⟨.ref (s.heap.objs.size + 1) :: vs,kw⟩) (PySem.W.InitBack (s.heap.objs.size + 1) R)
      { s with heap:=(s.heap.push PySem.W.emptyDict).push (PySem.W.instObj C s.heap.objs.size) }) :
    codeAny (model prog w) A (.call (.ref C) ⟨vs,kw⟩) R s:=by
  obtain ⟨hh,g,d,t,os⟩:=s
  exact PySem.W.make_core (PySem.W.makes_of X hm) (PySem.W.looks_findIn X hi) (fun self=>PySem.W.bind_fn X self hf) (.inl rfl) h
end
def DB (f:Str) (v:V):List (Str × V)->List (Str × V)
  | []=>[(f,v)]
  | (g,x) :: r=>if g=f then (g,v) :: r else (g,x) :: DB f v r
theorem Ez (f g:Str) (v:V):∀ fs:List (Str × V),(DB f v fs).lookup g=if g=f then some v else fs.lookup g
  | []=>by
    show List.lookup g [(f,v)]=_
    by_cases h:g=f
    . have hb:(g == f)=true:=beq_iff_eq.mpr h
      simp only [List.lookup,hb,if_pos h]
    . have hb:(g == f)=false:=beq_eq_false_iff_ne.mpr h
      simp only [List.lookup,hb,if_neg h]
  | (k,x) :: r=>by
    have ih:=Ez f g v r
    rw [show DB f v ((k,x) :: r)=(if k=f then (k,v) :: r else (k,x) :: DB f v r) from rfl]
    by_cases hk:k=f
    . rw [if_pos hk]
      by_cases h:g=k
      . have hb:(g == k)=true:=beq_iff_eq.mpr h
        simp only [List.lookup,hb,if_pos (h.trans hk)]
      . have hb:(g == k)=false:=beq_eq_false_iff_ne.mpr h
        simp only [List.lookup,hb,if_neg (fun e:g=f=>h (e.trans hk.symm))]
    . rw [if_neg hk]
      by_cases h:g=k
      . have hb:(g == k)=true:=beq_iff_eq.mpr h
        simp only [List.lookup,hb,if_neg (fun e:g=f=>hk (h.symm.trans e))]
      . have hb:(g == k)=false:=beq_eq_false_iff_ne.mpr h
        simp only [List.lookup,hb]
        exact ih
theorem Em (f:Str) (v:V):∀ fs:List (Str × V),f ∈ (DB f v fs).map (·.1) /\ ∀ g,g ∈ fs.map (·.1)->g ∈ (DB f v fs).map (·.1)
  | []=>⟨by simp [DB],fun g h=>by simp at h⟩
  | (k,x) :: r=>by
    obtain ⟨i1,i2⟩:=Em f v r
    rw [show DB f v ((k,x) :: r)=(if k=f then (k,v) :: r else (k,x) :: DB f v r) from rfl]
    by_cases hk:k=f
    . rw [if_pos hk]
      subst hk
      exact ⟨by simp,fun g h=>by simpa using h⟩
    . rw [if_neg hk]
      refine ⟨?_,fun g h=>?_⟩
      . rw [List.map_cons]
        exact List.mem_cons_of_mem _ i1
      . rw [List.map_cons] at h ⊢
        rcases List.mem_cons.mp h with e | e
        . exact List.mem_cons.mpr (.inl e)
        . exact List.mem_cons_of_mem _ (i2 g e)
theorem E7 (f:Str) (v:V):∀ fs:List (Str × V),(DB f v fs).length <= fs.length + 1
  | []=>by simp [DB]
  | (k,x) :: r=>by
    have ih:=E7 f v r
    rw [show DB f v ((k,x) :: r)=(if k=f then (k,v) :: r else (k,x) :: DB f v r) from rfl]
    by_cases hk:k=f
    . rw [if_pos hk,List.length_cons,List.length_cons]; omega
    . rw [if_neg hk,List.length_cons,List.length_cons]; omega
theorem RelO.some_of {v:V} {o:Option Value} (r:RelO (some v) o):∃ u,o=some u /\ RelV v u:=by
  cases o with
  | none=>exact (show False from r).elim
  | some u=>exact ⟨u,rfl,r⟩
theorem Lj {v:V} {u:Value} (r:RelV v u):PySem.W.handedIn u=true:=by
  cases v with
  | non=>cases (show u=Value.none from r); rfl
  | bl b=>cases (show u=Value.bool b from r); rfl
  | int i=>obtain ⟨t,e⟩:=(show ∃ t,u=Value.int i t from r); cases e; rfl
  | str x=>obtain ⟨t,e⟩:=(show ∃ t,u=Value.str x t from r); cases e; rfl
  | byt b=>obtain ⟨t,e⟩:=(show ∃ t,u=Value.bytes b t from r); cases e; rfl
  | flt b=>obtain ⟨t,e⟩:=(show ∃ t,u=Value.float b t from r); cases e; rfl
  | ref a=>cases (show u=Value.ref a from r); rfl
  | ty n=>cases (show u=Value.type n from r); rfl
section
variable {P:Program} {w:World} {H H':Hp} {h h':Heap} {a C dx:Addr} {fs fs':List (Str × V)}
theorem Hc (hok:HOk P w H h) (e:H a=some (.ins C dx fs)):∃ mA,ObjM h a dx C mA /\ (∀ f,RelO (fs.lookup f) (mA f)) /\ PySem.Within mA (fs.map (·.1)) /\ fs.length <= 1000 /\ H dx=some (.own a):=by
  obtain ⟨d,z,ne,ob,mA,n,r,q⟩:=(show ObjOk P w H h a (.ins C dx fs) from hok a _ e)
  exact ⟨mA,⟨ob,n,ne⟩,r,q,z,d⟩
end
structure Cls (K:PySem.W.Frag) (C:Addr):Prop where
  pg:PySem.W.plainGet K C Str.empty=true
  hd:PySem.W.hasDictIn K C=true
  po:PySem.W.plainOver K C=true
  sa:PySem.W.findIn K (.ref C) "__setattr__" = some (some (.builtin "object.__setattr__"))
theorem Cls.get {K:PySem.W.Frag} {C:Addr} (c:Cls K C) (f:Str):PySem.W.plainGet K C f=true:=c.pg
def NoAttr (K:PySem.W.Frag) (C:Addr) (f:Str):Prop:=PySem.W.findIn K (.ref C) f=some none
theorem NoAttr.taker {K:PySem.W.Frag} {C:Addr} {f:Str} (n:NoAttr K C f):PySem.W.takerIn K C f=some none:=by
  unfold PySem.W.takerIn
  rw [show PySem.W.findIn K (.ref C) f=some none from n]
  rfl
section
variable {X:Cx} {pins:List (Addr × Obj)} {σ:St} {H:Hp} {s:Shared} {a C dx:Addr} {fs:List (Str × V)} {f:Str} {v:V} {A:Around} {E:Value->Shared->Prop}
theorem Jt {b:Bool} {Q:Value->Shared->Prop} (I:Inv X pins σ H s) (e:H a=some (.ins C dx fs)) (c:Cls X.K C) (n:NoAttr X.K C f) (l:fs.lookup f=some v)
    (h:∀ u s',Inv X pins σ H s'->RelV v u->Q u s'):wpAny (model X.prog X.w) A (getAttr (.ref a) f b) Q E s:=by
  obtain ⟨mA,O,r,_,_,_⟩:=Hc I.hok e
  obtain ⟨u,hu,ru⟩:=RelO.some_of (v:=v) (o:=mA f) (by rw [← l]; exact r f)
  exact Pi I.kIn O (c.get f) c.hd n hu (Lj ru) (h u _ (I.tok _) ru)
theorem Ja {y:V} {u:Value} {Q:Unit->Shared->Prop} (I:Inv X pins σ H s) (e:H a=some (.ins C dx fs)) (c:Cls X.K C) (n:NoAttr X.K C f) (hl:fs.length < 1000) (ry:RelV y u)
    (h:∀ s',Inv X pins σ (upd H a (.ins C dx (DB f y fs))) s'->Q () s'):wpAny (model X.prog X.w) A (setAttr (.ref a) f u) Q E s:=by
  obtain ⟨mA,O,r,wi,_,ho⟩:=Hc I.hok e
  have hz:(fs.map (·.1)).length <= sizeLine:=by rw [List.length_map,sizeLine_eq]; omega
  refine OY I.kIn O c.sa c.po n.taker c.hd wi hz fun h' O' sb=>h _ ?_
  have hd:∃ o,h'.get? dx=some o:=let ⟨o,_,_,e',_⟩:=O'.ns; ⟨o,e'⟩
  refine I.write (x:=a) (e:=dx) (by rw [e]; exact True.intro) (.inr ho) (fun b q hb z=>(sb.2 b hb).trans z) hd ?_
  refine ⟨by rw [Al O.ne]; exact ho,?_,O.ne,O'.obj,_,O'.ns,fun g=>?_,fun g hg=>?_⟩
  . have:=E7 f y fs; omega
  . show RelO ((DB f y fs).lookup g) (if g=f then some u else mA g)
    rw [Ez]
    by_cases q:g=f
    . rw [if_pos q,if_pos q]; exact ry
    . rw [if_neg q,if_neg q]; exact r g
  . by_cases q:g=f
    . rw [q]; exact (Em f y fs).1
    . refine (Em f y fs).2 g (wi g fun z=>hg ?_)
      show (if g=f then some u else mA g)=none
      rw [if_neg q]; exact z
theorem Inv.made (I:Inv X pins σ H s):Inv X pins σ (upd (upd H s.heap.objs.size (.own (s.heap.objs.size + 1))) (s.heap.objs.size + 1) (.ins C s.heap.objs.size []))
    { s with heap:=(s.heap.push PySem.W.emptyDict).push (PySem.W.instObj C s.heap.objs.size) }:=by
  have e1:(s.heap.push PySem.W.emptyDict).get? s.heap.objs.size=some PySem.W.emptyDict:=Heap.get?_push_size s.heap rfl
  have e2:((s.heap.push PySem.W.emptyDict).push (PySem.W.instObj C s.heap.objs.size)).get? (s.heap.objs.size + 1)=some (PySem.W.instObj C s.heap.objs.size):=by
    have:=Heap.get?_push_size (s.heap.push PySem.W.emptyDict) (o:=PySem.W.instObj C s.heap.objs.size) rfl
    rwa [Heap.size_push] at this
  have e3:(s.heap.push PySem.W.emptyDict).Ns s.heap.objs.size (fun _=>none):=⟨PySem.W.emptyDict,#[],_,e1,rfl,(fun e he=>absurd he (by simp)),fun _=>rfl⟩
  have I1:=I.laid (a:=s.heap.objs.size) (o:=.own (s.heap.objs.size + 1)) (h':=s.heap.push PySem.W.emptyDict) (t':=s.toks) (fun b u q=>Heap.get?_push_of_some _ q) (Nat.le_refl _) ⟨_,e1⟩
  refine I1.laid (a:=s.heap.objs.size + 1) (o:=.ins C s.heap.objs.size []) (t':=s.toks) (fun b u q=>Heap.get?_push_of_some _ q) (Nat.le_of_eq (Heap.size_push _ _)) ?_
  have ne:s.heap.objs.size ≠ s.heap.objs.size + 1:=Nat.ne_of_lt (Nat.lt_succ_self _)
  refine ⟨by rw [Al ne,At],Nat.zero_le _,ne,e2,fun _=>none,(Heap.Ns1.of_empty e3).at fun o q=>Heap.get?_push_of_some _ q,fun _=>True.intro,fun y hy=>absurd rfl hy⟩
theorem Po {prog:Program} {w:World} {env:Env} {e:Expr} {f:Str} {pos:Pos} {s:Shared} {Q:Value->Shared->Prop} (hb:attributeBase e f env (eval e env)=eval e env)
    (h:wpAny (model prog w) A (eval e env) (fun o s₁=>wpAny (model prog w) A (getAttr o f true) Q E s₁) E s):wpAny (model prog w) A (eval (.Attribute e f pos) env) Q E s:=
  Attribute_any_ h (by rw [arm_eval_Attribute,hb])
end
def T5 (K:PySem.W.Frag) (ta:TE) (f:Str):TE:=fun σ H Q=>ta σ H fun x H1=>∃ a C dx fs v,x=.ref a /\ H1 a=some (.ins C dx fs) /\ Cls K C /\ NoAttr K C f /\ fs.lookup f=some v /\ Q v H1
def T7 (K:PySem.W.Frag) (ta tv:TE) (f:Str):TS:=fun D σ H=>tv σ H fun y H1=>ta σ H1 fun x H2=>∃ a C dx fs,x=.ref a /\ H2 a=some (.ins C dx fs) /\ Cls K C /\ NoAttr K C f /\ fs.length < 1000 /\
  D.nx σ (upd H2 a (.ins C dx (DB f y fs)))
section
variable {X:Cx} {o e value:Expr} {f:Str} {pos pos' tpos:Pos} {ta tv:TE}
theorem RZ (he:PE X e ta) (hb:attributeBase e f X.env (eval e X.env)=eval e X.env):PE X (.Attribute e f pos) (T5 X.K ta f):=by
  intro pins s σ H Q I h
  refine Po hb (thn (he pins s σ H _ I h) fun u s1 ⟨x,H1,I1,rx,a,C,dx,fs,v,ex,ea,c,n,l,q⟩=>?_)
  subst ex
  obtain rfl:u=Value.ref a:=rx
  exact Jt I1 ea c n l fun u' s2 I2 ru=>⟨v,H1,I2,ru,q⟩
theorem RK (ha:PE X o ta) (hv:PE X value tv) (hs:swapsWith value (some (.Attribute o f pos')) pos.line X.env=pure false):PS X (.Assign [.Attribute o f pos'] value pos) (T7 X.K ta tv f):=by
  intro pins s σ H D I h
  refine plainObj_wpAny_Assign_Attribute (thn (hv pins s σ H _ I h) fun u s1 ⟨y,H1,I1,ry,q⟩=>thn (ha pins s1 σ H1 _ I1 q) fun ov s2 ⟨x,H2,I2,rx,a,C,dx,fs,ex,ea,c,n,l,q2⟩=>?_) hs
  subst ex
  obtain rfl:ov=Value.ref a:=rx
  exact Ja I2 ea c n l ry fun s3 I3=>⟨σ,_,I3,q2⟩
end
section
variable {X:Cx} {pins:List (Addr × Obj)} {σ:St} {H:Hp} {s:Shared} {A:Around} {E:Value->Shared->Prop} {Q:Value->Shared->Prop} {c:Value} {b:Bool}
inductive EX (K:PySem.W.Frag) (H:Hp):V->Value->Prop where
  | non:EX K H .non (.type "NoneType")
  | bl (x:Bool):EX K H (.bl x) (.type "bool")
  | int (i:Int):EX K H (.int i) (.type "int")
  | str (x:Str):EX K H (.str x) (.type "str")
  | flt (x:UInt64):EX K H (.flt x) (.type "float")
  | lst {a:Addr} {xs:List V} (e:H a=some (.lst xs)):EX K H (.ref a) (.type "list")
  | frz {a:Addr} {o:Obj} {xs:List V} (e:H a=some (.frz o (.lst xs))):EX K H (.ref a) (.type "list")
  | tup {a:Addr} {xs:List V} (e:H a=some (.tup xs)):EX K H (.ref a) (.type "tuple")
  | dK {a:Addr} {kvs:List (Key × V)} (e:H a=some (.dK kvs)):EX K H (.ref a) (.type "dict")
  | dT {a:Addr} {kvs:List (List Key × V)} (e:H a=some (.dT kvs)):EX K H (.ref a) (.type "dict")
  | ins {a C dx:Addr} {fs:List (Str × V)} (e:H a=some (.ins C dx fs)) (cl:Cls K C) (ha:PySem.W.findIn K (.ref C) "__class__" = some (some (.builtin "object.__class__")))
      (hn:PySem.W.specialIn K (.builtin "object.__class__") "__get__" = some (some (.builtin "getset_descriptor.__get__"))) (htk:PySem.W.takesIn K (.builtin "object.__class__")=some true)
      (hm:PySem.W.mroIn K C (.type "object")=some true):EX K H (.ref a) (.ref C)
theorem Lg {x:V} {u t:Value} (I:Inv X pins σ H s) (rx:RelV x u) (ty:EX X.K H x t) (e:PySem.W.kitOne X.K t c=some b) (h:∀ tk,Q (.bool b) { s with toks:=tk }) :
    wpAny (model X.prog X.w) A (call (.builtin "isinstance") [u,c]) Q E s:=by
  cases ty with
  | non=>cases (show u=Value.none from rx); exact PySem.W.kia_one PySem.W.kitx_none I.kIn True.intro e (fun z=>nomatch z) h
  | bl y=>cases (show u=Value.bool y from rx); exact PySem.W.kia_one PySem.W.kitx_bool I.kIn True.intro e (fun z=>nomatch z) h
  | int i=>obtain ⟨t,q⟩:=(show ∃ t,u=Value.int i t from rx); cases q; exact PySem.W.kia_one PySem.W.kitx_int I.kIn True.intro e (fun z=>nomatch z) h
  | str y=>obtain ⟨t,q⟩:=(show ∃ t,u=Value.str y t from rx); cases q; exact PySem.W.kia_one PySem.W.kitx_str I.kIn True.intro e (fun z=>nomatch z) h
  | flt y=>obtain ⟨t,q⟩:=(show ∃ t,u=Value.float y t from rx); cases q; exact PySem.W.kia_one PySem.W.kitx_float I.kIn True.intro e (fun z=>nomatch z) h
  | @lst a xs ea=>
    cases (show u=Value.ref a from rx)
    obtain ⟨_,_,n,_,h1⟩:=(show ObjOk X.prog X.w H s.heap a (.lst xs) from I.hok a _ ea)
    exact PySem.W.kia_one PySem.W.kitx_list I.kIn ⟨_,h1,rfl⟩ e (fun z=>nomatch z) h
  | @frz a ob xs ea=>
    cases (show u=Value.ref a from rx)
    obtain ⟨_,_,_,n,_,h1⟩:=(show ObjOk X.prog X.w H s.heap a (.frz ob (.lst xs)) from I.hok a _ ea)
    exact PySem.W.kia_one PySem.W.kitx_list I.kIn ⟨_,h1,rfl⟩ e (fun z=>nomatch z) h
  | @tup a xs ea=>
    cases (show u=Value.ref a from rx)
    obtain ⟨_,_,_,p⟩:=(show ObjOk X.prog X.w H s.heap a (.tup xs) from I.hok a _ ea)
    obtain ⟨o,h1,h2,_⟩:=p
    exact PySem.W.kia_one PySem.W.kitx_tuple I.kIn ⟨o,h1,h2⟩ e (fun z=>nomatch z) h
  | @dK a kvs ea=>
    cases (show u=Value.ref a from rx)
    obtain ⟨_,_,vs,_,p⟩:=(show ObjOk X.prog X.w H s.heap a (.dK kvs) from I.hok a _ ea)
    obtain ⟨o,es,ep,h1,h2,_⟩:=p
    exact PySem.W.kia_one PySem.W.kitx_dict I.kIn ⟨o,h1,h2.1⟩ e (fun z=>nomatch z) h
  | @dT a kvs ea=>
    cases (show u=Value.ref a from rx)
    obtain ⟨_,_,xs,_,o,es,ep,h1,h2,_⟩:=(show ObjOk X.prog X.w H s.heap a (.dT kvs) from I.hok a _ ea)
    exact PySem.W.kia_one PySem.W.kitx_dict I.kIn ⟨o,h1,h2.1⟩ e (fun z=>nomatch z) h
  | @ins a C dx fs ea cl ha hn htk hm=>
    cases (show u=Value.ref a from rx)
    obtain ⟨mA,O,_⟩:=Hc I.hok ea
    obtain ⟨od,J,_⟩:=O.look
    exact PySem.W.kia_one (PySem.W.kitx_own (cl.get _) cl.hd ha hn htk hm) I.kIn J e (fun z=>nomatch z) h
end
end L2
namespace L2
open PySem PySem.Spec PyProof.Rows
structure Room (k:Nat) (A:Around):Prop where
  hd:A.handled=none
  dp:A.depth + 3 * k + 5 < recursionLimit
  un:A.units + 16 * k + 200 < cLine
theorem Room.mono {j k:Nat} {A:Around} (r:Room k A) (h:j <= k):Room j A:=⟨r.hd,by have:=r.dp; omega,by have:=r.un; omega⟩
theorem Room.deeper {k:Nat} {A:Around} (r:Room (k + 1) A) (env:Env):Room k (A.deeper env):=
  ⟨r.hd,by have:=r.dp; show A.depth + 1 + 3 * k + 5 < _; omega,by have:=r.un; show A.units + 3 + 16 * k + 200 < _; omega⟩
theorem Jp {A:Around} {C:Addr} {us:List Value} {kw:List (Str × Value)}:(A.under (.builtin "type.__call__" ⟨.ref C :: us,kw⟩)).depth=A.depth + 1:=by
  first | rfl | simp [Around.under,Code.weight,Code.isCreation,Code.isGuard,Code.isCaller,Code.frames,Code.isFrame,guardIds]
theorem Jo {A:Around} {C:Addr} {us:List Value} {kw:List (Str × Value)}:(A.under (.builtin "type.__call__" ⟨.ref C :: us,kw⟩)).units=A.units + 1:=by
  first | rfl | simp [Around.under,Code.cUnits,Code.frames,Code.isFrame]
theorem Room.make {k:Nat} {A:Around} (r:Room (k + 1) A) (C:Addr) (us:List Value) (kw:List (Str × Value)):Room k (A.under (.builtin "type.__call__" ⟨.ref C :: us,kw⟩)):=
  ⟨r.hd,by have:=r.dp; rw [Jp]; omega,by have:=r.un; rw [Jo]; omega⟩
theorem Room.depth {k:Nat} {A:Around} (r:Room k A):A.depth < recursionLimit:=by have:=r.dp; omega
theorem Room.units {k:Nat} {A:Around} (r:Room k A):A.units + 64 < cLine:=by have:=r.un; omega
def T1:TA:=fun _ H Q=>Q [] H
def Sf (ta:TE) (tr:TA):TA:=fun σ H Q=>ta σ H fun x H1=>tr σ H1 fun xs H2=>Q (x :: xs) H2
section
variable {X:Cx} {e:Expr} {es:List Expr} {te:TE} {t:TA} {pos:Pos}
theorem Dv:PA X [] T1:=fun _ _ _ _ H Q I h=>Calls.spliced_nil ⟨[],H,I,.nil,h⟩
theorem DC (ha:PE X e te) (hr:PA X es t) (hs:starEach (e :: es) X.env=(false,eval e X.env) :: starEach es X.env:=by rfl):PA X (e :: es) (Sf te t):=by
  intro pos pins s σ H Q I h
  rw [hs]
  show wpAny _ _ (spliced ((false,eval e X.env) :: backTo pos (starEach es X.env))) _ _ s
  refine Calls.spliced_cons (thn (ha pins s σ H _ I h) fun u s1 ⟨x,H1,I1,r1,q1⟩=>?_)
  exact thn (hr pos pins s1 σ H1 _ I1 q1) fun us s2 ⟨xs,H2,I2,r2,q2⟩=>⟨x :: xs,H2,I2,.cons r1 r2,q2⟩
def Tw (t:TA):TE:=fun σ H Q=>t σ H fun xs H1=>xs.length <= sizeLine /\ ∀ p,H1 p=none->Q (.ref p) (upd H1 p (.tup xs))
def T2 (t:TA):TE:=fun σ H Q=>t σ H fun xs H1=>xs.length <= sizeLine /\ ∀ p,H1 p=none->Q (.ref p) (upd H1 p (.lst xs))
theorem RQ {x1} (h:PA X es t):PE X (.Tuple es x1 pos) (Tw t):=by
  intro pins s σ H Q I hq
  refine wpAny_Tuple_spliced (thn (h pos pins s σ H _ I hq) fun us s1 ⟨xs,H1,I1,r,z,q⟩=>⟨by rw [← r.length]; exact z,?_⟩)
  have hf:H1 s1.heap.objs.size=none:=I1.hok.fresh (Nat.le_refl _)
  refine ⟨.ref s1.heap.objs.size,upd H1 s1.heap.objs.size (.tup xs),I1.laid (t':=s1.toks) (fun b u e=>Heap.get?_push_of_some _ e) (Nat.le_refl _) ?_,rfl,q _ hf⟩
  exact ⟨z,us,r,⟨_,Heap.get?_push_size _ rfl,rfl,_,rfl⟩⟩
theorem M0 (h:PA X es t):PE X (.List es pos) (T2 t):=by
  intro pins s σ H Q I hq
  refine wpAny_List_spliced (thn (h pos pins s σ H _ I hq) fun us s1 ⟨xs,H1,I1,r,z,q⟩=>⟨by rw [← r.length]; exact z,?_⟩)
  have hf:H1 s1.heap.objs.size=none:=I1.hok.fresh (Nat.le_refl _)
  refine ⟨.ref s1.heap.objs.size,upd H1 s1.heap.objs.size (.lst xs),I1.laid (t':=s1.toks) (fun b u e=>Heap.get?_push_of_some _ e) (Nat.le_refl _) ?_,rfl,q _ hf⟩
  exact ⟨z,us,0,r,Heap.get?_push_size _ rfl⟩
end
abbrev Sp:=List V->Hp->VK->XK->Prop
abbrev CXT:=List Env->Hp->Shared->XK->Value->Shared->Prop
structure Env0 (P:Program) (w:World) (K:PySem.W.Frag) (mg:Str->Option Value) (base:Heap) (A:Around) (outer:List Env) (s:Shared) (H:Hp):Prop where
  frames:A.frames=some outer
  mod:Mod K mg base
  bs:∀ b o,base.get? b=some o->s.heap.get? b=some o /\ H b=none
  bsz:base.objs.size <= s.heap.objs.size
  funs:s.heap.FunFrames base outer
  frf:∀ b ∈ frs outer,H b=none
  hok:HOk P w H s.heap
  bare:AllBare s.gens
def CE (outer:List Env) (P:Program) (w:World) (H:Hp) (s:Shared) (Q:VK) (u:Value) (s':Shared):Prop:=
  ∃ v H',s'.os=s.os /\ AllBare s'.gens /\ Un (frs outer) [] H H' s.heap s'.heap /\ HOk P w H' s'.heap /\ RelV v u /\ Q v H'
def CR (CX:CXT) (outer:List Env) (P:Program) (w:World) (H:Hp) (s:Shared) (Q:VK) (E:XK) (r:Result) (s':Shared):Prop:=
  match r with
  | .ok (.ret u)=>CE outer P w H s Q u s'
  | .ok _=>False
  | .error e=>CX outer H s E e s'
structure FnOk (P:Program) (w:World) (K:PySem.W.Frag) (mg:Str->Option Value) (base:Heap) (CX:CXT) (k:Nat) (f:Addr) (fd:FuncData) (ps:List Str) (sp:Sp):Prop where
  len:∀ vs H Q E,sp vs H Q E->vs.length=ps.length
  run:∀ (A:Around) (outer:List Env) (s:Shared) (H:Hp) (args:Args) (us:List Value) (vs:List V) (Q:VK) (E:XK),Room k A->Env0 P w K mg base A outer s H->BindsTo s fd args (ps.zip us)->Vals vs us->sp vs H Q E->
    codeAny (model P w) A (.call (.ref f) args) (CR CX outer P w H s Q E) s
theorem FnOk.mono {P:Program} {w:World} {K:PySem.W.Frag} {mg:Str->Option Value} {base:Heap} {CX:CXT} {j k:Nat} {f:Addr} {fd:FuncData} {ps:List Str} {sp:Sp} (F:FnOk P w K mg base CX j f fd ps sp) (h:j <= k) :
    FnOk P w K mg base CX k f fd ps sp:=⟨F.len,fun A outer s H args us vs Q E hr=>F.run A outer s H args us vs Q E (hr.mono h)⟩
theorem FnOk.imp {P:Program} {w:World} {K:PySem.W.Frag} {mg:Str->Option Value} {base:Heap} {CX:CXT} {k:Nat} {f:Addr} {fd:FuncData} {ps:List Str} {sp sp':Sp} (F:FnOk P w K mg base CX k f fd ps sp)
    (h:∀ vs H Q E,sp' vs H Q E->sp vs H Q E):FnOk P w K mg base CX k f fd ps sp':=
  ⟨fun vs H Q E q=>F.len vs H Q E (h _ _ _ _ q),fun A outer s H args us vs Q E hr he hb hv hs=>F.run A outer s H args us vs Q E hr he hb hv (h _ _ _ _ hs)⟩
theorem Env0.make {P:Program} {w:World} {K:PySem.W.Frag} {mg:Str->Option Value} {base:Heap} {A:Around} {outer:List Env} {s:Shared} {H:Hp} (e:Env0 P w K mg base A outer s H) (C:Addr) (us:List Value) (kw:List (Str × Value)) :
    Env0 P w K mg base (A.under (.builtin "type.__call__" ⟨.ref C :: us,kw⟩)) outer s H:=⟨by first | exact e.frames | (simpa [Around.under,Code.envs,Code.isFrame,pushEnvs] using e.frames),e.mod,e.bs,e.bsz,e.funs,e.frf,e.hok,e.bare⟩
section
variable {X:Cx} {pins:List (Addr × Obj)} {σ:St} {H:Hp} {s s':Shared}
theorem Inv.env0 (I:Inv X pins σ H s):Env0 X.prog X.w X.K X.mg X.base X.A X.stack s H:=
  ⟨I.ok.frames,I.ok.mod,I.bs,Nat.le_trans I.ok.bsz I.sz,I.stack,I.stkFree,I.hok,I.bare⟩
theorem Inv.after {Q:VK} {u:Value} (I:Inv X pins σ H s) (h:CE X.stack X.prog X.w H s Q u s'):EP X pins σ Q u s':=by
  obtain ⟨v,H',os,bare,un,hok,r,q⟩:=h
  obtain ⟨hh,g,d,t,os'⟩:=s'
  obtain rfl:os'=s.os:=os
  exact ⟨v,H',I.call (h':=hh) (g':=g) (d':=d) (t':=t) (ch:=[]) un hok bare (fun b z=>absurd z (by simp)),r,q⟩
end
def Sg (sp:Sp) (dvs:List V) (E:XK) (t:TA):TE:=fun σ H Q=>t σ H fun vs H1=>sp (vs ++ dvs) H1 Q E
def Sb (C:Addr) (sp:Sp) (dvs:List V) (E:XK) (t:TA):TE:=fun σ H Q=>t σ H fun vs H1=>∀ x dx,H1 x=none->H1 dx=none->dx ≠ x->
  sp (.ref x :: (vs ++ dvs)) (upd (upd H1 dx (.own x)) x (.ins C dx [])) (fun v H2=>v=.non /\ Q (.ref x) H2) E
def Binds (K:PySem.W.Frag) (fd:FuncData) (ps:List Str) (ds:List Value):Prop:=
  ∀ (s:Shared) (us:List Value),K.In s.heap->(us ++ ds).length=ps.length->BindsTo s fd ⟨us,[]⟩ (ps.zip (us ++ ds))
theorem Binds.all {K:PySem.W.Frag} {fd:FuncData} {ps:List Str} (h:∀ us:List Value,us.length=ps.length->bindArgs fd ⟨us,[]⟩=pure (ps.zip us)):Binds K fd ps []:=fun s us _ hl=>by
  rw [List.append_nil] at hl ⊢
  exact .of_eq (h us hl)
def GS (CX:CXT) (X:Cx) (E:XK):Prop:=∀ (pins:List (Addr × Obj)) (σ:St) (H:Hp) (s:Shared) (e:Value) (s':Shared),Inv X pins σ H s->CX X.stack H s E e s'->X.xe e s'
section
variable {X:Cx} {CX:CXT} {k:Nat} {f C:Addr} {fd:FuncData} {ps:List Str} {sp:Sp} {dvs:List V} {ds:List Value} {E:XK} {x m:Str} {p pos apos:Pos} {e o:Expr} {es:List Expr} {ta:TE} {t:TA}
theorem Qy {pins:List (Addr × Obj)} {σ:St} {H:Hp} {s:Shared} {Q:VK} {us:List Value} {vs:List V} (F:FnOk X.prog X.w X.K X.mg X.base CX k f fd ps sp) (hr:Room k X.A) (hb:Binds X.K fd ps ds) (hd:Vals dvs ds) (hx:GS CX X E)
    (I:Inv X pins σ H s) (r:Vals vs us) (h:sp (vs ++ dvs) H Q E):wpAny (model X.prog X.w) X.A (call (.ref f) us) (EP X pins σ Q) X.xe s:=by
  have r2:Vals (vs ++ dvs) (us ++ ds):=r.append hd
  have hl:(us ++ ds).length=ps.length:=by rw [← r2.length]; exact F.len _ _ _ _ h
  refine wpAny_call (codeAny_mono (F.run X.A X.stack s H ⟨us,[]⟩ (us ++ ds) (vs ++ dvs) Q E hr I.env0 (hb s us I.kIn hl) r2 h) fun r s' hq=>?_)
  cases r with
  | error e=>exact hx pins σ H s e s' I hq
  | ok fl=>
    cases fl with
    | ret u=>exact I.after hq
    | next=>exact False.elim hq
    | brk=>exact False.elim hq
    | cont=>exact False.elim hq
theorem PD (F:FnOk X.prog X.w X.K X.mg X.base CX k f fd ps sp) (hr:Room k X.A) (hg:Gl X x) (hm:X.mg x=some (.ref f)) (hk:PySem.W.keepIn X.K (.ref f)=true) (hb:Binds X.K fd ps ds) (hd:Vals dvs ds) (hx:GS CX X E)
    (ha:PA X (e :: es) t) (hdb:(x == ("__debug__" : Str))=false:=by decide) (he:starEach (e :: es) X.env=(false,eval e X.env) :: starEach es X.env:=by rfl) (hpl:(backTo pos (starEach es X.env)).any (·.1)=false:=by rfl) :
    PE X (.Call (.Name x p) (e :: es) [] pos) (Sg sp dvs E t):=by
  intro pins s σ H Q I h
  refine wpAny_Call_Name_kw (Ha I hg hm ?_ hdb)
  refine PySem.W.callWith_K (h₀:=X.base) I.ok.mod.kin hk (thn (ha pos pins s σ H _ I h) fun us s1 ⟨vs,H1,I1,r,q⟩=>⟨I1.kIn,?_⟩) he hpl
  exact Qy F hr hb hd hx I1 r q
structure Mk (K:PySem.W.Frag) (C f:Addr):Prop where
  makes:PySem.W.makesIn K C=true
  init:PySem.W.findIn K (.ref C) "__init__" = some (some (.ref f))
  fn:PySem.W.isFn K (.ref f)=true
  kp:PySem.W.keepIn K (.ref C)=true
theorem MZ {pins:List (Addr × Obj)} {σ:St} {H:Hp} {s:Shared} {Q:VK} {us:List Value} {vs:List V} (M:Mk X.K C f) (F:FnOk X.prog X.w X.K X.mg X.base CX k f fd ps sp) (hr:Room (k + 1) X.A) (hb:Binds X.K fd ps ds) (hd:Vals dvs ds)
    (hx:GS CX X E) (I:Inv X pins σ H s) (r:Vals vs us)
    (h:∀ x dx,H x=none->H dx=none->dx ≠ x->sp (.ref x :: (vs ++ dvs)) (upd (upd H dx (.own x)) x (.ins C dx [])) (fun v H2=>v=.non /\ Q (.ref x) H2) E) :
    wpAny (model X.prog X.w) X.A (call (.ref C) us) (EP X pins σ Q) X.xe s:=by
  have hq:=h (s.heap.objs.size + 1) s.heap.objs.size (I.hok.fresh (Nat.le_succ _)) (I.hok.fresh (Nat.le_refl _)) (Nat.ne_of_lt (Nat.lt_succ_self _))
  have I2:=Inv.made (C:=C) I
  have r2:Vals (V.ref (s.heap.objs.size + 1) :: (vs ++ dvs)) (Value.ref (s.heap.objs.size + 1) :: (us ++ ds)):=.cons rfl (r.append hd)
  have hl:(Value.ref (s.heap.objs.size + 1) :: us ++ ds).length=ps.length:=by
    have e:=r2.length
    rw [F.len _ _ _ _ hq] at e
    exact e.symm
  refine wpAny_call (NG (f:=f) I.kIn M.makes M.init (beq_iff_eq.mp M.fn) (codeAny_mono (F.run _ X.stack _ _ ⟨Value.ref (s.heap.objs.size + 1) :: us,[]⟩ (Value.ref (s.heap.objs.size + 1) :: (us ++ ds)) _ _ E (hr.make C us [])
    (I2.env0.make C us []) (hb _ (Value.ref (s.heap.objs.size + 1) :: us) I2.kIn hl) r2 hq) fun r s' hq'=>?_))
  cases r with
  | error e=>exact hx pins σ _ _ e s' I2 hq'
  | ok fl=>
    cases fl with
    | ret u=>
      obtain ⟨v,H',I3,rv,ev,q3⟩:=I2.after hq'
      subst ev
      exact ⟨rv,⟨V.ref (s.heap.objs.size + 1),H',I3,rfl,q3⟩⟩
    | next=>exact False.elim hq'
    | brk=>exact False.elim hq'
    | cont=>exact False.elim hq'
theorem O8 (M:Mk X.K C f) (F:FnOk X.prog X.w X.K X.mg X.base CX k f fd ps sp) (hr:Room (k + 1) X.A) (hg:Gl X x) (hm:X.mg x=some (.ref C)) (hb:Binds X.K fd ps ds) (hd:Vals dvs ds) (hx:GS CX X E)
    (ha:PA X (e :: es) t) (hdb:(x == ("__debug__" : Str))=false:=by decide) (he:starEach (e :: es) X.env=(false,eval e X.env) :: starEach es X.env:=by rfl) (hpl:(backTo pos (starEach es X.env)).any (·.1)=false:=by rfl) :
    PE X (.Call (.Name x p) (e :: es) [] pos) (Sb C sp dvs E t):=by
  intro pins s σ H Q I h
  refine wpAny_Call_Name_kw (Ha I hg hm ?_ hdb)
  refine PySem.W.callWith_K (h₀:=X.base) I.ok.mod.kin M.kp (thn (ha pos pins s σ H _ I h) fun us s1 ⟨vs,H1,I1,r,q⟩=>⟨I1.kIn,?_⟩) he hpl
  exact MZ M F hr hb hd hx I1 r q
end
section
variable {X:Cx} {CX:CXT} {k:Nat} {f C:Addr} {fd:FuncData} {ps ks:List Str} {sp:Sp} {E:XK} {x m:Str} {p pos apos kpos:Pos} {e o:Expr} {es:List Expr} {kws:List Keyword} {te ta:TE} {t tk:TA} {nm:Option Str}
variable {g:List Value->List Value->List Value} {gV:List V->List V->List V}
end
structure Ai (N P:List Str) (sc:Scope):Prop where
  kind:sc.kind=.function
  co:sc.isCoroutine=false
  gen:sc.isGenerator=false
  nd:N.Nodup
  pre:N.take P.length=P
  par:∀ x ∈ P,sc.names.lookup x=some .local ∨ sc.names.lookup x=some .cell
  nofree:∀ y ∈ sc.names,y.2 ≠ .free
theorem G1 {kindOf:Str->Option NameKind} {x:Str}:∀ {binds:List (Str × Value)} {m:Str->Option Value},(∀ v,(x,v) ∉ binds)->bindL kindOf binds m x=m x
  | [],_,_=>rfl
  | (n,v) :: r,m,h=>by
    unfold bindL
    rw [G1 fun w hw=>h w (List.mem_cons_of_mem _ hw)]
    split
    . have:x ≠ n:=by rintro rfl; exact h v List.mem_cons_self
      simp [this]
    . rfl
theorem G4 {kindOf:Str->Option NameKind} {x:Str}:∀ {binds:List (Str × Value)} {m:Str->Option Value},(∀ v,(x,v) ∉ binds)->bindC kindOf binds m x=m x
  | [],_,_=>rfl
  | (n,v) :: r,m,h=>by
    unfold bindC
    rw [G4 fun w hw=>h w (List.mem_cons_of_mem _ hw)]
    split
    . rfl
    . have:x ≠ n:=by rintro rfl; exact h v List.mem_cons_self
      simp [this]
theorem G3 {kindOf:Str->Option NameKind} {x:Str} {v:Value}:∀ {P:List Str} {vs:List Value} {i:Nat} {m:Str->Option Value},P.Nodup->P[i]? = some x->vs[i]? = some v->kindOf x=some .local->
    bindL kindOf (P.zip vs) m x=some v
  | [],_,_,_,_,h,_,_=>by simp at h
  | _ :: _,[],_,_,_,_,h,_=>by simp at h
  | p :: P,w :: vs,0,m,nd,h1,h2,hk=>by
    simp at h1 h2; subst h1; subst h2
    show bindL kindOf ((p,w) :: P.zip vs) m p=_
    unfold bindL
    rw [G1 fun v hv=>(List.nodup_cons.mp nd).1 (List.of_mem_zip hv).1,if_pos hk]
    simp
  | p :: P,w :: vs,i + 1,m,nd,h1,h2,hk=>by
    show bindL kindOf ((p,w) :: P.zip vs) m x=_
    unfold bindL
    exact G3 (i:=i) (List.nodup_cons.mp nd).2 (by simpa using h1) (by simpa using h2) hk
theorem G5 {kindOf:Str->Option NameKind} {x:Str} {v:Value}:∀ {P:List Str} {vs:List Value} {i:Nat} {m:Str->Option Value},P.Nodup->P[i]? = some x->vs[i]? = some v->kindOf x ≠ some .local->
    bindC kindOf (P.zip vs) m x=some v
  | [],_,_,_,_,h,_,_=>by simp at h
  | _ :: _,[],_,_,_,_,h,_=>by simp at h
  | p :: P,w :: vs,0,m,nd,h1,h2,hk=>by
    simp at h1 h2; subst h1; subst h2
    show bindC kindOf ((p,w) :: P.zip vs) m p=_
    unfold bindC
    rw [G4 fun v hv=>(List.nodup_cons.mp nd).1 (List.of_mem_zip hv).1,if_neg hk]
    simp
  | p :: P,w :: vs,i + 1,m,nd,h1,h2,hk=>by
    show bindC kindOf ((p,w) :: P.zip vs) m x=_
    unfold bindC
    exact G5 (i:=i) (List.nodup_cons.mp nd).2 (by simpa using h1) (by simpa using h2) hk
def start (N:List Str) (vs:List V):St:=vs.map some ++ List.replicate (N.length - vs.length) none
def Bv (CX:CXT) (P:Program) (w:World) (K:PySem.W.Frag) (mg:Str->Option Value) (base:Heap) (N:List Str) (qual:Str) (scope:Scope) (f:Addr) (cd:Value) (A:Around) (outer:List Env) (s:Shared) (H:Hp) (E:XK):Cx where
  prog:=P
  w:=w
  K:=K
  mg:=mg
  base:=base
  A:=A.deeper (envOfC qual scope s.heap.objs.size f cd)
  N:=N
  s₀:=s
  H₀:=H
  env:=envOfC qual scope s.heap.objs.size f cd
  outer:=outer
  stack:=envOfC qual scope s.heap.objs.size f cd :: outer
  ex:=[]
  calm:=true
  fn:=fun _=>true
  pn:=[]
  xe:=fun e s'=>wpAny (model P w) (A.deeper (envOfC qual scope s.heap.objs.size f cd)) (leaving (envOfC qual scope s.heap.objs.size f cd) e) (fun _ s''=>CX outer H s E e s'') (fun e' s''=>CX outer H s E e' s'') s'
theorem JF {sc:Scope} {n:Nat} {x:Str} (h:sc.names.lookup x=some .cell):∃ c,(cellsFrom n sc.names []).lookup x=some c:=by
  have q:=PySem.W.cellsFrom_some sc.names n [] (.inl h)
  exact Option.isSome_iff_exists.mp q
theorem Lh {CX:CXT} {P:Program} {w:World} {K:PySem.W.Frag} {mg:Str->Option Value} {base:Heap} {N ps:List Str} {qual:Str} {scope:Scope} {f:Addr} {cd:Value} {A:Around} {outer:List Env} {s s1:Shared} {H:Hp} {E:XK} {us:List Value} {vs:List V}
    (S:Ai N ps scope) (hd:A.handled=none) (e0:Env0 P w K mg base A outer s H) (hl:vs.length=ps.length) (r:Vals vs us)
    (x:InCallC s s.heap.objs.size (bindL (envOfC qual scope s.heap.objs.size f cd).kindOf (ps.zip us) fun _=>none) (cellsFrom (s.heap.objs.size + 1) scope.names []) (bindC (envOfC qual scope s.heap.objs.size f cd).kindOf (ps.zip us) fun _=>none) s1) :
    Inv (Bv CX P w K mg base N qual scope f cd A outer s H E) [] (start N vs) H s1:=by
  have hpl:ps.length <= N.length:=by have:=congrArg List.length S.pre; rw [List.length_take] at this; omega
  obtain ⟨h1,tk,rfl,hk⟩:=x.done
  have noA:∀ b:Addr,b ∉ (Bv CX P w K mg base N qual scope f cd A outer s H E).ex:=fun b z=>absurd (show b ∈ ([]:List Addr) from z) (by simp)
  refine ⟨⟨e0.mod,S.kind,rfl,rfl,Nat.le_refl _,fun y z c h1 h2=>?_,fun y hy=>?_,fun y c _ h=>?_,fun _=>hd,Around.frames_deeper e0.frames,.inr ⟨rfl,rfl⟩,fun b z=>absurd z (noA b),e0.bs,e0.bsz,fun b _ _=>noA b,fun b z=>absurd z (noA b),e0.funs,e0.frf⟩,
    rfl,e0.bare,Un.kept hk,⟨_,x.toInCall.ns,fun i y v h1 h2 h3=>?_⟩,fun y c h=>⟨_,x.cell y c h⟩,e0.hok.fresh (Nat.le_refl _),fun y c h=>?_,fun p hp=>absurd (show p ∈ ([]:List (Addr × Obj)) from hp) (by simp),e0.hok.kept hk,?_⟩
  . exact name_of_addr x.apart (PySem.mem_of_lookup h1) (PySem.mem_of_lookup h2)
  . have hy:scope.names.lookup y=some .cell ∨ scope.names.lookup y=some .free:=hy
    rcases hy with hy | hy
    . exact JF hy
    . exact absurd rfl (S.nofree _ (PySem.mem_of_lookup hy))
  . exact Nat.le_of_lt (x.above y c (PySem.mem_of_lookup h))
  . have hi:i < vs.length:=by
      unfold start at h2
      by_cases hi:i < vs.length
      . exact hi
      . rw [List.getElem?_append_right (by simpa using hi)] at h2
        rw [List.getElem?_replicate] at h2
        split at h2 <;> cases h2
    have ha:vs[i]? = some v:=by
      unfold start at h2
      rw [List.getElem?_append_left (by simpa using hi),List.getElem?_map] at h2
      cases e:vs[i]? with
      | none=>rw [e] at h2; cases h2
      | some a=>rw [e] at h2; cases h2; rfl
    obtain ⟨u,hu,rv⟩:=r.get ha
    have hp:ps[i]? = some y:=by
      rw [← S.pre,List.getElem?_take_of_lt (by omega)]; exact h1
    have ndP:ps.Nodup:=by rw [← S.pre]; exact S.nd.sublist (List.take_sublist _ _)
    refine ⟨u,rv,?_⟩
    rcases S.par y (List.mem_of_getElem? hp) with k | k
    . exact .inl ⟨k,G3 ndP hp hu k⟩
    . obtain ⟨c,e⟩:=JF (n:=s.heap.objs.size + 1) k
      refine .inr ⟨.inl k,c,e,?_⟩
      have q:=x.cell y c e
      rw [G5 ndP hp hu (by show scope.names.lookup y ≠ _; rw [k]; decide)] at q
      exact q
  . exact e0.hok.fresh (Nat.le_of_lt (x.above y c (PySem.mem_of_lookup h)))
  . unfold start
    show _=N.length
    rw [List.length_append,List.length_map,List.length_replicate]
    omega
theorem Tg {CX:CXT} {P:Program} {w:World} {K:PySem.W.Frag} {mg:Str->Option Value} {base:Heap} {k:Nat} {f:Addr} {name qual:Str} {params:Arguments} {body:List Stmt} {scope:Scope} {dV kV doc pm cdv ct oc:Value} {an od:Option Addr}
    {osl:Array (Option Value)} {N ps:List Str} {sp:Sp} (lk:K.lookup f=some ⟨oc,od,.func (PySem.W.fnOf name qual params body scope dV kV doc pm an cdv ct),osl⟩) (hcd:PySem.W.codeIn K cdv qual=true) (S:Ai N ps scope)
    (len:∀ vs H Q E,sp vs H Q E->vs.length=ps.length)
    (hbody:∀ (A:Around) (outer:List Env) (s:Shared) (H:Hp) (vs:List V) (Q:VK) (E:XK),Room k (A.deeper (envOfC qual scope s.heap.objs.size f cdv))->sp vs H Q E->
      ∃ t,PSs (Bv CX P w K mg base N qual scope f cdv A outer s H E) body t /\ t { nx:=fun _ H'=>Q .non H',rt:=Q } (start N vs) H) :
    FnOk P w K mg base CX (k + 1) f (PySem.W.fnOf name qual params body scope dV kV doc pm an cdv ct) ps sp:=by
  refine ⟨len,fun A outer s H args us vs Q E hr e0 hb r hsp=>?_⟩
  have hl:=len _ _ _ _ hsp
  have KX:K.In s.heap:=e0.mod.kin.keeps fun b o e=>(e0.bs b o e).1
  have lim:s.heap.NoLimit:=e0.mod.nolimit.keeps fun b o e=>(e0.bs b o e).1
  have hkind:∀ y ∈ ps.zip us,scope.names.lookup y.1=some .local ∨ (scope.names.lookup y.1=some .cell /\ ((cellsFrom (s.heap.objs.size + 1) scope.names []).lookup y.1).isSome=true):=fun ⟨n,v⟩ hy=>by
    rcases S.par n (List.of_mem_zip hy).1 with q | q
    . exact .inl q
    . exact .inr ⟨q,PySem.W.cellsFrom_some _ _ _ (.inl q)⟩
  refine codeAny_call_function hr.depth (KX _ _ lk) rfl S.co S.gen rfl (PySem.W.codeRec_of KX hcd) (hb _ _ _ _ ?_)
  refine wpAny_newFunctionEnv_cells S.kind hkind fun env he s1 x=>?_
  subst he
  refine ⟨lim.keeps x.toInCall.keep,codeAny_func ?_⟩
  obtain ⟨t,ht,hq⟩:=hbody A outer s H vs Q E (hr.deeper _) hsp
  have I:Inv (Bv CX P w K mg base N qual scope f cdv A outer s H E) [] (start N vs) H s1:=Lh S hr.hd e0 hl r x
  refine wpAny_mono (ht [] s1 (start N vs) H _ I hq) (fun fl s' hs=>?_) fun e s' hs=>hs
  have fin:∀ {σ':St} {H':Hp} {v:V} {u:Value},Inv (Bv CX P w K mg base N qual scope f cdv A outer s H E) [] σ' H' s'->RelV v u->Q v H'->CE outer P w H s Q u s':=
    fun {σ' H' v u} J rv q=>⟨v,H',J.os,J.bare,J.base,J.hok,rv,q⟩
  cases fl with
  | ret u=>
    obtain ⟨v,σ',H',J,rv,q⟩:=hs
    exact fin J rv q
  | next=>
    obtain ⟨σ',H',J,q⟩:=hs
    exact fin (v:=V.non) (u:=Value.none) J rfl q
  | brk=>
    obtain ⟨_,_,_,q⟩:=hs
    exact False.elim q
  | cont=>
    obtain ⟨_,_,_,q⟩:=hs
    exact False.elim q
end L2
namespace L2
open PySem PySem.Spec PyProof.Rows
section
variable {X:Cx} {x:Str} {p pos:Pos} {e:Expr} {es:List Expr} {t:TA} {id T:String} {r:List V->Hp->VK->Prop}
def tCB (r:List V->Hp->VK->Prop) (t:TA):TE:=fun σ H Q=>t σ H fun vs H1=>r vs H1 Q
theorem Fv (hc:B7 X (.builtin id) r) (hg:Gl X x) (hm:X.mg x=none) (hv:bootBuiltins x=some (.builtin id)) (ha:PA X (e :: es) t) (hn:x ≠ "__name__" := by decide) (hdb:(x == ("__debug__" : Str))=false:=by decide)
    (he:starEach (e :: es) X.env=(false,eval e X.env) :: starEach es X.env:=by rfl) (hpl:(backTo pos (starEach es X.env)).any (·.1)=false:=by rfl):PE X (.Call (.Name x p) (e :: es) [] pos) (tCB r t):=by
  intro pins s σ H Q I h
  refine wpAny_Call_Name_kw (El I hg hm hv ?_ hn hdb)
  exact PyProof.Rows.callWith_builtin1 (thn (ha pos pins s σ H _ I h) fun us s1 ⟨vs,H1,I1,r1,q1⟩=>hc pins s1 σ H1 vs us Q I1 r1 q1) he hpl
theorem C0 (hc:B7 X (.type T) r) (hg:Gl X x) (hm:X.mg x=none) (hv:bootBuiltins x=some (.type T)) (ha:PA X (e :: es) t) (hn:x ≠ "__name__" := by decide) (hdb:(x == ("__debug__" : Str))=false:=by decide)
    (he:starEach (e :: es) X.env=(false,eval e X.env) :: starEach es X.env:=by rfl) (hpl:(backTo pos (starEach es X.env)).any (·.1)=false:=by rfl):PE X (.Call (.Name x p) (e :: es) [] pos) (tCB r t):=by
  intro pins s σ H Q I h
  refine wpAny_Call_Name_kw (El I hg hm hv ?_ hn hdb)
  exact PyProof.Rows.callWith_type1 (thn (ha pos pins s σ H _ I h) fun us s1 ⟨vs,H1,I1,r1,q1⟩=>hc pins s1 σ H1 vs us Q I1 r1 q1) he hpl
end
end L2
namespace HT
open PySem PyProof.Rows
section
open PySem.SeqAt
open PySem.AutoSeq1 (wpAny_loadPart')
open PySem.MeetsSeq PySem.MeetsSeq2 PySem.MeetsSeq3
end
section
variable {prog:Program} {w:World} {A:Around} {E:Value->Shared->Prop} {s:Shared}
theorem Pn {t b:Addr} {vs ws:List Value} {Q:Value->Shared->Prop} (ht:IsTup s.heap t vs.toArray) (hb:IsTup s.heap b ws.toArray) (hv:vs ≠ [])
    (h1:ws=[]->Q (.ref t) s) (h2:ws ≠ []->Q (.ref s.heap.objs.size) { s with heap:=s.heap.push { cls:=.type "tuple",data:=.seq (vs ++ ws).toArray } })
    (hsz:vs.length + ws.length <= sizeLine):wpAny (model prog w) A (binaryOp .Add (.ref t) (.ref b)) Q E s:=by
  obtain ⟨⟨cls,dd,data,sl⟩,ho,hc,n,hd⟩:=id ht
  obtain ⟨⟨cls2,dd2,data2,sl2⟩,ho2,hc2,n2,hd2⟩:=id hb
  simp only at hc hd hc2 hd2
  subst hc hd hc2 hd2
  have e:vs.toArray ++ ws.toArray=(vs ++ ws).toArray:=by simp
  by_cases hw:ws=[]
  . exact concat_meets ⟨_,ho,rfl⟩ ⟨_,ho2,rfl⟩ noFill_tuple_add seq_tuple_add PySem.F.slot_tuple_add PySem.F.entry_tuple_add (PySem.F.args_tuple_add_2 _ _)
      (tuple_addW1 t b vs.toArray ws.toArray n n2 dd dd2 sl sl2 (by simpa using hv) (by simp [hw])) ⟨ho,ho2,h1 hw⟩
  . refine concat_meets ⟨_,ho,rfl⟩ ⟨_,ho2,rfl⟩ noFill_tuple_add seq_tuple_add PySem.F.slot_tuple_add PySem.F.entry_tuple_add (PySem.F.args_tuple_add_2 _ _)
      (tuple_addW2 t b vs.toArray ws.toArray n n2 dd dd2 sl sl2 (by simpa using hv) (by simpa using hw) (by rw [List.size_toArray,List.size_toArray]; exact hsz)) ⟨ho,ho2,?_⟩
    rw [e]
    exact h2 hw
def sIx (n d:Nat):Option Int->Nat
  | none=>d
  | some v=>if v < 0 then (v + (n:Int)).toNat else min v.toNat n
theorem Oc (n d k:Nat):sIx n d (some (k:Int))=min k n:=by
  show (if (k:Int) < 0 then ((k:Int) + (n:Int)).toNat else min (k:Int).toNat n)=min k n
  rw [if_neg (by omega),Int.toNat_natCast]
theorem Qw (n d:Nat) (hd:d <= n) (o:Option Int):sIx n d o <= n:=by
  cases o with
  | none=>exact hd
  | some v=>
    show (if v < 0 then (v + (n:Int)).toNat else min v.toNat n) <= n
    by_cases hv:v < 0
    . rw [if_pos hv]; omega
    . rw [if_neg hv]; exact Nat.min_le_right _ _
theorem Ku (v:Int) (n d:Nat):(if v < 0 then max (v + (n:Int)) 0 else min v (n:Int))=((sIx n d (some v):Nat):Int):=by
  show (if v < 0 then max (v + (n:Int)) 0 else min v (n:Int))=(((if v < 0 then (v + (n:Int)).toNat else min v.toNat n):Nat):Int)
  by_cases hv:v < 0
  . simp only [if_pos hv]; omega
  . simp only [if_neg hv]; omega
theorem J4 (lo hi:Option Int) (n:Nat):Builtin.Slice.sliceAdjust lo hi 1 (n:Int)=(((sIx n 0 lo:Nat):Int),((sIx n n hi:Nat):Int)):=by
  have h1 : ¬ ((1:Int) < 0):=by omega
  unfold Builtin.Slice.sliceAdjust
  simp only [h1,if_false]
  refine Prod.ext ?_ ?_
  . cases lo with
    | none=>rfl
    | some v=>exact Ku v n 0
  . cases hi with
    | none=>rfl
    | some v=>exact Ku v n n
theorem Jk (i j:Nat):Builtin.Slice.slicePlaces (i:Int) (j:Int) 1=j - i:=by
  unfold Builtin.Slice.slicePlaces
  have h1:(1:Int) > 0:=by omega
  simp only [h1,if_true,Int.ediv_one]
  split <;> omega
theorem Fi {v:Value} {o:Option Int} {Q:Option Int->Shared->Prop} (p:IsPart v o) (h:Q o s):wpAny (model prog w) A (Builtin.Slice.slicePartIndex v) Q E s:=by
  cases p with
  | none=>exact slicePart_none h
  | int i t=>exact slicePart_int h
theorem Cv {sl:Addr} {vl vu:Value} {lo hi:Option Int} {n:Nat} {Q:Int × Int × Nat->Shared->Prop} (hs:s.heap.IsSliceOf sl vl vu .none) (pl:IsPart vl lo) (pu:IsPart vu hi)
    (h:Q (((sIx n 0 lo:Nat):Int),1,sIx n n hi - sIx n 0 lo) s):wpAny (model prog w) A (Builtin.Slice.sliceApplied (.ref sl) (pure (n:Int))) Q E s:=by
  obtain ⟨os,hos,hcs,hds⟩:=id hs
  unfold Builtin.Slice.sliceApplied Builtin.Slice.sliceFields
  refine wpAny_bind (wpAny_bind (wpAny_field hos hds (x:=vl) rfl (wpAny_bind (wpAny_field hos hds (x:=vu) rfl (wpAny_bind (wpAny_field hos hds (x:=.none) rfl (wpAny_pure ?_)))))))
  refine wpAny_bind (slicePart_none ?_)
  show wpAny _ _ (if ((1:Int) == 0)=true then _ else _) _ _ s
  rw [if_neg (by decide)]
  refine wpAny_bind (Fi pl (wpAny_bind (Fi pu (wpAny_bind (wpAny_pure ?_)))))
  show wpAny _ _ (match Builtin.Slice.sliceAdjust lo hi 1 (n:Int) with | (lo,hi)=>pure (lo,(1:Int),Builtin.Slice.slicePlaces lo hi 1)) _ _ s
  rw [J4 lo hi n]
  show wpAny _ _ (pure (((sIx n 0 lo:Nat):Int),(1:Int),Builtin.Slice.slicePlaces ((sIx n 0 lo:Nat):Int) ((sIx n n hi:Nat):Int) 1)) _ _ s
  rw [Jk]
  exact wpAny_pure h
theorem Mv (xs:Array Value) (i k:Nat):((List.range k).filterMap fun (m:Nat)=>xs[((i:Int) + (m:Int) * 1).toNat]?).toArray=((xs.toList.drop i).take k).toArray:=by
  have e:(fun (m:Nat)=>xs[((i:Int) + (m:Int) * 1).toNat]?)=fun m=>xs[i + m]?:=by
    funext m
    have:((i:Int) + (m:Int) * 1).toNat=i + m:=by omega
    rw [this]
  rw [e]
  have:=pick_run xs i k
  rw [List.filterMap_map] at this
  have e2:((fun x=>xs[x]?) ∘ fun x=>i + x)=fun m=>xs[i + m]?:=rfl
  rw [e2] at this
  rw [this]
theorem EN {t sl:Addr} {items:Array Value} {vl vu:Value} {lo hi:Option Int} {Q:Value->Shared->Prop} (ht:IsTup s.heap t items) (hs:s.heap.IsSliceOf sl vl vu .none) (pl:IsPart vl lo) (pu:IsPart vu hi)
    (hw : ¬ (sIx items.size 0 lo=0 /\ sIx items.size items.size hi=items.size))
    (h:Q (.ref s.heap.objs.size) { s with heap:=s.heap.push { cls:=.type "tuple",data:=.seq ((items.toList.drop (sIx items.size 0 lo)).take (sIx items.size items.size hi - sIx items.size 0 lo)).toArray } })
    (hsz:items.size <= sizeLine):wpAny (model prog w) A (getItem (.ref t) (.ref sl)) Q E s:=by
  have htake:sizeOk (.seq ((items.toList.drop (sIx items.size 0 lo)).take (sIx items.size items.size hi - sIx items.size 0 lo)).toArray):=by
    show ((items.toList.drop (sIx items.size 0 lo)).take (sIx items.size items.size hi - sIx items.size 0 lo)).toArray.size <= sizeLine
    rw [List.size_toArray,List.length_take,List.length_drop,Array.length_toList]
    omega
  have hj:sIx items.size items.size hi <= items.size:=Qw _ _ (Nat.le_refl _) hi
  obtain ⟨os,hos,hcs,hds⟩:=id hs
  have hTs:s.TypeIs (.ref sl) "slice" := ⟨os,hos,hcs⟩
  unfold getItem
  try with_reducible refine wpAny_holding ?_
  first | refine wpAny_bind (wpAny_pure ?_) | skip
  refine wpAny_bind (wpAny_sequenceKey ht.typeIs (by decide) ?_)
  refine wpAny_bind (wpAny_callSpecial?_slot (name:=Str.ofString "__getitem__") ht.typeIs PyProof.Rows.slot_tuple_getitem
    (wpAny_call_entry PyProof.Rows.slot_tuple_getitem ht.typeIs entry_tuple_getitem ?_ (args_tuple_getitem _ _)))
  show wpAny _ _ (Builtin.Tuple.tupleItemsOf (.ref t) >>= _) _ _ s
  refine wpAny_bind (tupleItemsOf_ ht ?_)
  refine wpAny_bind (wpAny_typeOf hTs ?_)
  rw [if_pos (by decide)]
  refine wpAny_bind (Cv hs pl pu ?_)
  have hno : ¬ ((((sIx items.size 0 lo:Nat):Int) == 0 && (1:Int) == 1 && (sIx items.size items.size hi - sIx items.size 0 lo) == items.size)=true):=by
    intro q
    rw [Bool.and_eq_true,Bool.and_eq_true] at q
    have q1:((sIx items.size 0 lo:Nat):Int)=0:=eq_of_beq q.1.1
    have q2:sIx items.size items.size hi - sIx items.size 0 lo=items.size:=eq_of_beq q.2
    exact hw ⟨by omega,by omega⟩
  show wpAny _ _ (if (((sIx items.size 0 lo:Nat):Int) == 0 && (1:Int) == 1 && (sIx items.size items.size hi - sIx items.size 0 lo) == items.size)=true then _ else _) _ _ s
  rw [if_neg hno,Mv]
  first
    | exact wpAny_bind (m:=Builtin.Tuple.tupleExact _) (wpAny_newObj_type (wpAny_pure ⟨_,rfl,wpAny_pure h⟩) htake)
    | exact wpAny_bind (m:=Builtin.Tuple.tupleExact _) (wpAny_newObj_type (wpAny_bind (wpAny_pure (wpAny_pure ⟨_,rfl,wpAny_pure h⟩))) htake)
    | exact wpAny_bind (wpAny_bind (m:=Builtin.Tuple.tupleExact _) (wpAny_newObj_type (wpAny_pure (wpAny_pure ⟨_,rfl,wpAny_pure h⟩)) htake))
    | exact wpAny_bind (wpAny_bind (m:=Builtin.Tuple.tupleExact _) (wpAny_newObj_type (wpAny_pure ⟨_,rfl,wpAny_pure h⟩) htake))
end
end HT
namespace L2
open PySem PySem.Spec PyProof.Rows
abbrev TO:=St->Hp->(Option Int->Hp->Prop)->Prop
def PO (X:Cx) (e:Option Expr) (t:TO):Prop:=
  ∀ (pins:List (Addr × Obj)) (s:Shared) (σ:St) (H:Hp) (Q:Option Int->Hp->Prop),Inv X pins σ H s->t σ H Q->
    wpAny (model X.prog X.w) X.A (evalPart e X.env) (fun u s'=>∃ o H',Inv X pins σ H' s' /\ IsPart u o /\ Q o H') X.xe s
def OO:TO:=fun _ H Q=>Q none H
def SZ (t:TE):TO:=fun σ H Q=>t σ H fun x H1=>∃ i,x=.int i /\ Q (some i) H1
section
variable {X:Cx} {e:Expr} {te:TE} {lo hi:Option Expr} {tl th:TO} {pos p2:Pos}
theorem O6:PO X none OO:=by
  intro pins s σ H Q I h
  rw [evalPart_none]
  exact wpAny_pure ⟨none,H,I,.none,h⟩
theorem O5 (h:PE X e te):PO X (some e) (SZ te):=by
  intro pins s σ H Q I hw
  rw [evalPart_some]
  refine thn (h pins s σ H _ I hw) fun u s1 ⟨x,H1,I1,r1,q1⟩=>?_
  obtain ⟨i,rfl,q⟩:=q1
  obtain ⟨t,rfl⟩:=r1
  exact ⟨some i,H1,I1,.int i t,q⟩
def SlR (X:Cx) (r:V->Option Int->Option Int->Hp->VK->Prop):Prop:=
  ∀ (pins:List (Addr × Obj)) (s:Shared) (σ:St) (H:Hp) (x:V) (v vl vu:Value) (lo hi:Option Int) (sl:Addr) (Q:VK),Inv X pins σ H s->RelV x v->s.heap.IsSliceOf sl vl vu .none->IsPart vl lo->IsPart vu hi->r x lo hi H Q->
    ∃ T id,typeLookup (.type T) "__getitem__" = pure (some (.builtin id)) /\ s.TypeIs v T /\ wpAny (model X.prog X.w) X.A (getItem v (.ref sl)) (EP X pins σ Q) X.xe s
theorem SlR.or {r r':V->Option Int->Option Int->Hp->VK->Prop} (h:SlR X r) (h':SlR X r'):SlR X (fun x lo hi H Q=>r x lo hi H Q ∨ r' x lo hi H Q):=by
  intro pins s σ H x v vl vu lo hi sl Q I rx hs pl pu q
  rcases q with q | q
  . exact h pins s σ H x v vl vu lo hi sl Q I rx hs pl pu q
  . exact h' pins s σ H x v vl vu lo hi sl Q I rx hs pl pu q
def tSl (r:V->Option Int->Option Int->Hp->VK->Prop) (te:TE) (tl th:TO):TE:=fun σ H Q=>te σ H fun x H1=>tl σ H1 fun l H2=>th σ H2 fun u H3=>r x l u H3 Q
theorem Mz {r:V->Option Int->Option Int->Hp->VK->Prop} (hr:SlR X r) (he:PE X e te) (hl:PO X lo tl) (hu:PO X hi th):PE X (.Subscript e (.Slice lo hi none p2) pos) (tSl r te tl th):=by
  intro pins s σ H Q I h
  refine Subscript_ (thn (he pins s σ H _ I h) fun v s1 ⟨x,H1,I1,r1,q1⟩=>?_)
  refine wpAny_Slice (thn (hl pins s1 σ H1 _ I1 q1) fun vl s2 ⟨l,H2,I2,pl,q2⟩=>thn (hu pins s2 σ H2 _ I2 q2) fun vu s3 ⟨u,H3,I3,pu,q3⟩=>?_)
  rw [evalPart_none]
  refine wpAny_pure ?_
  have I4:Inv X pins σ H3 { s3 with heap:=s3.heap.push { cls:=.type "slice",data:=.fields #[vl,vu,.none] } }:=I3.kept (t':=s3.toks) fun b ob q=>Heap.get?_push_of_some _ q
  obtain ⟨T,id,hT,ht,hg⟩:=hr pins { s3 with heap:=s3.heap.push { cls:=.type "slice",data:=.fields #[vl,vu,.none] } } σ H3 x v vl vu l u s3.heap.objs.size Q I4 r1 (Heap.IsSliceOf.new ..) pl pu q3
  show wpAny (model X.prog X.w) X.A (subscriptTail e (.Slice lo hi none p2) v (.ref s3.heap.objs.size)) (EP X pins σ Q) X.xe { s3 with heap:=s3.heap.push { cls:=.type "slice",data:=.fields #[vl,vu,.none] } }
  exact tail_any (ops:=[.ref s3.heap.objs.size,v]) ht hT hg (by with_unfolding_all rfl)
def JB (xs:List V) (lo hi:Option Int):List V:=(xs.drop (HT.sIx xs.length 0 lo)).take (HT.sIx xs.length xs.length hi - HT.sIx xs.length 0 lo)
theorem E9 (xs:List V) (lo hi:Option Int):(JB xs lo hi).length <= xs.length:=by
  unfold JB
  rw [List.length_take,List.length_drop]
  omega
def T8 (K:PySem.W.Frag):V->Option Int->Option Int->Hp->VK->Prop:=fun x lo hi H Q=>∃ a xs,x=.ref a /\ SqT K H a xs /\
  ¬ (HT.sIx xs.length 0 lo=0 /\ HT.sIx xs.length xs.length hi=xs.length) /\ ∀ p,H p=none->Q (.ref p) (upd H p (.tup (JB xs lo hi)))
theorem Qu:SlR X (T8 X.K):=by
  intro pins s σ H x v vl vu lo hi sl Q I rx hs pl pu h
  obtain ⟨a,xs,rfl,hx,hw,q⟩:=h
  cases rx
  obtain ⟨its,r,ht,hz⟩:=I.tuple hx
  have hlen:its.toArray.size=xs.length:=by rw [List.size_toArray]; exact r.length.symm
  refine ⟨"tuple",_,PyProof.Rows.slot_tuple_getitem.lookup,ht.typeIs,?_⟩
  refine HT.EN ht hs pl pu (by rw [hlen]; exact hw) ?_ (by rw [hlen]; exact hz)
  rw [hlen]
  refine ⟨.ref s.heap.objs.size,_,I.laid (t':=s.toks) (o:=.tup (JB xs lo hi)) (fun b ob q=>Heap.get?_push_of_some _ q) (Nat.le_refl _) ?_,rfl,q _ (I.hok.fresh (Nat.le_refl _))⟩
  exact ⟨Nat.le_trans (E9 xs lo hi) hz,_,(r.drop (HT.sIx xs.length 0 lo)).take (HT.sIx xs.length xs.length hi - HT.sIx xs.length 0 lo),IsTup.new _ _⟩
def Sv (K:PySem.W.Frag):R2:=fun x y H Q=>∃ a b xs ys,x=.ref a /\ y=.ref b /\ SqT K H a xs /\ SqT K H b ys /\ xs ≠ [] /\ xs.length + ys.length <= sizeLine /\
  (ys=[]->Q (.ref a) H) /\ (ys ≠ []->∀ p,H p=none->Q (.ref p) (upd H p (.tup (xs ++ ys))))
theorem Vals.nil_iff {xs:List V} {us:List Value} (r:Vals xs us):us=[] ↔ xs=[]:=by
  cases r with
  | nil=>simp
  | cons _ _=>simp
theorem PL:OpR X (binaryOp .Add) (Sv X.K):=by
  intro pins s σ H x y v u Q I rx ry h
  obtain ⟨a,b,xs,ys,rfl,rfl,ha,hb,hx,hz,q1,q2⟩:=h
  cases rx
  cases ry
  obtain ⟨its,r1,p1,_⟩:=I.tuple ha
  obtain ⟨its2,r2,p2,_⟩:=I.tuple hb
  refine HT.Pn p1 p2 (fun z=>hx (r1.nil_iff.mp z)) (fun z=>⟨.ref a,H,I,rfl,q1 (r2.nil_iff.mp z)⟩) (fun z=>?_) (by rw [← r1.length,← r2.length]; exact hz)
  refine ⟨.ref s.heap.objs.size,_,I.laid (t':=s.toks) (o:=.tup (xs ++ ys)) (fun b ob q=>Heap.get?_push_of_some _ q) (Nat.le_refl _) ?_,rfl,q2 (fun w=>z (r2.nil_iff.mpr w)) _ (I.hok.fresh (Nat.le_refl _))⟩
  exact ⟨by rw [List.length_append]; exact hz,_,r1.append r2,IsTup.new _ _⟩
theorem JG:B7 X (.type "tuple") (fun xs H Q=>∃ a ys,xs=[.ref a] /\ SqT X.K H a ys /\ Q (.ref a) H):=by
  intro pins s σ H xs us Q I r h
  obtain ⟨a,ys,rfl,ha,q⟩:=h
  obtain ⟨u,rfl,ru⟩:=IA r
  cases ru
  obtain ⟨its,_,p1,_⟩:=I.tuple ha
  exact call_tuple_same (items:=its.toArray) p1 ⟨.ref a,H,I,rfl,q⟩
end
end L2
namespace L2
open PySem PySem.Spec PyProof.Rows
def ixN (n:Nat) (i:Int):Option Nat:=if 0 <= i then (if i < n then some i.toNat else none) else if -(n:Int) <= i then some (i + n).toNat else none
def atI {α:Type} (xs:List α) (i:Int):Option α:=(ixN xs.length i).bind fun j=>xs[j]?
theorem Kl {n:Nat} {i:Int} {j:Nat} (h:ixN n i=some j):seqIndex? i n=some j /\ j < n /\ -(n:Int) <= i /\ i < n:=by
  unfold ixN at h
  by_cases h0:0 <= i
  . rw [if_pos h0] at h
    by_cases h1:i < n
    . rw [if_pos h1] at h
      have e:i.toNat=j:=Option.some.inj h
      exact ⟨by rw [seqIndex_of h0 h1,e],by omega,by omega,h1⟩
    . rw [if_neg h1] at h; cases h
  . rw [if_neg h0] at h
    by_cases h1 : -(n:Int) <= i
    . rw [if_pos h1] at h
      have e:(i + n).toNat=j:=Option.some.inj h
      exact ⟨by rw [seqIndex_neg (by omega) h1,e],by omega,h1,by omega⟩
    . rw [if_neg h1] at h; cases h
theorem Hi {α:Type} {xs:List α} {i:Int} {v:α} (h:atI xs i=some v):∃ j,seqIndex? i xs.length=some j /\ xs[j]? = some v /\ j < xs.length /\ -(xs.length:Int) <= i /\ i < xs.length:=by
  unfold atI at h
  cases e:ixN xs.length i with
  | none=>rw [e] at h; cases h
  | some j=>
    rw [e] at h
    obtain ⟨h1,h2,h3,h4⟩:=Kl e
    exact ⟨j,h1,h,h2,h3,h4⟩
theorem Hh {α:Type} {xs:List α} {j:Nat} {v:α} (h:xs[j]? = some v):atI xs (j:Int)=some v:=by
  have hj:j < xs.length:=(List.getElem?_eq_some_iff.mp h).1
  have e:ixN xs.length (j:Int)=some j:=by
    unfold ixN
    rw [if_pos (by omega),if_pos (by omega)]; simp
  unfold atI; rw [e]; exact h
def Kz (b:Expr):Prop:=∀ o i,subscripted b false o i=operate [o,i] (getItem o i)
def IxR (X:Cx) (r:R2):Prop:=
  ∀ (value slice:Expr) (pins:List (Addr × Obj)) (s:Shared) (σ:St) (H:Hp) (x y:V) (v u:Value) (Q:VK),Inv X pins σ H s->RelV x v->RelV y u->r x y H Q->
    subscripted slice false v u=operate [v,u] (getItem v u)->wpAny (model X.prog X.w) X.A (subscriptTail value slice v u) (EP X pins σ Q) X.xe s
def MtR (X:Cx) (id:String) (r:V->List V->Hp->VK->Prop):Prop:=
  ∀ (pins:List (Addr × Obj)) (s:Shared) (σ:St) (H:Hp) (x:V) (xs:List V) (v:Value) (us:List Value) (Q:VK),Inv X pins σ H s->RelV x v->Vals xs us->r x xs H Q->
    wpAny (model X.prog X.w) X.A (call (.builtin id) (v :: us)) (EP X pins σ Q) X.xe s
section
variable {X:Cx} {a b:Expr} {ta tb:TE} {pos:Pos}
theorem IxR.or {r r':R2} (h:IxR X r) (h':IxR X r'):IxR X (fun x y H Q=>r x y H Q ∨ r' x y H Q):=by
  intro value slice pins s σ H x y v u Q I rx ry q hs
  rcases q with q | q
  . exact h value slice pins s σ H x y v u Q I rx ry q hs
  . exact h' value slice pins s σ H x y v u Q I rx ry q hs
theorem TF {r:R2} (hr:IxR X r) (ha:PE X a ta) (hb:PE X b tb) (hs:Kz b):PE X (.Subscript a b pos) (tOp r ta tb):=by
  intro pins s σ H Q I h
  exact Subscript_ (SF ha hb I h fun v u s2 x y H2 I2 rx ry q=>hr a b pins s2 σ H2 x y v u Q I2 rx ry q (hs _ _))
def Su (K:PySem.W.Frag):R2:=fun x y H Q=>∃ p xs i v,x=.ref p /\ y=.int i /\ SqL K H p xs /\ atI xs i=some v /\ Q v H
def Sr (K:PySem.W.Frag):R2:=fun x y H Q=>∃ p xs i v,x=.ref p /\ y=.int i /\ SqT K H p xs /\ atI xs i=some v /\ Q v H
def Ss:R2:=fun x y H Q=>∃ z i c,x=.str z /\ y=.int i /\ z.length <= sizeLine /\ atI z.cps.toList i=some c /\ Q (.str ⟨#[c]⟩) H
theorem ix_list:IxR X (Su X.K):=by
  intro value slice pins s σ H x y v u Q I rx ry h hs
  obtain ⟨p,xs,i,z,rfl,rfl,hq,he,q⟩:=h
  cases rx
  obtain ⟨t,rfl⟩:=ry
  obtain ⟨its,r,pl,hz⟩:=I.list hq
  obtain ⟨j,h1,h2,h3,h4,h5⟩:=Hi he
  obtain ⟨w,ew,rw'⟩:=r.get h2
  have hl:=r.length
  have hn:=F4
  have fin:EP X pins σ Q w s:=⟨z,H,I,rw',q⟩
  by_cases h0:0 <= i
  . have hj:i.toNat=j:=by
      rw [seqIndex_of h0 h5] at h1
      exact Option.some.inj h1
    exact item_listR pl.isList h0 (by omega) (by rw [hj]; simpa using ew) fin hs
  . have hj:(i + (its.toArray.size:Int)).toNat=j:=by
      rw [seqIndex_neg (by omega) h4] at h1
      rw [List.size_toArray,← hl]
      exact Option.some.inj h1
    exact subscriptTail_builtinR (x:=w) pl.isList.typeIs slot_list_getitem.lookup
      (wpAny_getItem_list_neg (Q:=fun r s'=>r=w /\ EP X pins σ Q r s') pl.isList (by omega) (by rw [List.size_toArray] <;> omega) (by omega) (by rw [hj]; simpa using ew) ⟨rfl,fin⟩) hs
theorem ix_tup:IxR X (Sr X.K):=by
  intro value slice pins s σ H x y v u Q I rx ry h hs
  obtain ⟨p,xs,i,z,rfl,rfl,hq,he,q⟩:=h
  cases rx
  obtain ⟨t,rfl⟩:=ry
  obtain ⟨its,r,pl,hz⟩:=I.tuple hq
  obtain ⟨j,h1,h2,h3,h4,h5⟩:=Hi he
  obtain ⟨w,ew,rw'⟩:=r.get h2
  have hl:=r.length
  have hn:=F4
  have fin:EP X pins σ Q w s:=⟨z,H,I,rw',q⟩
  exact subscriptTail_builtinR (x:=w) pl.typeIs slot_tuple_getitem.lookup
    (getItem_tuple (j:=j) (Q:=fun r s'=>r=w /\ EP X pins σ Q r s') pl (by omega) (by omega) (by rw [List.size_toArray,← hl]; exact h1) (by simpa using ew) ⟨rfl,fin⟩) hs
theorem Rv:IxR X Ss:=by
  intro value slice pins s σ H x y v u Q I rx ry h hs
  obtain ⟨z,i,c,rfl,rfl,hz,he,q⟩:=h
  obtain ⟨t,rfl⟩:=rx
  obtain ⟨t',rfl⟩:=ry
  obtain ⟨j,h1,h2,h3,h4,h5⟩:=Hi he
  have hl:z.cps.toList.length=z.length:=by simp [Str.length]
  rw [hl] at h1 h4 h5
  have hn:=F4
  exact tail_any (typeIs_str s z t) slot_str_getitem.lookup (getItem_str (c:=c) (by
    have e1:decide (i < -(2 ^ 63:Int))=false:=decide_eq_false (by omega)
    have e2:decide (i ≥ 2 ^ 63)=false:=decide_eq_false (by omega)
    rw [e1,e2,Bool.or_false]) (by rw [h1]; simpa using h2) ⟨.str ⟨#[c]⟩,H,I.tok _,⟨_,rfl⟩,q⟩) hs
def rIx (K:PySem.W.Frag):R2:=fun x y H Q=>Su K x y H Q ∨ Sr K x y H Q ∨ Ss x y H Q
theorem Jq:IxR X (rIx X.K):=ix_list.or (ix_tup.or Rv)
theorem Jn (its:List Value) (n j:Nat) (u:Value):Obj.mapSeq (·.setIfInBounds j u) { cls:=.type "list",data:=.seq its.toArray n }={ cls:=.type "list",data:=.seq (its.set j u).toArray n }:=by
  simp [Obj.mapSeq]
theorem Inv.lst {pins:List (Addr × Obj)} {σ:St} {H:Hp} {s:Shared} {p:Addr} {xs:List V} (I:Inv X pins σ H s) (h:H p=some (.lst xs)) :
    ∃ (its:List Value) (n:Nat),Vals xs its /\ s.heap.get? p=some { cls:=.type "list",data:=.seq its.toArray n } /\ xs.length <= sizeLine:=by
  obtain ⟨z,its,n,r,e⟩:=I.hok p _ h
  exact ⟨its,n,r,e,z⟩
theorem Inv.lstUpd {pins:List (Addr × Obj)} {σ:St} {H:Hp} {s:Shared} {p:Addr} {xs ys:List V} {its its':List Value} {n n':Nat} {f:Obj->Obj} (I:Inv X pins σ H s) (h:H p=some (.lst xs))
    (ho:s.heap.get? p=some { cls:=.type "list",data:=.seq its.toArray n }) (hf:f { cls:=.type "list",data:=.seq its.toArray n }={ cls:=.type "list",data:=.seq its'.toArray n' }) (r:Vals ys its') (hz:ys.length <= sizeLine) (t:Nat) :
    Inv X pins σ (upd H p (.lst ys)) { s with heap:=s.heap.update p f,toks:=t }:=by
  have e:(s.heap.update p f).get? p=some { cls:=.type "list",data:=.seq its'.toArray n' }:=by
    rw [Heap.get?_update_self f ho (by rw [hf] <;> rfl),hf]
  refine I.write (x:=p) (e:=p) (by rw [h]; trivial) (.inl rfl) (fun b u hb q=>(Heap.get?_update_other _ _ (Ne.symm hb)).trans q) ⟨_,e⟩ ?_
  exact ⟨hz,its',n',r,e⟩
def So:V->V->V->Hp->(Hp->Prop)->Prop:=fun o i v H Q=>∃ p xs k j,o=.ref p /\ i=.int k /\ H p=some (.lst xs) /\ ixN xs.length k=some j /\ Q (upd H p (.lst (xs.set j v)))
theorem MU:Tr X So:=by
  intro pins s σ H o i v ov iv u Q I ro ri rv h
  obtain ⟨p,xs,k,j,rfl,rfl,hp,hj,q⟩:=h
  cases ro
  obtain ⟨t,rfl⟩:=ri
  obtain ⟨its,n,r,ho,hz⟩:=I.lst hp
  obtain ⟨h1,h2,h3,h4⟩:=Kl hj
  have hl:=r.length
  have hn:=F4
  have I':Inv X pins σ (upd H p (.lst (xs.set j v))) { s with heap:=s.heap.update p (Obj.mapSeq (·.setIfInBounds j u)) }:=
    I.lstUpd hp ho (Jn its n j u) (r.set rv j) (by rw [List.length_set]; exact hz) s.toks
  by_cases h0:0 <= k
  . have hk:k.toNat=j:=by
      rw [seqIndex_of h0 h4] at h1
      exact Option.some.inj h1
    exact PySem.W.ki_setAt ho h0 (by omega) (by rw [List.size_toArray,← hl]; exact h4) (by rw [hk]; exact ⟨_,I',q⟩)
  . have hk:(k + (its.toArray.size:Int)).toNat=j:=by
      rw [seqIndex_neg (by omega) h3] at h1
      rw [List.size_toArray,← hl]
      exact Option.some.inj h1
    exact PySem.W.ki_setBack ho (by omega) (by rw [List.size_toArray,← hl]; exact h3) (by omega) (by rw [hk]; exact ⟨_,I',q⟩)
theorem HK (lo hi:Option Int) (n:Nat):(sliceBounds lo hi none n).1=((HT.sIx n 0 lo:Nat):Int) /\ (sliceBounds lo hi none n).2.1=((HT.sIx n n hi:Nat):Int) /\ (sliceBounds lo hi none n).2.2=1:=by
  refine ⟨?_,?_,rfl⟩
  . cases lo with
    | none=>simp [sliceBounds,HT.sIx]
    | some i=>
      simp only [sliceBounds,HT.sIx,Option.getD_none,show (1:Int) > 0 by decide,if_true]
      by_cases h:i < 0
      . simp only [h,if_true] <;> omega
      . simp only [h,if_false] <;> omega
  . cases hi with
    | none=>simp [sliceBounds,HT.sIx]
    | some i=>
      simp only [sliceBounds,HT.sIx,Option.getD_none,show (1:Int) > 0 by decide,if_true]
      by_cases h:i < 0
      . simp only [h,if_true] <;> omega
      . simp only [h,if_false] <;> omega
theorem GU (its:List Value) (lo hi:Option Int):slicePick its.toArray lo hi none=((its.drop (HT.sIx its.length 0 lo)).take (HT.sIx its.length its.length hi - HT.sIx its.length 0 lo)).toArray:=by
  obtain ⟨h1,h2,h3⟩:=HK lo hi its.toArray.size
  unfold slicePick
  rw [h1,h2,h3]
  simp only [sliceRange_one,pick_run,List.size_toArray] <;> rfl
def T9 (K:PySem.W.Frag):V->Option Int->Option Int->Hp->VK->Prop:=fun x lo hi H Q=>∃ a xs,x=.ref a /\ SqL K H a xs /\ ∀ p,H p=none->Q (.ref p) (upd H p (.lst (JB xs lo hi)))
theorem OV:SlR X (T9 X.K):=by
  intro pins s σ H x v vl vu lo hi sl Q I rx hs pl pu h
  obtain ⟨a,xs,rfl,hx,q⟩:=h
  cases rx
  obtain ⟨its,r,ht,hz⟩:=I.list hx
  have hlen:=r.length
  refine ⟨"list",_,slot_list_getitem.lookup,ht.isList.typeIs,?_⟩
  refine wpAny_getItem_list_slice ht.isList hs pl pu .none (by simp) ?_ (by rw [List.size_toArray] <;> omega)
  rw [GU,← hlen]
  refine ⟨.ref s.heap.objs.size,_,I.laid (t':=s.toks) (o:=.lst (JB xs lo hi)) (fun b ob q=>Heap.get?_push_of_some _ q) (Nat.le_refl _) ?_,rfl,q _ (I.hok.fresh (Nat.le_refl _))⟩
  exact ⟨Nat.le_trans (E9 xs lo hi) hz,_,0,(r.drop (HT.sIx xs.length 0 lo)).take (HT.sIx xs.length xs.length hi - HT.sIx xs.length 0 lo),Heap.get?_push_size _ rfl⟩
def Ds:V->Bool
  | .non=>true
  | .bl _=>true
  | .int _=>true
  | .str _=>true
  | _=>false
def eqV:V->V->Bool
  | .non,.non=>true
  | .bl a,.bl b=>a == b
  | .bl a,.int b=>(if a then 1 else 0) == b
  | .int a,.bl b=>a == (if b then 1 else 0)
  | .int a,.int b=>a == b
  | .str a,.str b=>a == b
  | _,_=>false
theorem SA {A:Around} {s:Shared} {y x:V} {u v:Value} (ry:RelV y u) (rx:RelV x v) (fy:Ds y=true) (fx:Ds x=true):SeqAt.EqAt A s u v (eqV y x):=by
  cases y with
  | non=>
    cases ry
    cases x with
    | non=>cases rx; exact SeqAt.EqAt.same _
    | bl b=>cases rx; exact SeqAt.EqAt.none_bool b
    | int b=>obtain ⟨t,rfl⟩:=rx; exact SeqAt.EqAt.none_int b t
    | str b=>obtain ⟨t,rfl⟩:=rx; exact SeqAt.EqAt.none_str b t
    | _=>exact absurd (show false=true from fx) Bool.false_ne_true
  | bl a=>
    cases ry
    cases x with
    | non=>cases rx; exact SeqAt.EqAt.bool_none a
    | bl b=>cases rx; exact SeqAt.EqAt.bool_bool a b
    | int b=>obtain ⟨t,rfl⟩:=rx; exact SeqAt.EqAt.bool_int a b t
    | str b=>obtain ⟨t,rfl⟩:=rx; exact SeqAt.EqAt.bool_str a b t
    | _=>exact absurd (show false=true from fx) Bool.false_ne_true
  | int a=>
    obtain ⟨t',rfl⟩:=ry
    cases x with
    | non=>cases rx; exact SeqAt.EqAt.int_none a t'
    | bl b=>cases rx; exact SeqAt.EqAt.int_bool a t' b
    | int b=>obtain ⟨t,rfl⟩:=rx; exact SeqAt.EqAt.int_int a t' b t
    | str b=>obtain ⟨t,rfl⟩:=rx; exact SeqAt.EqAt.int_str a t' b t
    | _=>exact absurd (show false=true from fx) Bool.false_ne_true
  | str a=>
    obtain ⟨t',rfl⟩:=ry
    cases x with
    | non=>cases rx; exact SeqAt.EqAt.str_none a t'
    | bl b=>cases rx; exact SeqAt.EqAt.str_bool a t' b
    | int b=>obtain ⟨t,rfl⟩:=rx; exact SeqAt.EqAt.str_int a t' b t
    | str b=>obtain ⟨t,rfl⟩:=rx; exact SeqAt.EqAt.str_str a t' b t
    | _=>exact absurd (show false=true from fx) Bool.false_ne_true
  | _=>exact absurd (show false=true from fy) Bool.false_ne_true
def eqU (x:V) (u:Value):Bool:=match u with
  | .none=>eqV .non x
  | .bool b=>eqV (.bl b) x
  | .int i _=>eqV (.int i) x
  | .str z _=>eqV (.str z) x
  | _=>false
theorem Nc {x y:V} {u:Value} (r:RelV y u) (f:Ds y=true):eqU x u=eqV y x:=by
  cases y with
  | non=>cases r; rfl
  | bl b=>cases r; rfl
  | int i=>obtain ⟨t,rfl⟩:=r; rfl
  | str z=>obtain ⟨t,rfl⟩:=r; rfl
  | _=>exact absurd (show false=true from f) Bool.false_ne_true
theorem Hk {x:V}:∀ {xs:List V} {us:List Value},Vals xs us->xs.all Ds=true->us.any (eqU x)=xs.any fun y=>eqV y x
  | _,_,.nil,_=>rfl
  | y :: xs,u :: us,.cons r t,f=>by
    rw [List.all_cons,Bool.and_eq_true] at f
    rw [List.any_cons,List.any_cons,Nc r f.1,Hk t f.2]
theorem Fz {A:Around} {s:Shared} {x:V} {v:Value} (rx:RelV x v) (fx:Ds x=true):∀ {xs:List V} {us:List Value},Vals xs us->xs.all Ds=true->∀ u ∈ us,SeqAt.EqAt A s u v (eqU x u)
  | _,_,.nil,_=>fun u hu=>by cases hu
  | y :: xs,u :: us,.cons r t,f=>fun u' hu=>by
    rw [List.all_cons,Bool.and_eq_true] at f
    rcases List.mem_cons.mp hu with rfl | hu
    . rw [Nc r f.1]; exact SA r rx f.1 fx
    . exact Fz rx fx t f.2 u' hu
def inV (x:V) (xs:List V):Bool:=xs.any fun y=>eqV y x
def rIn (K:PySem.W.Frag) (neg:Bool):R2:=fun x y H Q=>∃ p xs,y=.ref p /\ (SqL K H p xs ∨ SqT K H p xs) /\ Ds x=true /\ xs.all Ds=true /\ Q (.bl (if neg then !inV x xs else inV x xs)) H
theorem LX:OpR X (compareOp .In) (rIn X.K false):=by
  intro pins s σ H x y v u Q I rx ry h
  obtain ⟨p,xs,rfl,hq,fx,fs,q⟩:=h
  cases ry
  rcases hq with hq | hq
  . obtain ⟨its,r,pl,hz⟩:=I.list hq
    refine SeqAt.in_listAt (eqU x) pl.isList (fun w hw=>Fz rx fx r fs w (by simpa using hw)) ⟨.bl _,H,I,rfl,?_⟩
    rw [show its.toArray.any (eqU x)=its.any (eqU x) by simp,Hk r fs]
    exact q
  . obtain ⟨its,r,pl,hz⟩:=I.tuple hq
    refine SeqAt.in_tupleAt (eqU x) pl (fun w hw=>Fz rx fx r fs w (by simpa using hw)) ⟨.bl _,H,I,rfl,?_⟩
    rw [show its.toArray.any (eqU x)=its.any (eqU x) by simp,Hk r fs]
    exact q
def tyV (K:PySem.W.Frag) (T:String) (x:V) (H:Hp):Prop:=match x with
  | .str _=>T = "str"
  | .int _=>T = "int"
  | .ref p=>(T = "list" /\ ∃ xs,SqL K H p xs) ∨ (T = "tuple" /\ ∃ o,K.lookup p=some o /\ o.cls=.type "tuple" /\ o.dict=none) ∨
      (T = "dict" /\ ((∃ kvs,H p=some (.dK kvs)) ∨ ∃ kvs,H p=some (.dT kvs))) ∨ (T = "set" /\ ∃ S n,H p=some (.set S n))
  | _=>False
theorem ME {pins:List (Addr × Obj)} {σ:St} {H:Hp} {s:Shared} {T:String} {x:V} {v:Value} (I:Inv X pins σ H s) (r:RelV x v) (ty:tyV X.K T x H) :
    s.TypeIs v T /\ ∀ a,v=.ref a->∃ ob,s.heap.get? a=some ob /\ ob.dict=none:=by
  cases x with
  | str z=>
    obtain ⟨t,rfl⟩:=r
    cases (show T = "str" from ty)
    exact ⟨typeIs_str s z t,fun _ e=>nomatch e⟩
  | int i=>
    obtain ⟨t,rfl⟩:=r
    cases (show T = "int" from ty)
    exact ⟨typeIs_int s i t,fun _ e=>nomatch e⟩
  | ref p=>
    cases r
    rcases ty with ⟨rfl,xs,hq⟩ | ⟨rfl,o,hk,hc,hd⟩ | ⟨rfl,hk⟩ | ⟨rfl,S,n,hk⟩
    . obtain ⟨its,_,pl,_⟩:=I.list hq
      refine ⟨pl.isList.typeIs,fun a e=>?_⟩
      cases e
      obtain ⟨o,n,e,c,hd,_⟩:=pl
      exact ⟨o,e,hd⟩
    . refine ⟨⟨o,I.kIn p o hk,hc⟩,fun a e=>?_⟩
      cases e
      exact ⟨o,I.kIn _ o hk,hd⟩
    . have z:∃ o,s.heap.get? p=some o /\ o.ExactDict:=by
        rcases hk with ⟨kvs,hk⟩ | ⟨kvs,hk⟩
        . obtain ⟨_,_,_,_,o,_,_,e,ex,_⟩:=I.hok p _ hk
          exact ⟨o,e,ex⟩
        . obtain ⟨_,_,_,_,o,_,_,e,ex,_⟩:=I.hok p _ hk
          exact ⟨o,e,ex⟩
      obtain ⟨o,e,ex⟩:=z
      refine ⟨⟨o,e,ex.1⟩,fun a e2=>?_⟩
      cases e2
      exact ⟨o,e,ex.2.1⟩
    . obtain ⟨o,_,_,_,e,ex,_⟩:=I.hok p _ hk
      refine ⟨⟨o,e,ex.1⟩,fun a e2=>?_⟩
      cases e2
      exact ⟨o,e,ex.2.1⟩
  | _=>exact False.elim ty
def Sh (K:PySem.W.Frag) (T:String) (r:V->List V->Hp->VK->Prop) (to:TE):TE:=fun σ H Q=>to σ H fun x H1=>tyV K T x H1 /\ r x [] H1 Q
def tBM (K:PySem.W.Frag) (T:String) (r:V->List V->Hp->VK->Prop) (to:TE) (t:TA):TE:=fun σ H Q=>to σ H fun x H1=>tyV K T x H1 /\ t σ H1 fun xs H2=>r x xs H2 Q
variable {o e:Expr} {es:List Expr} {to:TE} {t:TA} {name:Str} {apos cpos:Pos} {T id:String} {r:V->List V->Hp->VK->Prop}
theorem Ra (pa:PlainAttrs T) (slot:Slot T name id) (hty:typeOf (.builtin id)=pure (.type "method_descriptor")) (hm:MtR X id r) (ho:PE X o to)
    (hbase:attributeBase o name X.env (eval o X.env)=eval o X.env:=by rfl) (hline:(apos.endLine == cpos.line)=true:=by rfl):PE X (.Call (.Attribute o name apos) [] [] cpos) (Sh X.K T r to):=by
  intro pins s σ H Q I h
  refine wpAny_Call_method0_late hbase hline (thn (ho pins s σ H _ I h) fun v s1 ⟨x,H1,I1,r1,ty,q1⟩=>?_)
  obtain ⟨h1,h2⟩:=ME I1 r1 ty
  exact ⟨T,id,pa,slot,hty,h1,h2,Calls.callWith_builtin rfl (PySem.evalArgs_none (hm pins s1 σ H1 x [] v [] Q I1 r1 .nil q1))⟩
theorem TH (pa:PlainAttrs T) (slot:Slot T name id) (hty:typeOf (.builtin id)=pure (.type "method_descriptor")) (hm:MtR X id r) (ho:PE X o to) (ha:PA X (e :: es) t)
    (hbase:attributeBase o name X.env (eval o X.env)=eval o X.env:=by rfl)
    (hfew:((backTo cpos (starEach (e :: es) X.env)).all (fun x=>!x.1) && (backToKw cpos (keywordEach [] X.env)).all (fun x=>x.1.isSome)
      && decide ((e :: es).length + ([]:List Keyword).length + (if ([]:List Keyword).isEmpty then 0 else 1) < 30))=true:=by rfl)
    (hline:(apos.endLine == cpos.line)=true:=by rfl) (hs:starEach (e :: es) X.env=(false,eval e X.env) :: starEach es X.env:=by rfl) (hplain:(backTo cpos (starEach es X.env)).any (·.1)=false:=by rfl) :
    PE X (.Call (.Attribute o name apos) (e :: es) [] cpos) (tBM X.K T r to t):=by
  intro pins s σ H Q I h
  refine wpAny_Call_method_late hbase hfew hline rfl (thn (ho pins s σ H _ I h) fun v s1 ⟨x,H1,I1,r1,ty,q1⟩=>?_)
  obtain ⟨h1,h2⟩:=ME I1 r1 ty
  refine ⟨T,id,pa,slot,hty,h1,h2,?_⟩
  have hA:=ha cpos pins s1 σ H1 _ I1 q1
  rw [hs] at hA ⊢
  refine Calls.callWith_builtin (by show (false || (backTo cpos (starEach es X.env)).any (·.1))=false; rw [hplain] <;> rfl) (Calls.evalArgs_plain ?_)
  exact thn hA fun us s2 ⟨vs,H2,I2,r2,q2⟩=>hm pins s2 σ H2 x vs v us Q I2 r1 r2 q2
end
end L2
namespace L2
open PySem PySem.Spec PyProof.Rows
def MtM (X:Cx) (id:String) (r:V->List V->Hp->VK->Prop):Prop:=
  ∀ (pins:List (Addr × Obj)) (s:Shared) (σ:St) (H:Hp) (x:V) (xs:List V) (v:Value) (us:List Value) (Q:VK),Inv X pins σ H s->RelV x v->Vals xs us->r x xs H Q->
    wpAny (model X.prog X.w) X.A (call (.builtin id) (v :: us)) (EP X pins σ Q) X.xe s
theorem Vals.one:∀ {x:V} {us:List Value},Vals [x] us->∃ u,us=[u] /\ RelV x u
  | _,_,.cons r .nil=>⟨_,rfl,r⟩
theorem Vals.two:∀ {x y:V} {us:List Value},Vals [x,y] us->∃ u v,us=[u,v] /\ RelV x u /\ RelV y v
  | _,_,_,.cons r (.cons q .nil)=>⟨_,_,rfl,r,q⟩
theorem Vals.zero:∀ {us:List Value},Vals [] us->us=[]
  | _,.nil=>rfl
theorem Vals.dropLast {xs:List V} {us:List Value} (h:Vals xs us):Vals xs.dropLast us.dropLast:=by
  induction h with
  | nil=>exact .nil
  | cons r t ih=>
    cases t with
    | nil=>exact .nil
    | cons q t'=>exact .cons r ih
theorem Vals.reverse {xs:List V} {us:List Value} (h:Vals xs us):Vals xs.reverse us.reverse:=by
  induction h with
  | nil=>exact .nil
  | cons r t ih=>rw [List.reverse_cons,List.reverse_cons]; exact Vals.append ih (.cons r .nil)
theorem Vals.rep {xs:List V} {us:List Value} (h:Vals xs us):∀ k:Nat,Vals (List.replicate k xs).flatten (List.replicate k us).flatten
  | 0=>.nil
  | k + 1=>by
    rw [List.replicate_succ,List.replicate_succ,List.flatten_cons,List.flatten_cons]
    exact Vals.append h (Vals.rep h k)
theorem Ju {α:Type} (l:List α):l.eraseIdx (l.length - 1)=l.dropLast:=by
  induction l with
  | nil=>rfl
  | cons a r ih=>
    cases r with
    | nil=>rfl
    | cons b r=>
      have e:(a :: b :: r).length - 1=((b :: r).length - 1) + 1:=by
        have h1:(a :: b :: r).length=r.length + 2:=rfl
        have h2:(b :: r).length=r.length + 1:=rfl
        omega
      rw [e,List.eraseIdx_cons_succ,ih]
      all_goals rfl
theorem Gv (its:List Value):∀ (k:Nat) (acc:List Value),
    List.foldl (fun x1 x2=>x1 ++ x2) acc.toArray (List.replicate k its.toArray)=(acc ++ (List.replicate k its).flatten).toArray
  | 0,acc=>by simp
  | k + 1,acc=>by
    have e:acc.toArray ++ its.toArray=(acc ++ its).toArray:=by simp
    have e2:(acc ++ its) ++ (List.replicate k its).flatten=acc ++ (List.replicate (k + 1) its).flatten:=by
      rw [List.replicate_succ,List.flatten_cons,List.append_assoc]
    rw [← e2,← Gv its k (acc ++ its),← e,List.replicate_succ,List.foldl_cons]
section
variable {X:Cx} {pins:List (Addr × Obj)} {σ:St} {H:Hp} {s:Shared} {l b:Addr} {xs ys zs:List V}
theorem Inv.lset {its its':List Value} {n:Nat} {f:Array Value->Array Value} {t':Nat} (I:Inv X pins σ H s) (hH:H l=some (.lst xs))
    (e:s.heap.get? l=some { cls:=.type "list",data:=.seq its.toArray n }) (hf:f its.toArray=its'.toArray) (hv:Vals ys its') (hz:ys.length <= sizeLine) :
    Inv X pins σ (upd H l (.lst ys)) { s with heap:=s.heap.update l (Obj.mapSeq f),toks:=t' }:=by
  have q:=PySem.IsL.update e f
  rw [hf] at q
  refine I.write (x:=l) (e:=l) (by rw [hH]; exact trivial) (.inl rfl) (fun b' u hb hu=>(Heap.get?_update_other s.heap (Obj.mapSeq f) (Ne.symm hb)).trans hu) ⟨_,q⟩ ?_
  exact ⟨hz,its',_,hv,q⟩
theorem Inv.lnew {its:List Value} {t':Nat} (I:Inv X pins σ H s) (hv:Vals ys its) (hz:ys.length <= sizeLine) :
    Inv X pins σ (upd H s.heap.objs.size (.lst ys)) { s with heap:=s.heap.push { cls:=.type "list",data:=.seq its.toArray },toks:=t' }:=
  I.laid (fun _ _ q=>Heap.get?_push_of_some _ q) (Nat.le_refl _) ⟨hz,its,0,hv,Heap.get?_push_size _ rfl⟩
theorem Inv.fresh (I:Inv X pins σ H s):H s.heap.objs.size=none:=I.hok.fresh (Nat.le_refl _)
theorem Inv.lstM (I:Inv X pins σ H s) (hH:H l=some (.lst xs)):xs.length <= sizeLine /\ ∃ (its:List Value) (n:Nat),Vals xs its /\ xs.length=its.length /\ s.heap.get? l=some { cls:=.type "list",data:=.seq its.toArray n }:=by
  obtain ⟨z,its,n,r,e⟩:=I.hok l _ hH
  exact ⟨z,its,n,r,r.length,e⟩
theorem IZ {n:Nat} (h:n <= sizeLine):Builtin.List.listTooLong n=false:=by
  unfold Builtin.List.listTooLong
  exact decide_eq_false (by omega)
end
section
variable {X:Cx}
def Ot:V->List V->Hp->VK->Prop:=fun x vs H Q=>∃ l xs y,x=.ref l /\ vs=[y] /\ H l=some (.lst xs) /\ xs.length < sizeLine /\ Q .non (upd H l (.lst (xs ++ [y])))
theorem Lb:MtM X "list.append" Ot:=by
  intro pins s σ H x vs v us Q I rx rv h
  obtain ⟨l,xs,y,rfl,rfl,hH,hz,q⟩:=h
  cases rx
  obtain ⟨u,rfl,ru⟩:=rv.one
  obtain ⟨z,its,n,r,hl,e⟩:=I.lstM hH
  refine call_meets F.slot_list_append ⟨_,e,rfl⟩ F.entry_list_append (F.args_list_append_2 _ _) (PySem.list_append l its.toArray n u (by rw [List.size_toArray]; omega)) ⟨e,?_⟩
  refine ⟨.non,_,I.lset (its':=its ++ [u]) hH e (by simp) (r.append (.cons ru .nil)) ?_,rfl,q⟩
  rw [List.length_append,List.length_singleton]
  omega
def Os:V->List V->Hp->VK->Prop:=fun x vs H Q=>∃ l b xs zs,x=.ref l /\ vs=[.ref b] /\ H l=some (.lst xs) /\ H b=some (.lst zs) /\ xs.length + zs.length <= sizeLine /\ Q .non (upd H l (.lst (xs ++ zs)))
theorem La:MtM X "list.extend" Os:=by
  intro pins s σ H x vs v us Q I rx rv h
  obtain ⟨l,b,xs,zs,rfl,rfl,hH,hB,hz,q⟩:=h
  cases rx
  obtain ⟨u,rfl,ru⟩:=rv.one
  cases ru
  obtain ⟨z,its,n,r,hl,e⟩:=I.lstM hH
  obtain ⟨z2,its2,n2,r2,hl2,e2⟩:=I.lstM hB
  have hsz:its.toArray.size + its2.toArray.size <= sizeLine:=by rw [List.size_toArray,List.size_toArray]; omega
  have hlong : ¬ (!its.toArray.isEmpty && Builtin.List.listTooLong (its.toArray.size + its2.toArray.size))=true:=by
    rw [IZ hsz,Bool.and_false]
    exact Bool.false_ne_true
  refine call_meets F.slot_list_extend ⟨_,e,rfl⟩ F.entry_list_extend (F.args_list_extend_2 _ _)
    (AutoSeq1.list_extend_list_list_0 l its.toArray n b its2.toArray n2 hlong (by rw [List.size_toArray]; omega) (by omega)) ⟨e,e2,?_⟩
  refine ⟨.non,_,I.lset (its':=its ++ its2) hH e (by simp) (r.append r2) ?_,rfl,q⟩
  rw [List.length_append]
  omega
def UB:V->List V->Hp->VK->Prop:=fun x vs H Q=>∃ l xs y,x=.ref l /\ vs=[] /\ H l=some (.lst xs) /\ xs[xs.length - 1]? = some y /\ Q y (upd H l (.lst xs.dropLast))
theorem Ro:MtM X "list.pop" UB:=by
  intro pins s σ H x vs v us Q I rx rv h
  obtain ⟨l,xs,y,rfl,rfl,hH,hy,q⟩:=h
  cases rx
  have hus:=rv.zero
  subst hus
  obtain ⟨z,its,n,r,hl,e⟩:=I.lstM hH
  obtain ⟨u,hu,ru⟩:=r.get hy
  have hy':its.toArray[its.toArray.size - 1]? = some u:=by
    show its.toArray[its.length - 1]? = some u
    rw [← Array.getElem?_toList,← hl]
    exact hu
  refine call_meets F.slot_list_pop ⟨_,e,rfl⟩ F.entry_list_pop (F.args_list_pop_1 _) (MeetsSeq.list_pop_last l its.toArray n u hy' (by rw [List.size_toArray]; omega)) ⟨e,?_⟩
  refine ⟨y,_,I.lset (its':=its.dropLast) hH e ?_ r.dropLast ?_,ru,q⟩
  . show its.toArray.eraseIdxIfInBounds (its.toArray.size - 1)=its.dropLast.toArray
    rw [List.size_toArray,List.eraseIdxIfInBounds_toArray,Ju]
  . rw [List.length_dropLast]
    omega
def UD:R2:=fun x y H Q=>∃ l b xs zs,x=.ref l /\ y=.ref b /\ H l=some (.lst xs) /\ H b=some (.lst zs) /\ xs.length + zs.length <= sizeLine /\ ∀ p,H p=none->Q (.ref p) (upd H p (.lst (xs ++ zs)))
theorem Rj:OpR X (binaryOp .Add) UD:=by
  intro pins s σ H x y v u Q I rx ry h
  obtain ⟨l,b,xs,zs,rfl,rfl,hH,hB,hz,q⟩:=h
  cases rx
  cases ry
  obtain ⟨z,its,n,r,hl,e⟩:=I.lstM hH
  obtain ⟨z2,its2,n2,r2,hl2,e2⟩:=I.lstM hB
  refine PySem.P.add_list e e2 ?_ (by rw [List.size_toArray,List.size_toArray]; omega)
  have ea:its.toArray ++ its2.toArray=(its ++ its2).toArray:=by simp
  rw [ea]
  exact ⟨.ref _,_,I.lnew (t':=s.toks) (r.append r2) (by rw [List.length_append]; omega),rfl,q _ I.fresh⟩
def UA:R2:=fun x y H Q=>∃ l k xs,x=.ref l /\ y=.int k /\ H l=some (.lst xs) /\ -(2 ^ 63) <= k /\ k < 2 ^ 63 /\ xs.length * k.toNat <= sizeLine /\
  ∀ p,H p=none->Q (.ref p) (upd H p (.lst (List.replicate k.toNat xs).flatten))
theorem Ki {α:Type} (xs:List α) (k:Nat):(List.replicate k xs).flatten.length=k * xs.length:=by
  induction k with
  | zero=>simp
  | succ k ih=>rw [List.replicate_succ,List.flatten_cons,List.length_append,ih,Nat.succ_mul,Nat.add_comm]
theorem Rc:OpR X (binaryOp .Mult) UA:=by
  intro pins s σ H x y v u Q I rx ry h
  obtain ⟨l,k,xs,rfl,rfl,hH,h1,h2,hz,q⟩:=h
  cases rx
  obtain ⟨t,rfl⟩:=ry
  obtain ⟨z,its,n,r,hl,e⟩:=I.lstM hH
  have hlen:its.toArray.size * k.toNat <= sizeLine:=by rw [List.size_toArray,← hl]; exact hz
  have hcap : ¬ its.toArray.size * k.toNat > (2 ^ 63 - 1) / 8:=by
    have:(sizeLine:Nat) <= (2 ^ 63 - 1) / 8:=by decide
    omega
  have hfit : ¬ (!Builtin.List.listFitsIndex k)=true:=by
    rw [fitsIndex_both h1 h2]
    exact Bool.false_ne_true
  have hlong : ¬ Builtin.List.listTooLong (its.toArray.size * k.toNat)=true:=by
    rw [IZ hlen]
    exact Bool.false_ne_true
  have hnew:List.foldl (fun x1 x2=>x1 ++ x2) #[] (List.replicate (if its.toArray.isEmpty=true then 0 else k.toNat) its.toArray)=(List.replicate k.toNat its).flatten.toArray:=by
    have f0:∀ m:Nat,List.foldl (fun x1 x2=>x1 ++ x2) #[] (List.replicate m its.toArray)=(List.replicate m its).flatten.toArray:=fun m=>by
      have:=Gv its m []
      rw [List.nil_append] at this
      exact this
    rw [f0]
    cases its with
    | nil=>simp
    | cons a r'=>rw [if_neg (by simp)]
  refine wpAny_binaryOp_repeat_ref (T := "list") (U := "int") (by decide) ⟨_,e,rfl⟩ (fun s'=>typeIs_int s' k t) noFill_list_mul F.fills_int_mul F.slot_int_rmul repeat_list F.slot_int_index.lookup
    (call_meets F.slot_int_rmul (typeIs_int s k t) F.entry_int_rmul (F.args_int_rmul_2 _ _) (int___rmul___int_list k t l its.toArray n)
      ⟨e,rfl,⟨_,e,rfl⟩,call_meets F.slot_list_mul ⟨_,e,rfl⟩ F.entry_list_mul (F.args_list_mul_2 _ _) (AutoListH.list___mul___list_int_3 l its.toArray n k t hfit hcap hlong) ⟨e,?_⟩⟩)
  rw [hnew]
  exact ⟨.ref _,_,I.lnew (t':=s.toks) (r.rep k.toNat) (by rw [Ki,Nat.mul_comm]; exact hz),rfl,q _ I.fresh⟩
end
section
variable {prog:Program} {w:World} {A:Around} {E:Value->Shared->Prop} {s:Shared}
end
section
variable {X:Cx}
end
end L2
namespace L2
open PySem PySem.Spec PyProof.Rows
section
variable {κ:Type} [DecidableEq κ]
def JU (kvs:List (κ × V)) (k:κ):Option V:=(kvs.find? fun kv=>decide (kv.1=k)).map (·.2)
def EH (kvs:List (κ × V)) (k:κ) (v:V):List (κ × V):=
  if (kvs.any fun kv=>decide (kv.1=k))=true then kvs.map (fun kv=>if kv.1=k then (kv.1,v) else kv) else kvs ++ [(k,v)]
theorem IB {p:κ × V} {r:List (κ × V)} {k:κ} (e:p.1=k):JU (p :: r) k=some p.2:=by simp [JU,List.find?_cons,e]
theorem IC {p:κ × V} {r:List (κ × V)} {k:κ} (e : ¬ p.1=k):JU (p :: r) k=JU r k:=by simp [JU,List.find?_cons,e]
theorem ID (k:κ):∀ kvs:List (κ × V),(kvs.any fun kv=>decide (kv.1=k))=(JU kvs k).isSome
  | []=>rfl
  | p :: r=>by
    rw [List.any_cons]
    by_cases e:p.1=k
    . simp only [IB e,decide_eq_true e,Bool.true_or,Option.isSome_some]
    . rw [IC e,decide_eq_false e,Bool.false_or]; exact ID k r
theorem E6 (kvs:List (κ × V)) (k:κ) (v:V):(EH kvs k v).length <= kvs.length + 1:=by
  unfold EH
  split
  . rw [List.length_map]; omega
  . rw [List.length_append,List.length_cons,List.length_nil]; omega
theorem RelO.isSome_eq {o:Option V} {u:Option Value} (r:RelO o u):o.isSome=u.isSome:=by
  cases o with
  | none=>cases u with
    | none=>rfl
    | some _=>exact (show False from r).elim
  | some _=>cases u with
    | none=>exact (show False from r).elim
    | some _=>rfl
theorem KV.any {kvs:List (κ × V)} {vs:List (κ × Value)} (r:KV kvs vs) (k:κ):(kvs.any fun kv=>decide (kv.1=k))=vs.any fun kv=>decide (kv.1=k):=by
  unfold KV at r
  induction r with
  | nil=>rfl
  | cons h t ih=>rw [List.any_cons,List.any_cons,ih,h.1]
theorem KV.repl {kvs:List (κ × V)} {vs:List (κ × Value)} (r:KV kvs vs) (k:κ) {y:V} {u:Value} (ry:RelV y u) :
    KV (kvs.map fun kv=>if kv.1=k then (kv.1,y) else kv) (vs.map fun kv=>if kv.1=k then (kv.1,u) else kv):=by
  unfold KV at r ⊢
  induction r with
  | nil=>exact .nil
  | @cons p q ps qs h t ih=>
    rw [List.map_cons,List.map_cons]
    refine .cons ?_ ih
    obtain ⟨h1,h2⟩:=h
    by_cases e:p.1=k
    . rw [if_pos e,if_pos (h1.symm.trans e)]; exact ⟨h1,ry⟩
    . rw [if_neg e,if_neg (fun z=>e (h1.trans z))]; exact ⟨h1,h2⟩
theorem KV.put {kvs:List (κ × V)} {vs:List (κ × Value)} (r:KV kvs vs) (k:κ) {y:V} {u:Value} (ry:RelV y u):KV (EH kvs k y) (stored vs k u):=by
  unfold EH stored
  rw [r.any k]
  by_cases e:(vs.any fun kv=>decide (kv.1=k))=true
  . rw [if_pos e,if_pos e]; exact r.repl k ry
  . rw [if_neg e,if_neg e]; exact Paired.snoc r ⟨rfl,ry⟩
theorem KV.length {kvs:List (κ × V)} {vs:List (κ × Value)} (r:KV kvs vs):kvs.length=vs.length:=Paired.length r
end
theorem QH {P:Program} {w:World} {k:Key} {u:Value} (r:RelV (kV k) u):(BY P w).is k u=true:=by
  cases k with
  | inl i=>obtain ⟨t,e⟩:=(show ∃ t,u=Value.int i t from r); subst e; exact Ic P w i t
  | inr x=>obtain ⟨t,e⟩:=(show ∃ t,u=Value.str x t from r); subst e; exact Ib P w x t
theorem Gr {P:Program} {w:World}:∀ {ks:List Key} {us:List Value},Vals (ks.map kV) us->ItemsAre (BY P w) ks us
  | [],_,r=>by rw [List.map_nil] at r; cases r; exact .nil
  | k :: ks,_,r=>by
    rw [List.map_cons] at r
    cases r with
    | cons h t=>exact .cons (QH h) (Gr t)
abbrev KT (H:Hp):List (List Key × V)->List (List Key × Addr × Value)->Prop:=Paired fun p q=>p.1=q.1 /\ H q.2.1=some (.tup (p.1.map kV)) /\ RelV p.2 q.2.2
theorem KT.val {H:Hp} {kvs:List (List Key × V)} {xs:List (List Key × Addr × Value)} (r:KT H kvs xs) (k:List Key):RelO (JU kvs k) ((atKey xs k).map (·.2)):=by
  induction r with
  | nil=>exact True.intro
  | @cons p q ps qs h t ih=>
    obtain ⟨h1,_,h2⟩:=h
    by_cases e:p.1=k
    . have e':q.1=k:=h1.symm.trans e
      have b:atKey (q :: qs) k=some q.2:=by simp [atKey,List.find?_cons,e']
      rw [IB e,b]; exact h2
    . have e' : ¬ q.1=k:=fun z=>e (h1.trans z)
      have b:atKey (q :: qs) k=atKey qs k:=by simp [atKey,List.find?_cons,e']
      rw [IC e,b]; exact ih
theorem KT.repl {H:Hp} {kvs:List (List Key × V)} {xs:List (List Key × Addr × Value)} (r:KT H kvs xs) (k:List Key) {y:V} {u:Value} (ry:RelV y u) :
    KT H (kvs.map fun kv=>if kv.1=k then (kv.1,y) else kv) (xs.map (putAt k u)):=by
  induction r with
  | nil=>exact .nil
  | @cons p q ps qs h t ih=>
    rw [List.map_cons,List.map_cons]
    refine .cons ?_ ih
    obtain ⟨h1,h2,h3⟩:=h
    unfold putAt
    by_cases e:p.1=k
    . rw [if_pos e,if_pos (h1.symm.trans e)]; exact ⟨h1,h2,ry⟩
    . rw [if_neg e,if_neg (fun z=>e (h1.trans z))]; exact ⟨h1,h2,h3⟩
theorem KT.put {H:Hp} {kvs:List (List Key × V)} {xs:List (List Key × Addr × Value)} (r:KT H kvs xs) (k:List Key) {b:Addr} {y:V} {u:Value} (hb:H b=some (.tup (k.map kV))) (ry:RelV y u) :
    KT H (EH kvs k y) (storedH xs k b u):=by
  have e:(kvs.any fun kv=>decide (kv.1=k))=(atKey xs k).isSome:=by
    rw [ID,(r.val k).isSome_eq,Option.isSome_map]
  unfold EH storedH
  rw [e]
  by_cases q:(atKey xs k).isSome=true
  . rw [if_pos q,if_pos q]; exact r.repl k ry
  . rw [if_neg q,if_neg q]; exact Paired.snoc r ⟨rfl,hb,ry⟩
theorem KT.keeps {H H':Hp} {kvs:List (List Key × V)} {xs:List (List Key × Addr × Value)} (r:KT H kvs xs) (ht:∀ b ys,H b=some (.tup ys)->H' b=some (.tup ys)):KT H' kvs xs:=
  Paired.mapP r fun _ _ z=>⟨z.1,ht _ _ z.2.1,z.2.2⟩
section
variable {P:Program} {w:World} {H:Hp} {h:Heap} {a:Addr}
theorem P3 {u:HO} (ok:HOk P w H h) (e:Rd H a u):ObjOk P w H h a u:=e.ok ok
theorem Tj {kvs:List (Key × V)} (ok:HOk P w H h) (e:Rd H a (.dK kvs)):kvs.length <= sizeLine /\ (a == sysModules)=false /\ ∃ vs,KV kvs vs /\ h.DictOf (BY P w) a vs:=
  show ObjOk P w H h a (.dK kvs) from P3 ok e
theorem Tk {kvs:List (Key × V)} (ok:HOk P w H h) (e:H a=some (.dK kvs)):kvs.length <= sizeLine /\ (a == sysModules)=false /\ ∃ vs,KV kvs vs /\ h.DictOf (BY P w) a vs:=Tj ok (.inl e)
theorem NM {ks:List Key} (ok:HOk P w H h) (e:H a=some (.tup (ks.map kV))):(tupleKind (BY P w)).is h ks a:=by
  obtain ⟨_,its,r,o,h1,h2,n,h3⟩:=(show ObjOk P w H h a (.tup (ks.map kV)) from ok a _ e)
  exact ⟨o,its.toArray,n,h1,h2,h3,by simpa using Gr r⟩
theorem Th {kvs:List (List Key × V)} (ok:HOk P w H h) (e:Rd H a (.dT kvs)):kvs.length <= sizeLine /\ (a == sysModules)=false /\
    ∃ xs,KT H kvs xs /\ h.DictOfH (tupleKind (BY P w)) a xs:=by
  obtain ⟨z,y,xs,r,o,es,ep,h1,h2,h3,h4,h5⟩:=(show ObjOk P w H h a (.dT kvs) from P3 ok e)
  refine ⟨z,y,xs,r,o,es,ep,h1,h2,h3,h4,fun x hx=>?_,h5⟩
  have all:∀ {l:List (List Key × V)} {m:List (List Key × Addr × Value)},KT H l m->∀ x ∈ m,(tupleKind (BY P w)).is h x.1 x.2.1:=by
    intro l m q
    induction q with
    | nil=>intro x hx; exact nomatch hx
    | @cons p q ps qs hq t ih=>
      intro x hx
      rcases List.mem_cons.mp hx with e | hx
      . subst e
        exact NM ok (by rw [← hq.1]; exact hq.2.1)
      . exact ih x hx
  exact all r x hx
theorem Ti {kvs:List (List Key × V)} (ok:HOk P w H h) (e:H a=some (.dT kvs)):kvs.length <= sizeLine /\ (a == sysModules)=false /\
    ∃ xs,KT H kvs xs /\ h.DictOfH (tupleKind (BY P w)) a xs:=Th ok (.inl e)
end
def DPut (H:Hp) (a:Addr) (y v:V) (H':Hp):Prop:=
  (∃ kvs k,H a=some (.dK kvs) /\ y=kV k /\ kvs.length < sizeLine /\ H'=upd H a (.dK (EH kvs k v))) ∨
  ∃ kvs k b,H a=some (.dT kvs) /\ y=.ref b /\ H b=some (.tup (k.map kV)) /\ kvs.length < sizeLine /\ H'=upd H a (.dT (EH kvs k v))
theorem DPut.k {H:Hp} {a:Addr} {kvs:List (Key × V)} {k:Key} {v:V} (e:H a=some (.dK kvs)) (hl:kvs.length < sizeLine):DPut H a (kV k) v (upd H a (.dK (EH kvs k v))):=.inl ⟨kvs,k,e,rfl,hl,rfl⟩
section
variable {X:Cx} {pins:List (Addr × Obj)} {σ:St} {H:Hp} {s:Shared} {a:Addr} {y v:V} {u r:Value} {o:Option V} {A:Around} {E:Value->Shared->Prop}
theorem Inv.big (I:Inv X pins σ H s):sysModules < s.heap.objs.size:=by
  have h:mainGlobals < s.heap.objs.size:=(I.mod.glob.keeps I.bk).lt
  exact Nat.lt_trans (by decide) h
theorem Kt {h':Heap} {t':Nat} {ob:HO} (I:Inv X pins σ H s) (mu:Mut (H a)) (hs:Heap.SameBut a s.heap h') (he:∃ q,h'.get? a=some q) (new:ObjOk X.prog X.w (upd H a ob) h' a ob) :
    Inv X pins σ (upd H a ob) { s with heap:=h',toks:=t' }:=
  I.write (x:=a) (e:=a) mu (.inl rfl) (fun b q hb z=>(hs.2 b hb).trans z) he new
theorem SC {P:Program} {w:World} {H':Hp} {h':Heap} {kvs:List (Key × V)} {vs:List (Key × Value)} (z:kvs.length <= sizeLine) (hd:(a == sysModules)=false) (rel:KV kvs vs) (dd:h'.DictOf (BY P w) a vs) :
    ObjOk P w H' h' a (.dK kvs):=⟨z,hd,vs,rel,dd⟩
theorem Ll {H':Hp} {Q:Unit->Shared->Prop} (hu:A.units + 1 < cLine) (I:Inv X pins σ H s) (g:DPut H a y v H') (ry:RelV y u) (rv:RelV v r) (h:∀ s',Inv X pins σ H' s'->Q () s') :
    wpAny (model X.prog X.w) A (setItem (.ref a) u r) Q E s:=by
  rcases g with ⟨kvs,k,e,ey,l,eH⟩ | ⟨kvs,k,b,e,ey,eb,l,eH⟩
  . subst ey eH
    obtain ⟨z,hd,vs,rel,dd⟩:=Tk I.hok e
    have hz:vs.length <= sizeLine:=by rw [← rel.length]; exact z
    have hl:(EH kvs k v).length <= sizeLine:=by have:=E6 kvs k v; omega
    refine wpAny_setItem_pairs (hsz:=hz) (QH ry) dd fun h' dd' hs=>h _ ?_
    have he:∃ q,h'.get? a=some q:=let ⟨q,_,_,hq,_⟩:=dd'; ⟨q,hq⟩
    exact Kt I (by rw [e]; exact True.intro) hs he (SC hl hd (rel.put k rv) dd')
  . subst ey eH
    cases (show u=Value.ref b from ry)
    obtain ⟨z,hd,xs,rel,dd⟩:=Ti I.hok e
    have hz:xs.length <= sizeLine:=by rw [← Paired.length rel]; exact z
    have hl:(EH kvs k v).length <= sizeLine:=by have:=E6 kvs k v; omega
    refine wpAny_setItem_heap (hsz:=hz) (tupleKind_room_in1 hu) (NM I.hok eb) dd fun h' dd' hs=>h _ ?_
    obtain ⟨q,es,ep,hq,h2,h3,h4,_,h5⟩:=dd'
    refine Kt I (by rw [e]; exact True.intro) hs ⟨q,hq⟩ ⟨hl,hd,_,(rel.put k eb rv).keeps fun c ys ec=>?_,q,es,ep,hq,h2,h3,h4,h5⟩
    rw [Al (TW ec e (fun z=>nomatch z))]
    exact ec
end
section
variable {X:Cx} {pins:List (Addr × Obj)} {σ:St} {H:Hp} {s:Shared} {a:Addr} {kvs:List (Key × V)} {k:Key} {u:Value} {A:Around} {E:Value->Shared->Prop}
end
def SK (i:Expr):Prop:=∀ ov iv,subscripted i false ov iv=operate [ov,iv] (getItem ov iv)
theorem OQ {prog:Program} {w:World} {A:Around} {E:Value->Shared->Prop} {s:Shared} {env:Env} {value slice:Expr} {pos:Pos} {T id:String} {Q:Value->Shared->Prop}
    (hl:typeLookup (.type T) "__getitem__" = pure (some (.builtin id))) (hs:SK slice)
    (h:wpAny (model prog w) A (eval value env) (fun o s₁=>wpAny (model prog w) A (eval slice env) (fun i s₂=>s₂.TypeIs o T /\ wpAny (model prog w) A (getItem o i) Q E s₂) E s₁) E s) :
    wpAny (model prog w) A (eval (.Subscript value slice pos) env) Q E s:=by
  refine Subscript_ (wpAny_mono h (fun o s₁ h₁=>wpAny_mono h₁ (fun i s₂ h₂=>?_) fun _ _ x=>x) fun _ _ x=>x)
  obtain ⟨hT,h₂⟩:=h₂
  unfold subscriptTail
  refine wpAny_bind ?_
  rw [getitemInPython_of_ne hT.not_modules]
  refine wpAny_bind (wpAny_specialOf hT hl ?_)
  have fin:wpAny (model prog w) A (subscripted slice false o i) (fun r s₃=>wpAny (model prog w) A (letTemporaryGo value o r >>= fun _=>pure r) Q E s₃) E s₂:=by
    rw [hs o i]
    exact wpAny_operating (wpAny_mono h₂ (fun r s₃ h₃=>wpAny_bind (wpAny_letTemporaryGo (wpAny_pure h₃))) fun _ _ x=>x)
  first
    | exact wpAny_pure (wpAny_bind fin)
    | exact wpAny_bind (wpAny_pure (wpAny_bind fin))
    | exact wpAny_bind fin
def Sj (td ty tv:TE):TS:=fun D σ H=>tv σ H fun v H1=>td σ H1 fun x H2=>ty σ H2 fun y H3=>∃ a H4,x=.ref a /\ DPut H3 a y v H4 /\ D.nx σ H4
section
variable {X:Cx} {o i e value:Expr} {pos pos' tpos:Pos} {td ty tv:TE}
theorem O3 (hu:X.A.units + 1 < cLine) (ho:PE X o td) (hi:PE X i ty) (hv:PE X value tv) (hs:swapsWith value (some (.Subscript o i pos')) pos.line X.env=pure false) :
    PS X (.Assign [.Subscript o i pos'] value pos) (Sj td ty tv):=by
  intro pins s σ H D I h
  refine wpAny_Assign_Subscript (thn (hv pins s σ H _ I h) fun r s1 ⟨v,H1,I1,rv,q1⟩=>thn (ho pins s1 σ H1 _ I1 q1) fun u s2 ⟨x,H2,I2,rx,q2⟩=>thn (hi pins s2 σ H2 _ I2 q2) fun iv s3 ⟨y,H3,I3,ry,a,H4,ex,g,q3⟩=>?_) hs
  subst ex
  obtain rfl:u=Value.ref a:=rx
  exact Ll hu I3 g ry rv fun s4 I4=>⟨σ,H4,I4,q3⟩
end
theorem Ng {P:Program} {w:World} {H:Hp} (h:Heap) (hb:sysModules < h.objs.size):ObjOk P w H (h.push { cls:=.type "dict",data:=.dict #[] }) h.objs.size (.dK []):=
  ⟨Nat.zero_le _,beq_eq_false_iff_ne.mpr (Ne.symm (Nat.ne_of_lt hb)),[],.nil,Heap.DictOf.new h⟩
def Qs:TE:=fun _ H Q=>∀ p,H p=none->Q (.ref p) (upd H p (.dK []))
section
variable {X:Cx} {pos:Pos}
theorem M2:PE X (.Dict [] [] pos) Qs:=fun pins s σ H Q I h=>
  wpAny_Dict_empty ⟨.ref s.heap.objs.size,_,I.laid (a:=s.heap.objs.size) (o:=.dK []) (t':=s.toks) (fun _ _ q=>Heap.get?_push_of_some _ q) (Nat.le_refl _) (Ng s.heap I.big),rfl,h _ (I.hok.fresh (Nat.le_refl _))⟩
end
section
variable {X:Cx} {pins:List (Addr × Obj)} {σ:St} {H:Hp} {s:Shared} {a:Addr} {y d:V} {u r:Value} {o:Option V} {A:Around} {E:Value->Shared->Prop}
end
section
variable {X:Cx} {o e f:Expr} {apos cpos:Pos} {td ty tx:TE}
end
section
variable {X:Cx} {pins:List (Addr × Obj)} {σ:St} {H:Hp} {s:Shared} {a:Addr} {kvs:List (Key × V)} {A:Around} {E:Value->Shared->Prop}
end
section
variable {X:Cx} {pins:List (Addr × Obj)} {σ:St} {H:Hp} {s:Shared} {a:Addr} {y:V} {u:Value} {A:Around} {E:Value->Shared->Prop}
end
end L2
namespace Att
open PySem PySem.W PySem.Calls PyProof.Rows
theorem FD {P:Params} {h:Heap}:∀ (ns:List Int) (vs:List Value),WellAll P h vs (ns.map WData.int)->IntsAre vs ns:=by
  intro ns
  induction ns with
  | nil=>
    intro vs w
    rw [List.map_nil] at w
    cases w
    exact .nil
  | cons n ns ih=>
    intro vs w
    rw [List.map_cons] at w
    cases w with
    | cons a b=>
      cases a
      exact .cons _ _ (ih _ b)
theorem LH {l:OpenLaw} {n:Nat} (hn:l.most=some n) {P:Params} {h:Heap} {args:List WData} {vals:List Value}
    (hpre:l.row.toRowW.claim.pre args=true) (hwl:WellAll P h vals args) :
    ∃ a vs ns,vals=[Value.ref a] /\ args=[WData.list (ns.map WData.int)] /\ h.get? a=some { cls:=.type "list",data:=.seq vs.toArray } /\ IntsAre vs ns /\ ns.length <= n:=by
  have hsh:WShape.hasAll [] args [.list .int]=true:=(pre_splitW hpre).1
  have hc:l.pre.holds [] { args:=args }=true:=(pre_splitW hpre).2
  obtain ⟨d,r,rfl,h1,h2⟩:=hasAllW_cons hsh
  obtain rfl:=hasAllW_nil h2
  obtain ⟨xs,rfl,h3⟩:=hasW_list h1
  obtain ⟨ns,rfl⟩:=items_int h3
  have hlen:ns.length <= n:=by
    unfold OpenLaw.pre at hc
    have h4:(WTm.not (.lt (.lit (.int (n:Int))) (.len (.arg 0)))).holds [] { args:=[.list (ns.map .int)] }=true:=by
      have h4:=(holds_andW hc).1
      rw [hn] at h4
      exact h4
    have h5:=condW_of h4 (w_not (w_lt w_lit (w_len_list (w_arg rfl))))
    rw [List.length_map] at h5
    refine Nat.le_of_not_lt fun q=>?_
    have q':(n:Int) < ((ns.length:Nat):Int):=by omega
    first
      | (rw [decide_eq_true q'] at h5; exact absurd h5 (by decide))
      | (simp at h5; omega)
  cases hwl with
  | cons w1 w2=>
    cases w2
    cases w1 with
    | list ho hall=>exact ⟨_,_,ns,rfl,rfl,ho,FD ns _ hall,hlen⟩
theorem LR (l:OpenLaw) (args:List WData):l.row.toRowW.claim.post args (.bool true) args=true:=
  postW_of (r:=l.row.toRowW) (X:=(true == true))
    (show WShape.has [] (.bool true) .bool=true by first | rfl | decide | simp [WShape.has,WShape.arms,WShape.armsAll])
    (show (WTm.eq .res (.lit (.bool true))).value [] { args:=args,res:=some (.bool true),after:=args }=some (.bool (true == true)) from w_eq_bool (w_res rfl) w_lit) rfl
theorem JM {l:OpenLaw} {n:Nat} {q:Program} {loose:List Str} {XP:(Str->Option Value)->Heap->Prop} {YP:World->Heap->Prop} {d:DefRec}
    (hn:l.most=some n) (hdf:d.params.defaults=[])
    (call:∀ (w:World) (s₀ s₁:Shared) (mg mb:Str->Option Value) (fa:Addr) (o:Obj) (pm cd doc:Value) (a:Addr) (vs:List Value) (ns:List Int),
      Ground q loose [] XP w s₀ mg mb s₁.heap->YP w s₁.heap->
      s₁.heap.get? fa=some o->o.data=.func (docDef d.name d.params d.body d.scope pm cd doc)->s₁.heap.CodeRec cd d.name->mg d.name=some (.ref fa)->
      s₁.heap.get? a=some { cls:=.type "list",data:=.seq vs.toArray }->IntsAre vs ns->ns.length <= n->s₁.gens = #[]->
      codeAny (model l.prog w) callerA (.call (.ref fa) ⟨[.ref a],[]⟩) (fun r s'=>r=.ok (.ret (.bool true)) /\ OldK s₁.heap s'.heap /\ s'.os=s₁.os /\ AllBare s'.gens) s₁) :
    WalkO q loose XP YP l.row.toRowW d [] (fun f vs=>PySem.call f vs):=by
  intro w s₀ s₁ mg mb G Y fa o pm cd doc dV kV ho hd hcd hD hmg hg args vals as hpre hlay hrd hwl hlo
  obtain rfl:dV=.none:=Dflts.none hD hdf
  obtain rfl:kV=.none:=Dflts.noKw hD
  obtain ⟨a,vs,ns,rfl,rfl,hobj,hints,hlen⟩:=LH hn hpre hwl
  refine enter_call (codeAny_mono (call w s₀ s₁ mg mb fa o pm cd doc a vs ns G Y ho (fd_plain hd) hcd hmg hobj hints hlen hg) fun r s' hq=>?_)
  obtain ⟨rfl,h2,h3,h4⟩:=hq
  exact ⟨.inl ⟨.bool true,.bool true,[],rfl,fun _=>rfl,.bool true,LR l _,fun _=>⟨List.Pairwise.nil,fun _ hm=>(nomatch hm)⟩⟩,h2,h3,h4⟩
section
variable {prog:Program} {w:World} {A:Around} {E:Value->Shared->Prop} {s:Shared} {K:Frag}
end
end Att
namespace L2
open PySem PySem.Spec PyProof.Rows
theorem EZ:∀ {vs:List Value} {ns:List Int},IntsAre vs ns->Vals (ns.map V.int) vs
  | _,_,.nil=>.nil
  | _,_,.cons n t h=>.cons ⟨t,rfl⟩ (EZ h)
def Pr (H:Hp):Prop:=∀ b,H b=none ∨ ∃ o xs,H b=some (.frz o (.lst xs))
theorem NJ {P:Program} {w:World} {K:PySem.W.Frag} {mg mb:Str->Option Value} {CX:CXT} {k:Nat} {fa a:Addr} {fd:FuncData} {x:Str} {sp:Sp} {s₁:Shared} {vs:List Value} {ns:List Int}
    (KX:K.In s₁.heap) (hns:s₁.heap.Ns mainGlobals mg) (hb:s₁.heap.Ns builtinsNs mb) (hbb:∀ x:Str,x ≠ "__name__" -> mb x=bootBuiltins x) (hlim:s₁.heap.NoLimit) (hg:s₁.gens = #[])
    (ha:s₁.heap.get? a=some { cls:=.type "list",data:=.seq vs.toArray }) (hi:IntsAre vs ns) (hl:ns.length <= sizeLine) (hr:Room k callerA)
    (F:∀ base:Heap,K.In base->base.Ns mainGlobals mg->FnOk P w K mg base CX k fa fd [x] sp) (hbind:∀ (s:Shared) (u:Value),BindsTo s fd ⟨[u],[]⟩ [(x,u)])
    (hsp:∀ H:Hp,Pr H->SqL K H a (ns.map V.int)->sp [.ref a] H (fun v _=>v=.bl true) fun _ _ _=>False)
    (hCX:∀ H e s',CX [] H s₁ (fun _ _ _=>False) e s'->False) :
    codeAny (model P w) callerA (.call (.ref fa) ⟨[.ref a],[]⟩) (fun r s'=>r=.ok (.ret (.bool true)) /\ OldK s₁.heap s'.heap /\ s'.os=s₁.os /\ AllBare s'.gens) s₁:=by
  have rv:=EZ hi
  have lenV:=hi.length
  have core:∀ H:Hp,Pr H->SqL K H a (ns.map V.int)->HOk P w H s₁.heap->(∀ b,H b ≠ none->b=a)->(H a ≠ none->K.lookup a=none)->
      codeAny (model P w) callerA (.call (.ref fa) ⟨[.ref a],[]⟩) (fun r s'=>r=.ok (.ret (.bool true)) /\ OldK s₁.heap s'.heap /\ s'.os=s₁.os /\ AllBare s'.gens) s₁:=by
    intro H hO hS hok hA hK
    have base_of:∀ {b:Addr} {o:Obj},s₁.heap.get? b=some o->H b=none->(He s₁.heap H).get? b=some o:=fun e n=>NX e n
    have noA:∀ {b:Addr} {o:Obj} {es:Array DictEntry} {ep:Nat},s₁.heap.get? b=some o->o.data=.dict es ep->H b=none:=fun {b o es ep} e d=>by
      cases q:H b with
      | none=>rfl
      | some u=>
        have e':b=a:=hA b (by rw [q]; simp)
        subst e'
        rw [ha] at e; cases e
        have d':Data.seq vs.toArray _=Data.dict es ep:=d
        cases d'
    have nsK:∀ {b:Addr} {m:Str->Option Value},s₁.heap.Ns b m->(He s₁.heap H).Ns b m:=fun {b m} ⟨o,es,ep,e,d,r⟩=>⟨o,es,ep,base_of e (noA e d),d,r⟩
    have hKb:K.In (He s₁.heap H):=fun b o e=>base_of (KX b o e) (by
      cases q:H b with
      | none=>rfl
      | some u=>
        have e':b=a:=hA b (by rw [q]; simp)
        subst e'
        rw [hK (by rw [q]; simp)] at e; cases e)
    have hM:Mod K mg (He s₁.heap H):=⟨hKb,nsK hns,⟨mb,nsK hb,hbb⟩,let ⟨mc,h1,h2⟩:=hlim; ⟨mc,nsK h1,h2⟩⟩
    have e0:Env0 P w K mg (He s₁.heap H) callerA [] s₁ H:=⟨rfl,hM,fun b o e=>PM e,Nat.le_of_eq (Li _ _),trivial,fun b hb=>absurd (show b ∈ ([]:List Addr) from hb) (by simp),hok,.of_eq hg⟩
    refine codeAny_mono ((F _ hKb (nsK hns)).run callerA [] s₁ H ⟨[.ref a],[]⟩ [.ref a] [.ref a] _ _ hr e0 (hbind s₁ (.ref a)) (.cons rfl .nil) (hsp H hO hS)) fun r s' h=>?_
    cases r with
    | error e=>exact (hCX H e s' h).elim
    | ok fl=>
      cases fl with
      | next=>exact False.elim h
      | brk=>exact False.elim h
      | cont=>exact False.elim h
      | ret u=>
        obtain ⟨v,H',os,bare,un,hok',r',q⟩:=h
        have q':v=.bl true:=q
        subst q'
        obtain rfl:u=Value.bool true:=r'
        refine ⟨rfl,OldK.of_keep fun b o e=>?_,os,bare⟩
        cases q:H b with
        | none=>exact un.keep b o e q (by intro z; exact absurd (show b ∈ ([]:List Addr) from z) (by simp)) (by simp)
        | some u=>
          rcases hO b with z | ⟨ob,xs,z⟩
          . rw [q] at z; cases z
          . have z2:=un.frzs b ob _ z
            obtain ⟨e1,_⟩:=hok b _ z
            obtain ⟨e2,_⟩:=hok' b _ z2
            rw [e] at e1; cases e1
            exact e2
  cases hk:K.lookup a with
  | some o=>
    have e:=KX a o hk
    rw [ha] at e
    cases e
    refine core (fun _=>none) (fun _=>.inl rfl) (.inr ⟨_,vs.toArray,_,hk,rfl,rfl,rfl,by rw [List.size_toArray,lenV]; exact hl,by simpa using rv⟩) (fun b u z=>by have z':(none:Option HO)=some u:=z; cases z') (fun b z=>absurd rfl z) fun z=>absurd rfl z
  | none=>
    refine core (fun b=>if b=a then some (.frz { cls:=.type "list",data:=.seq vs.toArray } (.lst (ns.map V.int))) else none) (fun b=>?_) (.inl (.inr ⟨{ cls:=.type "list",data:=.seq vs.toArray },if_pos rfl⟩)) (fun b u z=>?_) (fun b z=>?_) fun _=>hk
    . by_cases hb:b=a
      . exact .inr ⟨_,_,if_pos hb⟩
      . exact .inl (if_neg hb)
    . by_cases hb:b=a
      . have z':=(if_pos hb).symm.trans z
        cases z'
        subst hb
        exact ⟨ha,by rw [List.length_map]; exact hl,vs,_,rv,ha⟩
      . have z':=(if_neg hb).symm.trans z
        cases z'
    . by_cases hb:b=a
      . exact hb
      . exact absurd (if_neg hb) z
end L2
namespace L2
open PySem PySem.Spec PyProof.Rows
theorem OL {l:PySem.W.OpenLaw} {n k:Nat} {q:Program} {loose:List Str} {XP:(Str->Option Value)->Heap->Prop} {YP:World->Heap->Prop} {d:DefRec} {K:Params->PySem.W.Frag} {CX:World->CXT} {sp:World->Sp} {x:Str}
    (hn:l.most=some n) (hn2:n <= sizeLine) (hdf:d.params.defaults=[]) (hr:Room k callerA)
    (hY:∀ (w:World) (h:Heap),YP w h->(K w.params).In h)
    (F:∀ (w:World) (mg:Str->Option Value) (fa:Addr) (h:Heap),(K w.params).In h->h.Ns mainGlobals mg->mg d.name=some (.ref fa)->
      ∃ fd:FuncData,(∀ (s:Shared) (u:Value),BindsTo s fd ⟨[u],[]⟩ [(x,u)]) /\
        ∀ base:Heap,(K w.params).In base->base.Ns mainGlobals mg->FnOk l.prog w (K w.params) mg base (CX w) k fa fd [x] (sp w))
    (hsp:∀ (w:World) (H:Hp) (a:Addr) (ns:List Int),ns.length <= n->Pr H->SqL (K w.params) H a (ns.map V.int)->sp w [.ref a] H (fun v _=>v=.bl true) fun _ _ _=>False)
    (hCX:∀ (w:World) (H:Hp) (s:Shared) (e:Value) (s':Shared),CX w [] H s (fun _ _ _=>False) e s'->False) :
    PySem.W.WalkO q loose XP YP l.row.toRowW d [] (fun f vs=>PySem.call f vs):=by
  refine Att.JM hn hdf fun w s₀ s₁ mg mb fa o pm cd doc a vs ns G Y ho hd hcd hmg hobj hints hlen hg=>?_
  have KX:=hY w _ Y
  obtain ⟨fd,hb,hF⟩:=F w mg fa _ KX G.T.g hmg
  exact NJ KX G.T.g G.T.b G.T.builtins G.T.nolimit hg hobj hints (Nat.le_trans hlen hn2) hr hF hb (fun H hO hS=>hsp w H a ns hlen hO hS) fun H e s'=>hCX w H s₁ e s'
end L2
namespace L2
open PySem PySem.Spec PyProof.Rows
def Do (s:Stmt):Arguments:=match s with
  | .FunctionDef _ a _ _ _ _ _ _ _ _=>a
  | _=>{ posonlyargs:=[],args:=[],vararg:=none,kwonlyargs:=[],kw_defaults:=[],kwarg:=none,defaults:=[] }
def AZ (s:Stmt):List Stmt:=match s with
  | .FunctionDef _ _ b _ _ _ _ _ _ _=>b
  | _=>[]
def AH (s:Stmt):Scope:=match s with
  | .FunctionDef _ _ _ _ _ _ sc _ _ _=>sc
  | _=>{ kind:=.function,names:=[],isGenerator:=false,isCoroutine:=false }
abbrev CX0:CXT:=fun _ _ _ _ _ _=>False
abbrev E0:XK:=fun _ _ _=>False
theorem P5 {X:Cx}:GS CX0 X E0:=fun _ _ _ _ _ _ _ h=>h.elim
structure Fun (K:PySem.W.Frag) (x qual:Str) (st:Stmt) (f:Addr) (fd:FuncData):Prop where
  ex:∃ (oc:Value) (od:Option Addr) (kV doc pm:Value) (an:Option Addr) (cdv ct:Value) (osl:Array (Option Value)),
    fd=PySem.W.fnOf x qual (Do st) (AZ st) (AH st) .none kV doc pm an cdv ct /\ K.lookup f=some ⟨oc,od,.func fd,osl⟩ /\ PySem.W.codeIn K cdv qual=true
  kp:PySem.W.keepIn K (.ref f)=true
section
variable {P:Program} {w:World} {K:PySem.W.Frag} {mg:Str->Option Value} {base:Heap}
theorem Fun.ok {x qual:Str} {st:Stmt} {f:Addr} {fd:FuncData} {N ps:List Str} {k:Nat} {sp:Sp} (F:Fun K x qual st f fd) (S:Ai N ps (AH st)) (len:∀ vs H Q E,sp vs H Q E->vs.length=ps.length)
    (hbody:∀ (cdv:Value) (A:Around) (outer:List Env) (s:Shared) (H:Hp) (vs:List V) (Q:VK) (E:XK),Room k (A.deeper (envOfC qual (AH st) s.heap.objs.size f cdv))->sp vs H Q E->
      ∃ t,PSs (Bv CX0 P w K mg base N qual (AH st) f cdv A outer s H E).nox (AZ st) t /\ t { nx:=fun _ H'=>Q .non H',rt:=Q } (start N vs) H):FnOk P w K mg base CX0 (k + 1) f fd ps sp:=by
  obtain ⟨oc,od,kV,doc,pm,an,cdv,ct,osl,rfl,lk,hcd⟩:=F.ex
  refine Tg lk hcd S len fun A outer s H vs Q E hr hsp=>?_
  obtain ⟨t,h,q⟩:=hbody cdv A outer s H vs Q E hr hsp
  exact ⟨t,h.nox,q⟩
theorem Fun.binds {x qual:Str} {st:Stmt} {f:Addr} {fd:FuncData} {ps:List Str} (F:Fun K x qual st f fd)
    (h:∀ (kV doc pm:Value) (an:Option Addr) (cdv ct:Value) (us:List Value),us.length=ps.length->bindArgs (PySem.W.fnOf x qual (Do st) (AZ st) (AH st) .none kV doc pm an cdv ct) ⟨us,[]⟩=pure (ps.zip us)):Binds K fd ps []:=by
  obtain ⟨oc,od,kV,doc,pm,an,cdv,ct,osl,rfl,lk,hcd⟩:=F.ex
  exact .all (h kV doc pm an cdv ct)
theorem Na {x qual:Str} {st:Stmt} {f:Addr} {oc:Value} {od an:Option Addr} {osl:Array (Option Value)} {kV doc pm cdv ct:Value} (l:K.lookup f=some ⟨oc,od,.func (PySem.W.fnOf x qual (Do st) (AZ st) (AH st) .none kV doc pm an cdv ct),osl⟩)
    (c:PySem.W.codeIn K cdv qual=true) (k:PySem.W.keepIn K (.ref f)=true):Fun K x qual st f (PySem.W.fnOf x qual (Do st) (AZ st) (AH st) .none kV doc pm an cdv ct):=⟨⟨oc,od,kV,doc,pm,an,cdv,ct,osl,rfl,l,c⟩,k⟩
end
theorem Te {A:Around} {k:Nat} (hr:Room k A):A.units + 1 < cLine:=Nat.lt_of_le_of_lt (Nat.add_le_add_left (by decide:1 <= 64) _) hr.units
theorem LE {n:Nat} (h:n <= 1000):n < sizeLine:=Nat.lt_of_le_of_lt h (by decide)
section
variable {X:Cx}
end
section
variable {κ:Type} [DecidableEq κ]
end
end L2
namespace L2
open PySem PySem.Spec PyProof.Rows
def Cq (env:Env):List (Str × NameKind)->List (Str × Addr)->List (Str × Addr)
  | [],cs=>cs
  | (n,k) :: r,cs=>Cq env r (if k == .free then (match env.cells.lookup n with | some c=>(n,c) :: cs | none=>cs) else cs)
theorem CP {env:Env}:∀ (l:List (Str × NameKind)) (cs:List (Str × Addr)),(∀ x ∈ l,x.2=.free->∃ c,env.cells.lookup x.1=some c)->
    (forIn l cs fun (x:Str × NameKind) (r:List (Str × Addr))=>(if (x.2 == NameKind.free)=true then (do let a ← cellOf env x.1; pure (ForInStep.yield ((x.1,a) :: r))) else pure (ForInStep.yield r):Sem (ForInStep (List (Str × Addr)))))=pure (Cq env l cs)
  | [],cs,_=>by rw [List.forIn_nil]; rfl
  | (n,k) :: r,cs,h=>by
    have hr:∀ x ∈ r,x.2=.free->∃ c,env.cells.lookup x.1=some c:=fun x hx=>h x (List.mem_cons_of_mem _ hx)
    rw [List.forIn_cons]
    by_cases hk:k=.free
    . subst hk
      obtain ⟨c,hc⟩:=h (n,.free) List.mem_cons_self rfl
      have e:cellOf env n=pure c:=by unfold cellOf; rw [hc]
      dsimp only
      rw [if_pos (by decide),e,pure_bind,pure_bind]
      dsimp only
      rw [CP r _ hr]
      show _=pure (Cq env r (if (NameKind.free == NameKind.free)=true then (match env.cells.lookup n with | some c=>(n,c) :: cs | none=>cs) else cs))
      rw [if_pos (by decide),hc]
    . have hb : ¬ (k == NameKind.free)=true:=by simpa using hk
      dsimp only
      rw [if_neg hb,pure_bind]
      dsimp only
      rw [CP r _ hr]
      show _=pure (Cq env r (if (k == NameKind.free)=true then (match env.cells.lookup n with | some c=>(n,c) :: cs | none=>cs) else cs))
      rw [if_neg hb]
theorem CC {scope:Scope} {env:Env} (h:∀ x ∈ scope.names,x.2=.free->∃ c,env.cells.lookup x.1=some c):closureFor scope env=pure (Cq env scope.names []):=by
  have e:=CP (env:=env) scope.names [] h
  unfold closureFor
  dsimp only
  rw [← bind_pure (pure (Cq env scope.names [])),← e]
theorem C4 {env:Env}:∀ (l:List (Str × NameKind)) (cs:List (Str × Addr)),(∀ x c,cs.lookup x=some c->env.cells.lookup x=some c)->∀ x c,(Cq env l cs).lookup x=some c->env.cells.lookup x=some c
  | [],cs,h=>h
  | (n,k) :: r,cs,h=>by
    refine C4 r _ ?_
    intro x c
    by_cases hk:(k == NameKind.free)=true
    . rw [if_pos hk]
      cases hl:env.cells.lookup n with
      | none=>exact h x c
      | some d=>
        intro q
        by_cases hx:x=n
        . subst hx
          rw [List.lookup_cons_self] at q
          rw [hl]; exact q
        . have hb:(x == n)=false:=beq_eq_false_iff_ne.mpr hx
          simp only [List.lookup_cons,hb] at q
          exact h x c q
    . rw [if_neg hk]; exact h x c
theorem GH {env:Env}:∀ (l:List (Str × NameKind)) (cs:List (Str × Addr)) (x:Str),(cs.lookup x).isSome=true->((Cq env l cs).lookup x).isSome=true
  | [],cs,x,h=>h
  | (n,k) :: r,cs,x,h=>by
    refine GH r _ x ?_
    by_cases hk:(k == NameKind.free)=true
    . rw [if_pos hk]
      cases hl:env.cells.lookup n with
      | none=>exact h
      | some d=>
        by_cases hx:(x == n)=true
        . simp only [List.lookup_cons,hx,Option.isSome_some]
        . have hb:(x == n)=false:=by simpa using hx
          simp only [List.lookup_cons,hb]; exact h
    . rw [if_neg hk]; exact h
theorem JE {env:Env}:∀ (l:List (Str × NameKind)) (cs:List (Str × Addr)) (x:Str) (c:Addr),(x,NameKind.free) ∈ l->env.cells.lookup x=some c->((Cq env l cs).lookup x).isSome=true
  | [],cs,x,c,h,_=>by simp at h
  | (n,k) :: r,cs,x,c,h,hc=>by
    rcases List.mem_cons.mp h with e | e
    . obtain ⟨rfl,rfl⟩:=Prod.mk.inj e
      refine GH r _ _ ?_
      rw [if_pos (by decide),hc]
      simp only [List.lookup_cons_self,Option.isSome_some]
    . exact JE r _ x c e hc
theorem G0 {env:Env} {l:List (Str × NameKind)} {x:Str} {c:Addr} (h:(x,NameKind.free) ∈ l) (hc:env.cells.lookup x=some c):(Cq env l []).lookup x=some c:=by
  obtain ⟨d,hd⟩:=Option.isSome_iff_exists.mp (JE l [] x c h hc)
  have:=C4 l [] (fun _ _ z=>by simp at z) x d hd
  rw [hc] at this; cases this
  exact hd
def Bq:List (Str × NameKind)->List Str
  | []=>[]
  | (n,.free) :: r=>n :: Bq r
  | _ :: r=>Bq r
theorem Dy {x:Str}:∀ {l:List (Str × NameKind)},x ∈ Bq l->(x,NameKind.free) ∈ l
  | [],h=>by simp [Bq] at h
  | (n,k) :: r,h=>by
    cases k <;> first
      | (rcases List.mem_cons.mp (show x ∈ n :: Bq r from h) with e | e
         . subst e; exact List.mem_cons_self
         . exact List.mem_cons_of_mem _ (Dy e))
      | exact List.mem_cons_of_mem _ (Dy (show x ∈ Bq r from h))
theorem Gu {x:Str}:∀ {l:List (Str × NameKind)},(x,NameKind.free) ∈ l->x ∈ Bq l
  | [],h=>by simp at h
  | (n,k) :: r,h=>by
    rcases List.mem_cons.mp h with e | e
    . cases e; exact List.mem_cons_self
    . have ih:=Gu e
      cases k <;> first
        | exact List.mem_cons_of_mem _ ih
        | exact ih
theorem DX {x:Str} (f:Str × NameKind->Str × NameKind) (hf:∀ p,f p=p ∨ p.2=.free /\ f p=(p.1,.cell)):∀ (l:List (Str × NameKind)) (k:NameKind),(l.map f).lookup x=some k->l.lookup x=some k ∨ l.lookup x=some .free /\ k=.cell
  | [],_,h=>nomatch h
  | (y,j) :: l,k,h=>by
    have rest:=DX (x:=x) f hf l k
    rw [List.map_cons] at h
    rcases hf (y,j) with e | ⟨ej,e⟩ <;> rw [e] at h <;> cases he:x == y <;> simp only [List.lookup_cons,he] at h ⊢
    . exact rest h
    . exact .inl h
    . exact rest h
    . cases h
      cases (show j=NameKind.free from ej)
      exact .inr ⟨rfl,rfl⟩
theorem Cc {scope:Scope} {env:Env} {x:Str} {k:NameKind} (h:(relabel scope env).names.lookup x=some k):scope.names.lookup x=some k ∨ scope.names.lookup x=some .free /\ k=.cell:=by
  unfold relabel at h
  refine DX _ (fun p=>?_) _ _ h
  obtain ⟨n,j⟩:=p
  dsimp only
  split
  . rename_i hc
    refine .inr ⟨?_,rfl⟩
    simp only [Bool.and_eq_true,beq_iff_eq] at hc
    exact hc.1.1
  . exact .inl rfl
def Gn (ix:List Nat) (σ:St):St:=ix.map fun j=>(σ[j]?).getD none
def cxB (X:Cx) (scope:Scope) (tgs:List Str) (fp:List Addr) (C:Addr) (s:Shared) (H:Hp):Cx:=
  { X with N:=tgs ++ Bq scope.names,s₀:=s,H₀:=H,env:=compEnvC scope (Cq X.env scope.names []) C X.env,outer:=X.stack,ex:=fp,fn:=fun _=>false,pn:=[],xe:=fun _ _=>False }
def SL {α:Type} (P:α->Prop):List α->Prop
  | []=>True
  | x :: r=>P x /\ SL P r
theorem GP {α:Type} {P:α->Prop}:∀ {l:List α},SL P l->∀ x ∈ l,P x
  | [],_,_,h=>by simp at h
  | _ :: _,h,x,hx=>by
    rcases List.mem_cons.mp hx with e | e
    . subst e; exact h.1
    . exact GP h.2 x e
structure BScope (X:Cx) (scope:Scope) (tgs:List Str) (ix:List Nat):Prop where
  kind:scope.kind=.function
  nocell:∀ y ∈ scope.names,y.2 ≠ .cell
  loc:∀ y ∈ scope.names,y.2=.local->scope.names.lookup y.1=some .local
  fre:SL (fun x=>X.env.kindOf x=some .cell ∨ X.env.kindOf x=some .free) (Bq scope.names)
  ixs:(Bq scope.names).map some=ix.map fun j=>X.N[j]?
  ndl:∀ x ∈ Bq scope.names,scope.names.lookup x=some .free
section
variable {X:Cx} {scope:Scope} {tgs:List Str} {ix:List Nat}
theorem BScope.cells (S:BScope X scope tgs ix) (ok:X.Ok):∀ x ∈ scope.names,x.2=.free->∃ c,X.env.cells.lookup x.1=some c:=fun x hx hk=>by
  obtain ⟨n,k⟩:=x
  subst hk
  exact ok.has n (GP S.fre n (Gu hx))
theorem Inv.cellLt {pins:List (Addr × Obj)} {σ:St} {H:Hp} {s:Shared} (I:Inv X pins σ H s) {x:Str} {c:Addr} (e:X.env.cells.lookup x=some c):c < s.heap.objs.size:=by
  obtain ⟨v,q⟩:=I.cell x c e
  exact q.lt
theorem Inv.track {pins:List (Addr × Obj)} {σ:St} {H:Hp} {s:Shared} {D:Addr} {o:HO} (I:Inv X pins σ H s) (f:DP X pins H D) (new:ObjOk X.prog X.w (upd H D o) s.heap D o):Inv X pins σ (upd H D o) s:=by
  obtain ⟨f0,f1,f2,f3,f4,f5⟩:=f
  have nD:∀ b u,H b=some u->b ≠ D:=fun b u e z=>by rw [z,f0] at e; cases e
  have:=I.step (h':=s.heap) (H':=upd H D o) (g':=s.gens) (t':=s.toks) (d':=s.drawn) (ch:=[D]) (fun b hb=>?_) (fun b u _ _ _ e _=>e) (fun b u _ _ _ e _=>⟨u.slots,e⟩) (fun b u hb e n=>?_) (fun b u _ e=>⟨u,e⟩)
    (fun b xs e=>?_) (fun b u v e=>?_) (fun b ps e=>?_) (fun m hm=>hm) (fun b u e=>?_) I.bare
  . exact this
  . have e:b=D:=by simpa using hb
    subst e
    exact ⟨f3,f1,f4,f5⟩
  . rw [Al (fun z=>hb (by simp [z]))]; exact n
  . rw [Al (nD b _ e)]; exact e
  . rw [Al (nD b _ e)]; exact e
  . exact ⟨#[],by rw [Al (nD b _ e),e]; simp⟩
  . by_cases hb:b=D
    . subst hb; rw [At] at e; cases e; exact new
    . rw [Al hb] at e
      exact (I.hok b u e).stay (fun _ _ _ q=>q) (fun c q=>by rw [Al (nD c _ q)]; exact q) fun c xs q=>by rw [Al (nD c _ q)]; exact q
theorem Jw {pins:List (Addr × Obj)} {σ:St} {H:Hp} {s:Shared} {fp:List Addr} {C:Addr} (S:BScope X scope tgs ix) (I:Inv X pins σ H s) (hf:∀ b ∈ fp,DP X pins H b) (hfo:∀ b ∈ fp,b < s.heap.objs.size) (hC:s.heap.objs.size <= C) :
    (cxB X scope tgs fp C s H).Ok:=by
  have sub:∀ x c,(Cq X.env scope.names []).lookup x=some c->X.env.cells.lookup x=some c:=C4 scope.names [] (fun _ _ z=>by simp at z)
  refine ⟨I.ok.mod,S.kind,I.ok.glob,I.ok.blt,hC,fun x y c h1 h2=>I.ok.inj x y c (sub x c h1) (sub y c h2),fun x hx=>?_,fun x c h=>absurd h (by simp [cxB]),I.ok.hd,I.ok.frames,.inl rfl,fun b hb=>⟨?_,fun x c e=>?_⟩,fun b o e=>I.bs b o e,
    Nat.le_trans I.ok.bsz I.sz,fun b o e hb=>?_,fun b hb hz=>?_,I.stack,I.stkFree⟩
  . have hx':(relabel scope X.env).names.lookup x=some .cell ∨ (relabel scope X.env).names.lookup x=some .free:=hx
    have hm:(x,NameKind.free) ∈ scope.names:=by
      rcases hx' with h | h
      . rcases Cc h with q | q
        . exact absurd rfl (S.nocell _ (PySem.mem_of_lookup q))
        . exact PySem.mem_of_lookup q.1
      . rcases Cc h with q | q
        . exact PySem.mem_of_lookup q
        . exact absurd q.2 (by decide)
    obtain ⟨c,hc⟩:=S.cells I.ok _ hm rfl
    exact ⟨c,G0 hm hc⟩
  . exact fun z=>absurd (hfo b hb) (by rw [z]; exact Nat.not_lt.mpr hC)
  . exact (hf b hb).2.2.2.2.1 x c (sub x c e)
  . obtain ⟨f0,f1,f2,f3,f4,f5⟩:=hf b hb
    rcases f3 with z | z
    . exact I.ok.noex b o e z
    . exact absurd (Heap.lt_size (I.ok.bs b o e).1) (Nat.not_lt.mpr z)
  . obtain ⟨f0,f1,f2,f3,f4,f5⟩:=hf b hb
    rcases List.mem_cons.mp (I.stkSub b hz) with z | z
    . exact f1 z
    . exact f2 z
end
end L2
namespace L2
open PySem PySem.Spec PyProof.Rows
section
variable {X:Cx} {scope:Scope} {tgs:List Str} {ix:List Nat}
abbrev Bo (tgs:List Str) (ix:List Nat) (σ:St):St:=List.replicate tgs.length none ++ Gn ix σ
theorem Ff {σ:St} {k:Nat} {v:V} (h:(Bo tgs ix σ)[k]? = some (some v)):tgs.length <= k /\ ∃ j,ix[k - tgs.length]? = some j /\ σ[j]? = some (some v):=by
  have hk:tgs.length <= k:=by
    rcases Nat.lt_or_ge k tgs.length with z | z
    . rw [List.getElem?_append_left (by simpa using z),List.getElem?_replicate,if_pos z] at h
      cases h
    . exact z
  refine ⟨hk,?_⟩
  rw [List.getElem?_append_right (by simpa using hk),List.length_replicate] at h
  unfold Gn at h
  rw [List.getElem?_map] at h
  cases e:ix[k - tgs.length]? with
  | none=>rw [e] at h; cases h
  | some j=>
    rw [e] at h
    refine ⟨j,rfl,?_⟩
    have h':(σ[j]?).getD none=some v:=Option.some.inj h
    cases q:σ[j]? with
    | none=>rw [q] at h'; cases h'
    | some o=>
      rw [q] at h'
      have h'':o=some v:=h'
      rw [h'']
theorem F6 {pins:List (Addr × Obj)} {σ:St} {H:Hp} {s s4:Shared} {fp:List Addr} {C D:Addr} {o:Obj} (S:BScope X scope tgs ix) (I:Inv X pins σ H s) (hf:∀ b ∈ fp,DP X pins H b) (hfo:∀ b ∈ fp,b < s.heap.objs.size)
    (hC:s.heap.objs.size <= C) (hD:s.heap.objs.size <= D) (hDC:D ≠ C) {m:Str->Option Value} (hn:s4.heap.Ns C m) (hk:∀ b u,s.heap.get? b=some u->s4.heap.get? b=some u) (hos:s4.os=s.os) (hg:s4.gens=s.gens)
    (hDo:s4.heap.get? D=some o) (hcell:∀ v,o.data ≠ .cell v):Inv (cxB X scope tgs fp C s H) [(D,o)] (Bo tgs ix σ) H s4:=by
  have ok:=Jw (tgs:=tgs) (ix:=ix) (C:=C) S I hf hfo hC
  have sub:∀ x c,(Cq X.env scope.names []).lookup x=some c->X.env.cells.lookup x=some c:=C4 scope.names [] (fun _ _ z=>by simp at z)
  refine ⟨ok,hos,by rw [hg]; exact I.bare,Un.kept hk,⟨m,hn,fun k x v h1 h2 h3=>?_⟩,fun x c e=>?_,I.hok.fresh hC,fun x c e=>I.freeC x c (sub x c e),fun p hp=>?_,I.hok.kept hk,?_⟩
  . obtain ⟨hkl,j,hj,hσ⟩:=Ff h2
    have h1':(Bq scope.names)[k - tgs.length]? = some x:=by
      have:(tgs ++ Bq scope.names)[k]? = some x:=h1
      rwa [List.getElem?_append_right hkl] at this
    have hx:x ∈ Bq scope.names:=List.mem_of_getElem? h1'
    have hXN:X.N[j]? = some x:=by
      have e:=congrArg (fun l=>l[k - tgs.length]?) S.ixs
      simp only [List.getElem?_map,h1',hj,Option.map_some] at e
      exact (Option.some.inj e).symm
    have kx:=GP S.fre x hx
    obtain ⟨m0,hn0,hl⟩:=I.loc
    obtain ⟨u,r,l⟩:=hl j x v hXN hσ (by rcases kx with z | z; exact .inr (.inl z); exact .inr (.inr z))
    refine ⟨u,r,?_⟩
    rcases l with ⟨z,_⟩ | ⟨_,c,hc,q⟩
    . rcases kx with y | y <;> rw [z] at y <;> cases y
    . refine .inr ⟨?_,c,G0 (Dy hx) hc,?_⟩
      . have h3':(relabel scope X.env).names.lookup x=some .local ∨ (relabel scope X.env).names.lookup x=some .cell ∨ (relabel scope X.env).names.lookup x=some .free:=h3
        rcases h3' with z | z | z
        . exfalso
          rcases Cc z with w | w
          . have lk:scope.names.lookup x=some .local:=w
            have:=S.ndl x hx
            rw [lk] at this; cases this
          . exact absurd w.2 (by decide)
        . exact .inl z
        . exact .inr z
      . obtain ⟨oc,hoc,hd⟩:=q
        exact ⟨oc,hk c oc hoc,hd⟩
  . obtain ⟨v,oc,hoc,hd⟩:=I.cell x c (sub x c e)
    exact ⟨v,oc,hk c oc hoc,hd⟩
  . have e:p=(D,o):=by simpa [cxB] using hp
    subst e
    refine ⟨hDo,I.hok.fresh hD,hDC,fun hz=>?_,hcell⟩
    have hz':D ∈ frs X.stack:=hz
    rcases List.mem_cons.mp (I.stkSub D hz') with z | z
    . exact absurd I.lt (by rw [← z]; exact Nat.not_lt.mpr hD)
    . exact I.nofs hD z
  . show (List.replicate tgs.length none ++ Gn ix σ).length=(tgs ++ Bq scope.names).length
    have e:=congrArg List.length S.ixs
    simp only [List.length_map] at e
    rw [List.length_append,List.length_append,List.length_replicate,e]
    unfold Gn
    rw [List.length_map]
def Ge (X:Cx) (ifs:List Expr) (tc:TT):Prop:=
  ∀ (pins:List (Addr × Obj)) (s:Shared) (σ:St) (H:Hp) (Q:Bool->Hp->Prop),Inv X pins σ H s->tc σ H Q->
    wpAny (model X.prog X.w) X.A (forIn ifs true fun c r=>if r=true then do let ok ← isTrue c X.env (eval c X.env); pure (ForInStep.yield ok) else pure (ForInStep.yield r)) (TP X pins σ Q) X.xe s
def SX:TT:=fun _ H Q=>Q true H
theorem Mu:Ge X [] SX:=fun pins s σ H Q I h=>wpAny_tests_nil ⟨H,I,h⟩
theorem Mt {c:Expr} {tc:TT} (h:PT X c tc):Ge X [c] tc:=fun pins s σ H Q I hw=>wpAny_tests_one (h pins s σ H Q I hw)
def GK (n:Nat) (g:TG):Prop:=∀ x σ H Q,g x σ H Q->g x σ H fun σ2 H2=>Q σ2 H2 /\ σ2.length=σ.length /\ σ2.drop n=σ.drop n
theorem Hf {n i:Nat} (h:i < n):GK n (DL i):=fun x σ H Q q=>⟨q,by simp,by rw [List.drop_set_of_lt h]⟩
def Ts (tgs:List Str) (ix:List Nat) (g:TG) (tc:TT) (te:TE) (σ:St) (Q:VK) (J:It) (H1:Hp):Prop:=∃ W:Nat->Nat->List V->Hp->Prop,(∃ m,W 0 m [] H1) /\ ∀ i m ys H,W i m ys H->
  (J.stop i H /\ ys.length <= sizeLine /\ ∀ p,H p=none->Q (.ref p) (upd H p (.lst ys))) ∨
  (J.go i H /\ ys.length < sizeLine /\ ∃ N:List V->Hp->Prop,(∀ ys' H',N ys' H'->∃ m',m' < m /\ W (i + 1) m' ys' H') /\ ∀ x H',J.yld i H x H'->g x (Bo tgs ix σ) H' fun σ2 H2=>tc σ2 H2 fun b H3=>
    if b=true then te σ2 H3 fun v H4=>N (ys ++ [v]) H4 else N ys H3)
def Gh (tgs:List Str) (ix:List Nat) (wi:TI) (g:TG) (tc:TT) (te:TE):TE:=fun σ H Q=>wi σ H fun J H1=>Ts tgs ix g tc te σ Q J H1
theorem Er {α:Type} {t:Sem α} {Q Q':α->Shared->Prop} {M:Model} {A:Around} {E:Value->Shared->Prop} {s:Shared} (h:wpAny M A t Q (fun _ _=>False) s) (hQ:∀ a s,Q a s->Q' a s):wpAny M A t Q' E s:=wpAny_mono h hQ fun _ _ x=>x.elim
theorem LV {α:Type} {u:Sem Unit} {t:Sem α} {P:Unit->Shared->Prop} {Q:α->Shared->Prop} {M:Model} {A:Around} {E:Value->Shared->Prop} {s:Shared} (hu:u=pure ()) (h:wpAny M A u P E s) (k:∀ s',P () s'->wpAny M A t Q E s'):wpAny M A t Q E s:=by
  subst hu
  have z:wpAny M A ((pure ():Sem Unit) >>= fun _=>t) Q E s:=wpAny_bind (wpAny_mono h (fun _ s' p=>k s' p) fun _ _ x=>x)
  exact z
end
end L2
namespace L2
open PySem PySem.Spec PyProof.Rows
section
variable {X:Cx} {scope:Scope} {tgs:List Str} {ix:List Nat}
abbrev DO (its:List Value) (k:Nat):Obj:={ cls:=.type "list",data:=.seq its.toArray k }
theorem KC {fp:List Addr} {C:Addr} {s0:Shared} {H0:Hp} {pins:List (Addr × Obj)} {σ σ6:St} {H:Hp} {s:Shared} (I:Inv (cxB X scope tgs fp C s0 H0) pins σ6 H s) (l6:σ6.length=(Bo tgs ix σ).length)
    (d6:σ6.drop tgs.length=(Bo tgs ix σ).drop tgs.length):Inv (cxB X scope tgs fp C s0 H0) pins (Bo tgs ix σ) H s:=by
  refine I.weak l6.symm fun k v e=>?_
  obtain ⟨hk,_⟩:=Ff e
  have e1:σ6[k]? = (σ6.drop tgs.length)[k - tgs.length]?:=by rw [List.getElem?_drop]; congr 1; omega
  have e2:(Bo tgs ix σ)[k]? = ((Bo tgs ix σ).drop tgs.length)[k - tgs.length]?:=by rw [List.getElem?_drop]; congr 1; omega
  rw [e1,d6,← e2]
  exact e
theorem GG {elt tg iter:Expr} {ifs:List Expr} {pos:Pos} {g:TG} {tc:TT} {te:TE} {pins:List (Addr × Obj)} {σ:St} {H2:Hp} {s2:Shared} {it:Addr} {fp:List Addr} {tn:Nat->Heap->Prop} {J:It} {Q:VK}
    (S:BScope X scope tgs ix) (ht:∀ o v,letOwnedTupleGo tg o v=pure ()) (hc:X.calm=true) (hg:∀ fp C s H,PG (cxB X scope tgs fp C s H) tg g) (hgk:GK tgs.length g) (hi:∀ fp C s H,Ge (cxB X scope tgs fp C s H) ifs tc) (he:∀ fp C s H,PE (cxB X scope tgs fp C s H) elt te)
    (I2:Inv X pins σ H2 s2) (T:Hl X.prog X.w X.K tg J fp it tn) (t0:tn 0 s2.heap) (hf:∀ b ∈ fp,DP X pins H2 b)
    (W:Nat->Nat->List V->Hp->Prop) (w0:∃ m,W 0 m [] H2)
    (turn:∀ i m ys H,W i m ys H->(J.stop i H /\ ys.length <= sizeLine /\ ∀ p,H p=none->Q (.ref p) (upd H p (.lst ys))) ∨
      (J.go i H /\ ys.length < sizeLine /\ ∃ N:List V->Hp->Prop,(∀ ys' H',N ys' H'->∃ m',m' < m /\ W (i + 1) m' ys' H') /\ ∀ x H',J.yld i H x H'->g x (Bo tgs ix σ) H' fun σ2 H2=>tc σ2 H2 fun b H3=>
        if b=true then te σ2 H3 fun v H4=>N (ys ++ [v]) H4 else N ys H3))
    {RR:Value->Addr->Result->Shared->Prop}
    (fin:∀ (D C:Addr) (s':Shared) (H':Hp) (m:Str->Option Value),Inv X pins σ H' s'->Q (.ref D) H'->s'.heap.Ns C m->DP X pins H' C->RR (.ref D) C (.ok .next) s') :
    wpAny (model X.prog X.w) X.A (newList []) (fun acc s₃=>wpAny (model X.prog X.w) X.A (newFunctionEnv scope X.env.globals (Cq X.env scope.names []) [] X.env.qual none .none (some X.env)) (fun cenv s₄=>
      codeAny (model X.prog X.w) X.A (.compStart (.ListComp elt [⟨tg,iter,ifs,0⟩] scope pos) 0 (.ref it) acc { cenv with scope:=relabel scope X.env }) (RR acc cenv.locals) s₄) X.xe s₃) X.xe s2:=by
  refine wpAny_newObj_type (wpAny_newFunctionEnv S.nocell (by intro y hy; simp at hy) (fun h₁ hns₁ hsb₁=>?_) S.kind)
  dsimp only at hns₁ hsb₁ ⊢
  generalize hH2:s2.heap.push { cls:=.type "list",dict:=none,data:=.seq ([]:List Value).toArray }=G2 at hns₁ hsb₁ ⊢
  have hC:G2.objs.size=s2.heap.objs.size + 1:=by rw [← hH2,Heap.size_push]
  have hCle:s2.heap.objs.size <= G2.objs.size:=by rw [hC]; exact Nat.le_succ _
  have hDC:s2.heap.objs.size ≠ G2.objs.size:=by rw [hC]; exact Nat.ne_of_lt (Nat.lt_succ_self _)
  have below:∀ b,b < s2.heap.objs.size->b ≠ G2.objs.size /\ b ≠ s2.heap.objs.size:=fun b hb=>⟨by rw [hC]; exact Nat.ne_of_lt (Nat.lt_succ_of_lt hb),Nat.ne_of_lt hb⟩
  have old:∀ b o,s2.heap.get? b=some o->h₁.get? b=some o:=fun b o e=>hsb₁.extBut b o (below b (Heap.lt_size e)).1 (Heap.get?_push_of_some _ (hH2 ▸ Heap.get?_push_of_some _ e))
  have hacc:h₁.get? s2.heap.objs.size=some (DO [] 0):=hsb₁.extBut _ _ hDC (Heap.get?_push_of_some _ (hH2 ▸ Heap.get?_push_size _ rfl))
  have hfo:∀ b ∈ fp,b < s2.heap.objs.size:=fun b hb=>let ⟨o,e,_⟩:=T.obj 0 _ t0 b hb; Heap.lt_size e
  have ok:=Jw (tgs:=tgs) (ix:=ix) (C:=G2.objs.size) S I2 hf hfo hCle
  have sub:∀ x c,(Cq X.env scope.names []).lookup x=some c->X.env.cells.lookup x=some c:=C4 scope.names [] (fun _ _ z=>by simp at z)
  have nDfs:s2.heap.objs.size ∉ frs X.stack:=fun hz=>by
    rcases List.mem_cons.mp (I2.stkSub _ hz) with z | z
    . exact absurd I2.lt (by rw [← z]; exact Nat.lt_irrefl _)
    . exact I2.nofs (Nat.le_refl _) z
  have nDcell:∀ x c,(Cq X.env scope.names []).lookup x=some c->c ≠ s2.heap.objs.size:=fun x c e=>Nat.ne_of_lt (I2.cellLt (sub x c e))
  have ncell:∀ (its:List Value) (k:Nat) (v:Option Value),(DO its k).data ≠ .cell v:=fun its k v z=>by cases z
  have stat:∀ {Hx:Hp} {o:Obj},(∀ b ∈ fp,Hx b=none)->∀ b ∈ fp,DP (cxB X scope tgs fp G2.objs.size s2 H2) [(s2.heap.objs.size,o)] Hx b:=fun {Hx o} hn b hb=>
    ⟨hn b hb,(ok.exf b hb).1,ok.exfs b hb,.inl hb,(ok.exf b hb).2,fun p hp z=>by
      have e:p=(s2.heap.objs.size,o):=by simpa [cxB] using hp
      subst e
      exact absurd (hfo b hb) (by rw [← z]; exact Nat.lt_irrefl _)⟩
  have loop:∀ s₃:Shared,s₃={ s2 with heap:=h₁,toks:=s2.toks + ([]:List (Str × Value)).length }->
      codeAny (model X.prog X.w) X.A (.compLoop (.ListComp elt [⟨tg,iter,ifs,0⟩] scope pos) 0 (.ref it) (.ref s2.heap.objs.size) (compEnvC scope (Cq X.env scope.names []) G2.objs.size X.env)) (RR (.ref s2.heap.objs.size) G2.objs.size) s₃:=by
    rintro s₃ rfl
    obtain ⟨m0,w0⟩:=w0
    refine codeAny_compLoop_tests (fun n s=>∃ i ys its k H,Inv (cxB X scope tgs fp G2.objs.size s2 H2) [(s2.heap.objs.size,DO its k)] (Bo tgs ix σ) H s /\ tn i s.heap /\ (∀ b ∈ fp,H b=none) /\ Vals ys its /\ W i n ys H) ?_ m0
      ⟨0,[],[],0,H2,F6 S I2 hf hfo hCle (Nat.le_refl _) hDC hns₁ old rfl rfl hacc (ncell _ _),T.keep 0 _ _ t0 fun b _ o e=>old b o e,fun b hb=>(hf b hb).1,.nil,w0⟩ (ht _)
    rintro n s ⟨i,ys,its,k,H,I,st,fr,rv,w⟩
    rcases turn i n ys H w with ⟨stop,hz,q⟩ | ⟨go,hz8,N,hN,step⟩
    . refine thn (T.done (cxB X scope tgs fp G2.objs.size s2 H2) rfl rfl rfl hc i _ s _ H _ I (stat fr) st stop) fun r s1 ⟨hr,I1⟩=>?_
      subst hr
      obtain ⟨pe,pn,_⟩:=I1.pin (s2.heap.objs.size,DO its k) (List.mem_append_right _ (by simp))
      have J0:Inv X pins σ H s1:=I2.call' I1.os I1.base I1.hok I1.bare fun b hb=>⟨(hf b hb).2.2.2.1,(hf b hb).2.1,(hf b hb).2.2.2.2.1,(hf b hb).2.2.2.2.2⟩
      have J1:Inv X pins σ (upd H s2.heap.objs.size (.lst ys)) s1:=J0.track (I2.fpOk (Nat.le_refl _) pn) ⟨hz,its,k,rv,pe⟩
      obtain ⟨m,hn,_⟩:=I1.loc
      exact fin _ _ s1 _ m J1 (q _ pn) hn (I2.fpOk hCle (by rw [Al (Ne.symm hDC)]; exact I1.free))
    . refine thn (T.item (cxB X scope tgs fp G2.objs.size s2 H2) rfl rfl rfl hc i _ s _ H _ I (stat fr) st go) fun r s1 ⟨u,hr,h1⟩=>?_
      subst hr
      refine LV (ht _ _) h1 fun s5 ⟨x,H5,I5,r5,y5,st5,fr5⟩=>?_
      have I5':=I5.pinned (stat fr5) (T.obj _ _ st5)
      refine Er (hg fp G2.objs.size s2 H2 _ s5 _ H5 x u _ I5' r5 (hgk _ _ _ _ (step x H5 y5))) fun _ s6 ⟨σ6,H6,I6,q6,l6,d6⟩=>?_
      refine Er (hi fp G2.objs.size s2 H2 _ s6 σ6 H6 _ I6 q6) fun okb s7 ⟨H7,I7,q7⟩=>?_
      cases okb with
      | false=>
        rw [if_neg Bool.false_ne_true] at q7 ⊢
        obtain ⟨m',hm,w7⟩:=hN _ _ q7
        refine ⟨m',hm,i + 1,ys,its,k,H7,KC I7.unpinned l6 d6,T.keep _ _ _ st5 fun b hb o e=>(I7.pin (b,o) (List.mem_append_right _ (List.mem_append_right _ (BB hb e)))).1,fun b hb=>?_,rv,w7⟩
        obtain ⟨o,e,_⟩:=T.obj _ _ st5 b hb
        exact (I7.pin (b,o) (List.mem_append_right _ (List.mem_append_right _ (BB hb e)))).2.1
      | true=>
        rw [if_pos rfl] at q7 ⊢
        refine Er (he fp G2.objs.size s2 H2 _ s7 σ6 H7 _ I7 q7) fun xv s8 ⟨v,H8,I8,rv8,q8⟩=>?_
        obtain ⟨m',hm,w8⟩:=hN _ _ q8
        obtain ⟨pe,pn,_⟩:=I8.pin (s2.heap.objs.size,DO its k) (List.mem_append_right _ (List.mem_append_left _ (by simp)))
        have hlen:=rv.length
        refine call_meets PySem.F.slot_list_append ⟨_,pe,rfl⟩ PySem.F.entry_list_append (PySem.F.args_list_append_2 _ _) (PySem.list_append s2.heap.objs.size its.toArray k xv (by rw [List.size_toArray]; omega)) ⟨pe,?_⟩
        have hp:its.toArray.push xv=(its ++ [xv]).toArray:=by simp
        have q':∃ k',(s8.heap.update s2.heap.objs.size (Obj.mapSeq (fun a=>a.push xv))).get? s2.heap.objs.size=some (DO (its ++ [xv]) k'):=⟨_,by
          unfold DO
          rw [← hp]
          exact PySem.IsL.update pe (fun a=>a.push xv)⟩
        obtain ⟨k',q'⟩:=q'
        have I9:Inv (cxB X scope tgs fp G2.objs.size s2 H2) [] σ6 H8 { s8 with heap:=s8.heap.update s2.heap.objs.size (Obj.mapSeq (fun a=>a.push xv)) }:=
          (I8.pins_of (pins':=[]) (fun p hp=>absurd hp (by simp))).turned (t':=s8.toks) (fun b o hb e=>(Heap.get?_update_other s8.heap (Obj.mapSeq (fun a=>a.push xv)) (Ne.symm hb)).trans e) pn hDC (.inr (Nat.le_refl _)) nDcell (fun p hp=>absurd hp (by simp [cxB]))
        have I10:Inv (cxB X scope tgs fp G2.objs.size s2 H2) [(s2.heap.objs.size,DO (its ++ [xv]) k')] σ6 H8 { s8 with heap:=s8.heap.update s2.heap.objs.size (Obj.mapSeq (fun a=>a.push xv)) }:=
          I9.pins_of fun p hp=>by
            have e:p=(s2.heap.objs.size,DO (its ++ [xv]) k'):=by simpa using hp
            subst e
            exact ⟨q',pn,hDC,nDfs,ncell _ _⟩
        refine ⟨m',hm,i + 1,ys ++ [v],its ++ [xv],k',H8,KC I10 l6 d6,T.keep _ _ _ st5 fun b hb o e=>?_,fun b hb=>?_,rv.append (.cons rv8 .nil),w8⟩
        . exact (Heap.get?_update_other s8.heap (Obj.mapSeq (fun a=>a.push xv)) (Ne.symm (below b (hfo b hb)).2)).trans (I8.pin (b,o) (List.mem_append_right _ (List.mem_append_right _ (BB hb e)))).1
        . obtain ⟨o,e,_⟩:=T.obj _ _ st5 b hb
          exact (I8.pin (b,o) (List.mem_append_right _ (List.mem_append_right _ (BB hb e)))).2.1
  exact codeAny_compStart_list (loop _ rfl) (T.self _ 0 _ _ _ (T.keep 0 _ _ t0 fun b _ o e=>old b o e) (loop _ rfl))
theorem PB {elt tg iter:Expr} {ifs:List Expr} {pos:Pos} {wi:TI} {g:TG} {tc:TT} {te:TE} (S:BScope X scope tgs ix) (hc:X.calm=true) (hi:PI X tg iter wi) (hg:∀ fp C s H,PG (cxB X scope tgs fp C s H) tg g) (hgk:GK tgs.length g)
    (hif:∀ fp C s H,Ge (cxB X scope tgs fp C s H) ifs tc) (he:∀ fp C s H,PE (cxB X scope tgs fp C s H) elt te) (hs:∀ x,foldedSetIterable iter X.env x=pure x:=by intro _; rfl) (ht:∀ o v,letOwnedTupleGo tg o v=pure ():=by intro _ _; rfl) :
    PE X (.ListComp elt [⟨tg,iter,ifs,0⟩] scope pos) (Gh tgs ix wi g tc te):=by
  intro pins s σ H Q I h
  rw [eval_ListComp]
  refine wpAny_comprehension_free (use:=none) rfl hs (CC (S.cells I.ok)) S.kind S.loc ?_
  show wpAny _ _ (eval iter X.env) _ _ s
  refine thn (hi pins s σ H _ I h) fun v s1 h1=>thn h1 fun itv s2 h2=>?_
  obtain ⟨it,fp,tn,J,H2,e,I2,T,t0,f2,W,w0,turn⟩:=h2
  subst e
  refine GG (RR:=fun acc C=>compPost (model X.prog X.w) X.A X.xe none (EP X pins σ Q) acc C) S ht hc hg hgk hif he I2 T t0 f2 W w0 turn ?_
  intro D C s' H' m J1 q hn fC
  obtain ⟨f0,f1,f2,f3,f4,f5⟩:=fC
  exact ⟨m,hn,fun h' sb=>⟨.ref D,H',J1.turned (t':=s'.toks) (fun b o hb e=>(sb.2 b hb).trans e) f0 f1 f3 f4 f5,rfl,q⟩⟩
theorem Fu {i:Nat} {y:Str} {py:Pos} {elt tg iter:Expr} {ifs:List Expr} {pos spos:Pos} {wi:TI} {g:TG} {tc:TT} {te:TE} (hN:X.N.Nodup) (hiN:X.N[i]? = some y) (hy:X.env.scope.names.lookup y=some .local)
    (S:BScope X scope tgs ix) (hc:X.calm=true) (hi:PI X tg iter wi) (hg:∀ fp C s H,PG (cxB X scope tgs fp C s H) tg g) (hgk:GK tgs.length g)
    (hif:∀ fp C s H,Ge (cxB X scope tgs fp C s H) ifs tc) (he:∀ fp C s H,PE (cxB X scope tgs fp C s H) elt te)
    (hsw:swapsWith (.ListComp elt [⟨tg,iter,ifs,0⟩] scope pos) (some (.Name y py)) spos.line X.env=pure true:=by rfl) (hs:∀ x,foldedSetIterable iter X.env x=pure x:=by intro _; rfl) (ht:∀ o v,letOwnedTupleGo tg o v=pure ():=by intro _ _; rfl) :
    PS X (.Assign [.Name y py] (.ListComp elt [⟨tg,iter,ifs,0⟩] scope pos) spos) (OP (Gh tgs ix wi g tc te) (DL i)):=by
  intro pins s σ H D0 I h
  rw [exec_Assign_Name_used _ _ _ _ hsw]
  refine wpAny_bind (wpAny_standAt (wpAny_bind ?_))
  show wpAny _ X.A (do let _ ← comprehension (.ListComp elt [⟨tg,iter,ifs,0⟩] scope pos) scope X.env _ (newList []) false (eval iter X.env) (some (assign (.Name y py) X.env))) _ _ s
  refine wpAny_bind (wpAny_mono (wpAny_comprehension_free (use:=some (assign (.Name y py) X.env)) (Q:=fun _ s'=>SP X pins D0 .next s') rfl hs (CC (S.cells I.ok)) S.kind S.loc ?_) (fun _ s' hq=>wpAny_pure (wpAny_pure hq)) fun _ _ e=>e)
  refine thn (hi pins s σ H _ I h) fun v s1 h1=>thn h1 fun itv s2 h2=>?_
  obtain ⟨it,fp,tn,J,H2,e,I2,T,t0,f2,W,w0,turn⟩:=h2
  subst e
  refine GG (Q:=fun x H1=>DL i x σ H1 D0.nx) (RR:=fun acc C=>compPost (model X.prog X.w) X.A X.xe (some (assign (.Name y py) X.env)) (fun _ s'=>SP X pins D0 .next s') acc C) S ht hc hg hgk hif he I2 T t0 f2 W w0 turn ?_
  intro D C s' H' m J1 q hn fC
  obtain ⟨f0,f1,f2,f3,f4,f5⟩:=fC
  show wpAny _ X.A (assign (.Name y py) X.env (.ref D)) _ _ _
  refine wpAny_assign_Name (Gj (v:=.ref D) J1 hN hiN (.inl hy) rfl (fun s'' I'' hsb=>?_) (.inr hy))
  obtain ⟨a,sb,ha⟩:=hsb
  have hCa:C ≠ a:=by
    rcases ha with z | z
    . rw [z]; exact f1
    . exact Ne.symm (f4 y a z)
  exact ⟨m,hn.sameBut sb hCa,fun h' sb'=>⟨_,H',I''.turned (t':=s''.toks) (fun b o hb e=>(sb'.2 b hb).trans e) f0 f1 f3 f4 f5,q⟩⟩
end
end L2
namespace L2
open PySem PySem.Spec PyProof.Rows
section
variable {X:Cx}
theorem JI:B7 X (.builtin "isinstance") (fun xs H Q=>∃ x T t b,xs=[x,.ty T] /\ EX X.K H x t /\ PySem.W.kitOne X.K t (.type T)=some b /\ Q (.bl b) H):=by
  intro pins s σ H xs us Q I r h
  obtain ⟨x,T,t,b,rfl,ty,e,q⟩:=h
  obtain ⟨u,w',rfl,rx,ry⟩:=SV r
  cases ry
  exact Lg I rx ty e fun tk=>⟨.bl b,H,I.tok tk,rfl,q⟩
def Ty (K:PySem.W.Frag) (te ts:TE):TE:=fun σ H Q=>te σ H fun x H1=>ts σ H1 fun y H2=>y=.int (-1) /\ ∃ a xs,x=.ref a /\ SqL K H2 a xs /\ ∀ p,H2 p=none->Q (.ref p) (upd H2 p (.lst xs.reverse))
theorem RV {e st:Expr} {te ts:TE} {pos p2:Pos} (he:PE X e te) (hst:PE X st ts):PE X (.Subscript e (.Slice none none (some st) p2) pos) (Ty X.K te ts):=by
  intro pins s σ H Q I h
  refine Subscript_ (thn (he pins s σ H _ I h) fun v s1 ⟨x,H1,I1,r1,q1⟩=>?_)
  refine wpAny_Slice ?_
  rw [evalPart_none,evalPart_some]
  refine wpAny_pure (wpAny_pure (thn (hst pins s1 σ H1 _ I1 q1) fun vk s3 ⟨y,H3,I3,pk,ey,a,xs,ex,hq,q⟩=>?_))
  subst ey ex
  obtain ⟨t,rfl⟩:=pk
  cases r1
  have I4:Inv X pins σ H3 { s3 with heap:=s3.heap.push { cls:=.type "slice",data:=.fields #[.none,.none,.int (-1) t] } }:=I3.kept (t':=s3.toks) fun b ob q=>Heap.get?_push_of_some _ q
  obtain ⟨its,r,ht,hz⟩:=I4.list hq
  have hlen:=r.length
  show wpAny (model X.prog X.w) X.A (subscriptTail e (.Slice none none (some st) p2) (.ref a) (.ref s3.heap.objs.size)) (EP X pins σ Q) X.xe { s3 with heap:=s3.heap.push { cls:=.type "slice",data:=.fields #[.none,.none,.int (-1) t] } }
  refine tail_any (ops:=[.ref a,.ref s3.heap.objs.size]) ht.isList.typeIs slot_list_getitem.lookup ?_ (by with_unfolding_all rfl)
  refine wpAny_getItem_list_slice ht.isList (Heap.IsSliceOf.new ..) .none .none (.int (-1) t) (by decide) ?_ (by rw [List.size_toArray] <;> omega)
  rw [PySem.W.krv_pick]
  refine ⟨.ref _,_,I4.laid (t':=s3.toks) (o:=.lst xs.reverse) (fun b ob q=>Heap.get?_push_of_some _ q) (Nat.le_refl _) ?_,rfl,q _ (I4.hok.fresh (Nat.le_refl _))⟩
  exact ⟨by rw [List.length_reverse]; exact hz,its.reverse,0,r.reverse,by
    have e:its.toArray.toList.reverse.toArray=its.reverse.toArray:=by simp
    rw [e]
    exact Heap.get?_push_size _ rfl⟩
end
section
variable {prog:Program} {w:World} {A:Around} {E:Value->Shared->Prop} {s:Shared}
end
end L2
namespace L2
open PySem PySem.Spec PyProof.Rows
section
variable {prog:Program} {w:World} {A:Around} {R:Result->Shared->Prop}
end
section
variable {X:Cx}
end
end L2
namespace L2
open PySem PySem.Spec PyProof.Rows
section
variable {X:Cx}
end
mutual
inductive DatV (K:PySem.W.Frag) (H:Hp):V->PyData->Prop
  | non:DatV K H .non .none
  | bl (b:Bool):DatV K H (.bl b) (.bool b)
  | int (i:Int):DatV K H (.int i) (.int i)
  | str (x:Str):DatV K H (.str x) (.str x)
  | tup {a:Addr} {xs:List V} {ds:List PyData}:SqT K H a xs->DatVs K H xs ds->DatV K H (.ref a) (.tuple ds)
  | lst {a:Addr} {xs:List V} {ds:List PyData}:SqL K H a xs->DatVs K H xs ds->DatV K H (.ref a) (.list ds)
inductive DatVs (K:PySem.W.Frag) (H:Hp):List V->List PyData->Prop
  | nil:DatVs K H [] []
  | cons {v:V} {d:PyData} {vs:List V} {ds:List PyData}:DatV K H v d->DatVs K H vs ds->DatVs K H (v :: vs) (d :: ds)
end
section
variable {X:Cx} {pins:List (Addr × Obj)} {σ:St} {H:Hp} {s:Shared}
mutual
theorem DatV.reads (I:Inv X pins σ H s):∀ {v:V} {d:PyData},DatV X.K H v d->∀ {u:Value},RelV v u->∃ as,Reads s.heap u d as
  | _,_,.non,_,r=>by cases r; exact ⟨[],.none⟩
  | _,_,.bl b,_,r=>by cases r; exact ⟨[],.bool b⟩
  | _,_,.int i,_,r=>by obtain ⟨t,rfl⟩:=r; exact ⟨[],.int i t⟩
  | _,_,.str x,_,r=>by obtain ⟨t,rfl⟩:=r; exact ⟨[],.str x t⟩
  | _,_,.tup hq hs,_,r=>by
    cases r
    obtain ⟨its,rv,⟨o,e,c,n,d⟩,_⟩:=I.tuple hq
    obtain ⟨as,ra⟩:=DatVs.reads I hs rv
    exact ⟨_,.tuple e c d (by simpa using ra)⟩
  | _,_,.lst hq hs,_,r=>by
    cases r
    obtain ⟨its,rv,⟨o,n,e,c,_,d⟩,_⟩:=I.list hq
    obtain ⟨as,ra⟩:=DatVs.reads I hs rv
    exact ⟨_,.list e c d (by simpa using ra)⟩
theorem DatVs.reads (I:Inv X pins σ H s):∀ {vs:List V} {ds:List PyData},DatVs X.K H vs ds->∀ {us:List Value},Vals vs us->∃ as,ReadsAll s.heap us ds as
  | _,_,.nil,_,.nil=>⟨[],.nil⟩
  | _,_,.cons h t,_,.cons r rr=>by
    obtain ⟨a,ra⟩:=DatV.reads I h r
    obtain ⟨b,rb⟩:=DatVs.reads I t rr
    exact ⟨_,.cons ra rb⟩
end
end
section
variable {X:Cx}
theorem Ri (hu:X.A.units + 64 < cLine):OpR X (compareOp .Eq) (fun x y H Q=>∃ d d',DatV X.K H x d /\ DatV X.K H y d' /\ SeqAt.shaped d=true /\ SeqAt.shaped d'=true /\ Q (.bl (PyData.eqv d d')) H):=by
  intro pins s σ H x y v u Q I rx ry h
  obtain ⟨d,d',h1,h2,s1,s2,q⟩:=h
  obtain ⟨as,ra⟩:=h1.reads I rx
  obtain ⟨bs,rb⟩:=h2.reads I ry
  exact SeqAt.compareEq_shaped ra rb s1 s2 hu ⟨.bl _,H,I,rfl,q⟩
theorem Rf (hu:X.A.units + 64 < cLine):OpR X (compareOp .NotEq) (fun x y H Q=>∃ d d',DatV X.K H x d /\ DatV X.K H y d' /\ SeqAt.shaped d=true /\ SeqAt.shaped d'=true /\ Q (.bl (!PyData.eqv d d')) H):=by
  intro pins s σ H x y v u Q I rx ry h
  obtain ⟨d,d',h1,h2,s1,s2,q⟩:=h
  obtain ⟨as,ra⟩:=h1.reads I rx
  obtain ⟨bs,rb⟩:=h2.reads I ry
  exact SeqAt.compareNe_shaped ra rb s1 s2 hu ⟨.bl _,H,I,rfl,q⟩
theorem Ma {A:Around} {k:Nat} (hr:Room k A):A.units + 64 < cLine:=hr.units
end
end L2
namespace L2
open PySem PySem.Spec PyProof.Rows
theorem Inv.turnedL {X:Cx} {pins:List (Addr × Obj)} {σ:St} {H:Hp} {s:Shared} {h':Heap} {t':Nat} {ch:List Addr} (I:Inv X pins σ H s) (k:∀ b o,b ∉ ch->s.heap.get? b=some o->h'.get? b=some o) (hf:∀ b ∈ ch,DP X pins H b):Inv X pins σ H { s with heap:=h',toks:=t' }:=by
  have nit:∀ b u,H b=some u->b ∉ ch:=fun b u e z=>by rw [(hf b z).1] at e; cases e
  refine I.step (g':=s.gens) (d':=s.drawn) (ch:=ch) (fun b hb=>⟨(hf b hb).2.2.2.1,(hf b hb).2.1,(hf b hb).2.2.2.2.1,(hf b hb).2.2.2.2.2⟩) (fun b o _ _ hc e _=>k b o hc e) (fun b o _ _ hc e _=>⟨o.slots,k b o hc e⟩) (fun _ _ _ _ n=>n)
    (fun b o hc e=>⟨o,k b o hc e⟩) (fun _ _ e=>e) (fun _ _ _ e=>e) (fun b ps e=>⟨#[],by rw [e]; simp⟩) (fun m hm=>?_) (fun b u e=>?_) I.bare
  . obtain ⟨o,es,ep,ho,r⟩:=hm
    exact ⟨o,es,ep,k _ o (fun z=>(hf _ z).2.1 rfl) ho,r⟩
  . refine (I.hok b u e).stay (fun c v hc q=>k c v ?_ q) (fun _ q=>q) fun _ _ q=>q
    rcases hc with z | z
    . rw [z]; exact nit b u e
    . exact nit c _ z
def ItP (K:PySem.W.Frag) (n:Nat) (src:Nat->List V) (Cond:PySem.W.Frag->Hp->Prop):It:=
  ⟨fun i H=>i < n /\ Cond K H,fun i H v H'=>∃ T,H T=none /\ v=.ref T /\ H'=upd H T (.tup (src i)),fun i H=>i=n /\ Cond K H⟩
theorem FZ {P:Program} {w:World} {K:PySem.W.Frag} {es:List Expr} {k0:Nat} {pos:Pos} {I0:Addr} {ι:Type} {fp wr:List Addr} {n:Nat} {src:Nat->List V} {good:ι->Prop} {Pt:ι->Nat->Array Value->Prop} {Sw:ι->Nat->Heap->Prop} {Mid:ι->Nat->Addr->Heap->Prop} {tn:Nat->Heap->Prop} {Cond:PySem.W.Frag->Hp->Prop}
    (W:∀ A:Around,A.handled=none->∀ z,good z->WalksT P w A I0 fp wr n (Pt z) (Sw z) (Mid z)) (hmem:I0 ∈ wr) (hPt:∀ z i vals,good z->Pt z i vals->Vals (src i) vals.toList) (hlen:∀ i,(src i).length <= sizeLine)
    (obj:∀ i h,tn i h->∀ b ∈ wr,∃ o,h.get? b=some o /\ ∀ v,o.data ≠ .cell v)
    (keep:∀ i h h',tn i h->(∀ b ∈ wr,∀ o,h.get? b=some o->h'.get? b=some o)->tn i h')
    (into:∀ (X:Cx) (pins:List (Addr × Obj)) (σ:St) (H:Hp) (s:Shared) (i:Nat),X.prog=P->X.w=w->X.K=K->Inv X pins σ H s->Cond K H->tn i s.heap->∃ z,good z /\ Sw z i s.heap) (out:∀ z i h,Sw z i h->tn i h)
    (self:∀ (A:Around) (i:Nat) (s:Shared) (Q:Value->Shared->Prop) (E:Value->Shared->Prop),tn i s.heap->Q (.ref I0) s->wpAny (model P w) A (pyIter (.ref I0)) Q E s) :
    Hl P w K (.Tuple es k0 pos) (ItP K n src Cond) wr I0 tn where
  mem:=hmem
  obj:=obj
  keep:=keep
  item:=by
    intro X hP hw hK hc i pins s σ H E I hf st hg
    obtain ⟨hi,hcond⟩:=hg
    obtain ⟨z,gz,sz⟩:=into X pins σ H s i hP hw hK I hcond st
    have W':=W X.A (I.ok.hd hc) z gz
    refine W'.item i s _ _ hi sz fun T vals h' tk hp hT ht hm kk=>⟨_,rfl,?_⟩
    have I1:Inv X pins σ H { s with heap:=h',toks:=tk }:=I.turnedL kk hf
    refine W'.go es k0 pos i T _ _ _ hm fun h2 st2 kk2=>?_
    have I2:Inv X pins σ H { s with heap:=h2,toks:=tk }:=I1.turnedL (t':=tk) kk2 hf
    have hn:H T=none:=I.hok.fresh hT
    have ht2:IsTup h2 T vals:=by
      obtain ⟨o,e,r⟩:=ht
      exact ⟨o,kk2 T o (W'.apart i T _ hm) e,r⟩
    refine ⟨.ref T,upd H T (.tup (src i)),I2.track (I.fpOk hT hn) ⟨hlen i,vals.toList,hPt z i vals gz hp,by simpa using ht2⟩,rfl,⟨T,hn,rfl,rfl⟩,out z _ _ st2,fun b hb=>?_⟩
    have hbT:b ≠ T:=fun z=>W'.apart i T _ hm (by rw [← z]; exact hb)
    rw [Al hbT]
    exact (hf b hb).1
  done:=by
    intro X hP hw hK hc i pins s σ H E I hf st hg
    obtain ⟨hi,hcond⟩:=hg
    subst hi
    obtain ⟨z,gz,sz⟩:=into X pins σ H s i hP hw hK I hcond st
    exact (W X.A (I.ok.hd hc) z gz).done s _ _ sz fun h' tk kk=>⟨rfl,I.turnedL kk hf⟩
  self:=self
def ET (xs:List V) (i:Nat):List V:=[.int i,xs.getD i .non]
theorem Jv {xs:List V} {its:List Value} (r:Vals xs its) {i:Nat} {vals:Array Value} (h:∃ t x,its.toArray[i]? = some x /\ vals = #[.int i t,x]):Vals (ET xs i) vals.toList:=by
  obtain ⟨t,x,hx,rfl⟩:=h
  have hx':its[i]? = some x:=by simpa using hx
  have hlt:i < its.length:=(List.getElem?_eq_some_iff.mp hx').1
  have hl:=r.length
  have hv:xs[i]? = some (xs.getD i .non):=by
    rw [List.getElem?_eq_getElem (by omega)]
    simp [List.getD,show i < xs.length by omega]
  obtain ⟨u,hu,ru⟩:=r.get hv
  rw [hx'] at hu; cases hu
  exact .cons ⟨t,rfl⟩ (.cons ru .nil)
theorem Pk {P:Program} {w:World} {e it:Addr} {f:Nat->Heap->Prop} (A:Around) (i:Nat) (s:Shared) (Q:Value->Shared->Prop) (E:Value->Shared->Prop) (st:(∃ old,IsEnum s.heap e it i old) /\ f i s.heap) (h:Q (.ref e) s):wpAny (model P w) A (pyIter (.ref e)) Q E s:=by
  obtain ⟨⟨old,he⟩,_⟩:=st
  exact wpAny_pyIter_enum he h
theorem SB {e it:Addr} {h:Heap} {i:Nat} {o:Obj} (he:∃ old,IsEnum h e it i old) (ho:h.get? it=some o) (hd:∃ vs,o.data=.fields vs):∀ b ∈ [e,it],∃ o,h.get? b=some o /\ ∀ v,o.data ≠ .cell v:=fun b hb=>by
  rcases List.mem_cons.mp hb with z | z
  . subst z
    obtain ⟨old,he⟩:=he
    exact ⟨_,he,fun v q=>by cases q⟩
  . rw [List.mem_singleton.mp z]
    obtain ⟨vs,hd⟩:=hd
    exact ⟨o,ho,fun v q=>by rw [hd] at q; cases q⟩
end L2
namespace L2
open PySem PySem.Spec PyProof.Rows
open AutoSeq1 (wpAny_loadPart')
section
variable {X:Cx} {es:List Expr} {k0:Nat} {tpos:Pos}
theorem Ls:bootBuiltins "enumerate" = some (.type "enumerate"):=by decide +kernel
theorem Qn {pins:List (Addr × Obj)} {σ:St} {H:Hp} {s:Shared} (I:Inv X pins σ H s):∀ b ∈ [s.heap.objs.size + 1,s.heap.objs.size],DP X pins H b:=fun b hb=>by
  have hb':b=s.heap.objs.size + 1 ∨ b=s.heap.objs.size:=by simpa using hb
  rcases hb' with e | e <;> subst e
  . exact I.fpOk (Nat.le_succ _) (I.hok.fresh (Nat.le_succ _))
  . exact I.fpOk (Nat.le_refl _) (I.hok.fresh (Nat.le_refl _))
end
end L2
namespace L2
open PySem PySem.Spec PyProof.Rows
def KGet (P:Params) (K:PySem.W.Frag) (a:Addr) (y:V) (r:Option V):Prop:=
  ∃ x es n r',y=.str x /\ K.lookup a=some ⟨.type "dict",none,.dict es n,#[]⟩ /\ PySem.W.KeysLit P es.toList /\ PySem.W.nsIn K a x=some r' /\ RelO r r' /\ (a == sysModules)=false
section
variable {X:Cx} {pins:List (Addr × Obj)} {σ:St} {H:Hp} {s:Shared} {a:Addr} {y v:V} {u r:Value} {o:Option V} {A:Around} {E:Value->Shared->Prop}
theorem KGet.typeIs (I:Inv X pins σ H s) (g:KGet X.w.params X.K a y o):s.TypeIs (.ref a) "dict" := by
  obtain ⟨x,es,n,r',_,hl,_⟩:=g
  exact ⟨_,I.kIn a _ hl,rfl⟩
theorem Lf {Q:Value->Shared->Prop} (I:Inv X pins σ H s) (g:KGet X.w.params X.K a y (some v)) (ry:RelV y u) (h:∀ w' s',Inv X pins σ H s'->RelV v w'->Q w' s') :
    wpAny (model X.prog X.w) A (getItem (.ref a) u) Q E s:=by
  obtain ⟨x,es,n,r',e,hl,hk,hn,ro,_⟩:=g
  subst e
  obtain ⟨t,rfl⟩:=ry
  obtain ⟨w',rfl,rw'⟩:=RelO.some_of ro
  exact wpAny_getItem_of (strKind_is X.prog X.w x t) (PySem.W.mapOf_K (prog:=X.prog) (fun a o q=>I.kIn a o q) hl hk) (PySem.W.find_K hl hn) (h w' _ (I.tok _) rw')
end
def Sc (P:Params) (K:PySem.W.Frag) (td ty:TE):TE:=fun σ H Q=>td σ H fun x H1=>ty σ H1 fun y H2=>∃ a v,x=.ref a /\ KGet P K a y (some v) /\ Q v H2
section
variable {X:Cx} {o i e value:Expr} {pos pos' tpos:Pos} {td ty tv:TE}
theorem O9 (ho:PE X o td) (hi:PE X i ty) (hs:SK i):PE X (.Subscript o i pos) (Sc X.w.params X.K td ty):=by
  intro pins s σ H Q I h
  refine OQ PySem.F.slot_dict_getitem.lookup hs (thn (ho pins s σ H _ I h) fun u s1 ⟨x,H1,I1,rx,q1⟩=>thn (hi pins s1 σ H1 _ I1 q1) fun iv s2 ⟨y,H2,I2,ry,a,v,ex,g,q2⟩=>?_)
  subst ex
  obtain rfl:u=Value.ref a:=rx
  exact ⟨g.typeIs I2,Lf I2 g ry fun w' s3 I3 rw'=>⟨v,H2,I3,rw',q2⟩⟩
end
end L2
namespace L2
open PySem PySem.Spec PyProof.Rows
section
variable {X:Cx} {value e e2:Expr} {es:List Expr} {pos:Pos} {tv t t2:TE} {ts:List TE}
end
end L2
namespace Nk
open PySem PySem.Spec PyProof.Rows
inductive NK where
  | int (i:Int) | tup (ks:List NK)
noncomputable instance:DecidableEq NK:=fun _ _=>Classical.propDecidable _
mutual
def NK.hash:NK->Int
  | .int i=>hashInt i
  | .tup ks=>reduceHash (Builtin.Tuple.tupleHashOf (NK.hashes ks))
def NK.hashes:List NK->List Int
  | []=>[]
  | k :: ks=>NK.hash k :: NK.hashes ks
end
section
variable {prog:Program} {w:World} {A:Around} {E:Value->Shared->Prop} {s:Shared}
end
end Nk
namespace Nk
open PySem PySem.Spec PyProof.Rows PySem.MeetsSeq PySem.SeqAt
section
variable {prog:Program} {w:World}
end
abbrev Cs:=Int × Int × List Int
def csK (c:Cs):NK:=.tup [.int c.1,.int c.2.1,.tup (c.2.2.map NK.int)]
open L2 in
def Tl (p:Addr) (l:List (Cs × Addr × V)):HO:=.ext fun h=>∃ (us:List Value) (o:Obj) (es:Array DictEntry) (ep:Nat),Vals (l.map (·.2.2)) us /\ h.get? p=some o /\ o.ExactDict /\ o.data=.dict es ep /\
  es.toList=(l.zip us).map (fun x=>{ key:=.ref x.1.2.1,hash:=(csK x.1.1).hash,val:=x.2 }) /\ (l.map (·.1)).Nodup /\ l.length <= sizeLine /\ (p == sysModules)=false
end Nk
namespace Mi
open PySem L2 Nk
inductive D where
  | non | bl (b:Bool) | int (i:Int) | str (x:Str) | ty (n:String) | scr (ns:List Int) | tup (xs:List D) | lst (xs:List D) | ref (n:Nat)
inductive MO where
  | lst (xs:List D) | dK (kvs:List (Key × D)) | dC (kvs:List (Cs × D)) | ins (c:Str) (fs:List (Str × D))
abbrev Mh:=List MO
abbrev M (α:Type):=Mh->Option (α × Mh)
abbrev Sl:=List (Option D)
def ret {α:Type} (a:α):M α:=fun μ=>some (a,μ)
def bnd {α β:Type} (m:M α) (f:α->M β):M β:=fun μ=>match m μ with
  | some (a,μ1)=>f a μ1
  | none=>none
def BC {α:Type}:M α:=fun _=>none
theorem AF {α β:Type} {m:M α} {f:α->M β} {μ:Mh} {r:β × Mh} (h:bnd m f μ=some r):∃ a μ1,m μ=some (a,μ1) /\ f a μ1=some r:=by
  unfold bnd at h
  cases e:m μ with
  | none=>rw [e] at h; cases h
  | some p=>obtain ⟨a,μ1⟩:=p; rw [e] at h; exact ⟨a,μ1,rfl,h⟩
@[simp] theorem Tt {α β:Type} (a:α) (f:α->M β):bnd (ret a) f=f a:=rfl
theorem A4 {α β:Type} {m:M α} {f:α->M β} {μ μ1:Mh} {a:α} (h:m μ=some (a,μ1)):bnd m f μ=f a μ1:=by unfold bnd; rw [h]
def ScrAt (K:PySem.W.Frag) (H:Hp) (a:Addr) (xs:List V):Prop:=
  (∃ o,H a=some (.frz o (.lst xs))) ∨ ∃ (o:Obj) (its:Array Value) (n:Nat),K.lookup a=some o /\ o.cls=.type "list" /\ o.dict=none /\ o.data=.seq its n /\ its.size <= sizeLine /\ Vals xs its.toList
theorem ScrAt.sq {K:PySem.W.Frag} {H:Hp} {a:Addr} {xs:List V} (h:ScrAt K H a xs):SqL K H a xs:=h.elim (fun z=>.inl (.inr z)) .inr
mutual
def Is (K:PySem.W.Frag) (ι:Nat->Addr) (k:Nat) (H:Hp):D->V->Prop
  | .non,v=>v=.non
  | .bl b,v=>v=.bl b
  | .int i,v=>v=.int i
  | .str x,v=>v=.str x
  | .ty n,v=>v=.ty n
  | .scr ns,v=>∃ p,v=.ref p /\ ScrAt K H p (ns.map V.int)
  | .tup ds,v=>∃ p vs,v=.ref p /\ SqT K H p vs /\ IsL K ι k H ds vs
  | .lst ds,v=>∃ p vs,v=.ref p /\ H p=some (.lst vs) /\ (∀ n,n < k->ι n ≠ p) /\ IsL K ι k H ds vs
  | .ref n,v=>n < k /\ v=.ref (ι n)
def IsL (K:PySem.W.Frag) (ι:Nat->Addr) (k:Nat) (H:Hp):List D->List V->Prop
  | [],vs=>vs=[]
  | d :: ds,vs=>∃ v vs',vs=v :: vs' /\ Is K ι k H d v /\ IsL K ι k H ds vs'
end
section
variable {K:PySem.W.Frag} {ι ι' ι2:Nat->Addr} {k k' k2:Nat} {H H' H2:Hp}
theorem IsL.length:∀ {ds:List D} {vs:List V},IsL K ι k H ds vs->vs.length=ds.length
  | [],_,h=>by unfold IsL at h; subst h; rfl
  | _ :: _,_,h=>by
    unfold IsL at h
    obtain ⟨v,vs',rfl,_,h⟩:=h
    simp only [List.length_cons,IsL.length h]
theorem IsL.get:∀ {ds:List D} {vs:List V} {i:Nat} {d:D},IsL K ι k H ds vs->ds[i]? = some d->∃ v,vs[i]? = some v /\ Is K ι k H d v
  | [],_,_,_,_,e=>by simp at e
  | _ :: _,_,0,_,h,e=>by
    unfold IsL at h
    obtain ⟨v,vs',rfl,h1,_⟩:=h
    simp at e; subst e
    exact ⟨v,rfl,h1⟩
  | _ :: _,_,i + 1,d,h,e=>by
    unfold IsL at h
    obtain ⟨v,vs',rfl,_,h⟩:=h
    obtain ⟨u,e1,e2⟩:=IsL.get (i:=i) (d:=d) h (by simpa using e)
    exact ⟨u,by simpa using e1,e2⟩
theorem IsL.append:∀ {ds es:List D} {vs us:List V},IsL K ι k H ds vs->IsL K ι k H es us->IsL K ι k H (ds ++ es) (vs ++ us)
  | [],_,_,_,h,q=>by unfold IsL at h; subst h; exact q
  | _ :: _,_,_,_,h,q=>by
    unfold IsL at h
    obtain ⟨v,vs',rfl,h1,h⟩:=h
    show IsL K ι k H (_ :: (_ ++ _)) _
    unfold IsL
    exact ⟨v,_,rfl,h1,IsL.append h q⟩
theorem IsL.take:∀ (n:Nat) {ds:List D} {vs:List V},IsL K ι k H ds vs->IsL K ι k H (ds.take n) (vs.take n)
  | 0,ds,vs,_=>by rw [List.take_zero,List.take_zero]; unfold IsL; rfl
  | n + 1,[],_,h=>by unfold IsL at h; subst h; simp only [List.take_nil]; unfold IsL; rfl
  | n + 1,_ :: _,_,h=>by
    unfold IsL at h
    obtain ⟨v,vs',rfl,h1,h⟩:=h
    simp only [List.take_succ_cons]
    unfold IsL
    exact ⟨v,_,rfl,h1,IsL.take n h⟩
theorem IsL.drop:∀ (n:Nat) {ds:List D} {vs:List V},IsL K ι k H ds vs->IsL K ι k H (ds.drop n) (vs.drop n)
  | 0,_,_,h=>h
  | n + 1,[],_,h=>by unfold IsL at h; subst h; simp only [List.drop_nil]; unfold IsL; rfl
  | n + 1,_ :: _,_,h=>by
    unfold IsL at h
    obtain ⟨v,vs',rfl,h1,h⟩:=h
    simp only [List.drop_succ_cons]
    exact IsL.drop n h
theorem IsL.cons {d:D} {ds:List D} {v:V} {vs:List V} (h:Is K ι k H d v) (t:IsL K ι k H ds vs):IsL K ι k H (d :: ds) (v :: vs):=by
  unfold IsL
  exact ⟨v,vs,rfl,h,t⟩
theorem IsL.nil:IsL K ι k H [] []:=by unfold IsL; rfl
theorem IsL.one {d:D} {v:V} (h:Is K ι k H d v):IsL K ι k H [d] [v]:=.cons h .nil
theorem IsL.reverse:∀ {ds:List D} {vs:List V},IsL K ι k H ds vs->IsL K ι k H ds.reverse vs.reverse
  | [],_,h=>by unfold IsL at h; subst h; exact .nil
  | _ :: _,_,h=>by
    unfold IsL at h
    obtain ⟨v,vs',rfl,h1,h⟩:=h
    rw [List.reverse_cons,List.reverse_cons]
    exact (IsL.reverse h).append (.one h1)
theorem IsL.set {d:D} {v:V} (h1:Is K ι k H d v):∀ {ds:List D} {vs:List V} (i:Nat),IsL K ι k H ds vs->IsL K ι k H (ds.set i d) (vs.set i v)
  | [],_,_,h=>by unfold IsL at h; subst h; exact .nil
  | _ :: _,_,0,h=>by
    unfold IsL at h
    obtain ⟨v,vs',rfl,_,h⟩:=h
    exact .cons h1 h
  | _ :: _,_,i + 1,h=>by
    unfold IsL at h
    obtain ⟨v,vs',rfl,h0,h⟩:=h
    exact .cons h0 (IsL.set h1 i h)
theorem IsL.ofInts:∀ (ns:List Int),IsL K ι k H (ns.map D.int) (ns.map V.int)
  | []=>.nil
  | n :: r=>.cons (by unfold Is; rfl) (IsL.ofInts r)
def NS:HO->Bool
  | .lst _=>true
  | .dK _=>true
  | .ext _=>true
  | .ins _ _ _=>true
  | _=>false
def Muts (ι:Nat->Addr) (k:Nat) (H:Hp):Prop:=∀ n,n < k->∃ o,H (ι n)=some o /\ NS o=true
structure Ext (ι:Nat->Addr) (k:Nat) (H:Hp) (ι':Nat->Addr) (k':Nat) (H':Hp):Prop where
  le:k <= k'
  agree:∀ n,n < k->ι' n=ι n
  fresh:∀ n,k <= n->n < k'->H (ι' n)=none
  keep:∀ p o,H p=some o->(∀ n,n < k->ι n ≠ p)->H' p=some o
  was:Muts ι k H
  there:Muts ι k H'
theorem Ext.refl (h:Muts ι k H):Ext ι k H ι k H:=⟨Nat.le_refl _,fun _ _=>rfl,fun n h1 h2=>absurd h1 (by omega),fun _ _ e _=>e,h,h⟩
theorem Ext.trans (a:Ext ι k H ι' k' H') (b:Ext ι' k' H' ι2 k2 H2):Ext ι k H ι2 k2 H2 where
  le:=Nat.le_trans a.le b.le
  agree:=fun n h=>(b.agree n (Nat.lt_of_lt_of_le h a.le)).trans (a.agree n h)
  fresh:=fun n h1 h2=>by
    rcases Nat.lt_or_ge n k' with z | z
    . rw [b.agree n z]; exact a.fresh n h1 z
    . have q:=b.fresh n z h2
      cases e:H (ι2 n) with
      | none=>rfl
      | some o=>
        by_cases hx:∃ m,m < k /\ ι m=ι2 n
        . obtain ⟨m,hm,e2⟩:=hx
          obtain ⟨o',q',_⟩:=a.there m hm
          rw [e2,q] at q'; cases q'
        . have:=a.keep _ o e (fun m hm e2=>hx ⟨m,hm,e2⟩)
          rw [q] at this; cases this
  keep:=fun p o e hn=>b.keep p o (a.keep p o e hn) (fun n hlt e2=>by
    rcases Nat.lt_or_ge n k with z | z
    . rw [a.agree n z] at e2; exact hn n z e2
    . have:=a.fresh n z hlt
      rw [e2,e] at this; cases this)
  was:=a.was
  there:=fun n h=>by
    have:=b.there n (Nat.lt_of_lt_of_le h a.le)
    rw [a.agree n h] at this; exact this
theorem Ext.out (a:Ext ι k H ι' k' H') {p:Addr} {o:HO} (e:H p=some o) (hn:∀ n,n < k->ι n ≠ p):∀ n,n < k'->ι' n ≠ p:=fun n h e2=>by
  rcases Nat.lt_or_ge n k with z | z
  . rw [a.agree n z] at e2; exact hn n z e2
  . have:=a.fresh n z h
    rw [e2,e] at this; cases this
theorem Muts.ne (a:Muts ι k H) {p:Addr} {o:HO} (e:H p=some o) (hm:NS o=false):∀ n,n < k->ι n ≠ p:=fun n hn e2=>by
  obtain ⟨o',q,h⟩:=a n hn
  rw [e2,e] at q; cases q
  rw [hm] at h; cases h
theorem EA {p:Addr} {vs:List V} (a:Ext ι k H ι' k' H') (h:SqT K H p vs):SqT K H' p vs:=by
  rcases h with h | h
  . rcases h with h | ⟨o,h⟩
    . exact .inl (.inl (a.keep p _ h (a.was.ne h rfl)))
    . exact .inl (.inr ⟨o,a.keep p _ h (a.was.ne h rfl)⟩)
  . exact .inr h
theorem KM {p:Addr} {vs:List V} (a:Ext ι k H ι' k' H') (h:ScrAt K H p vs):ScrAt K H' p vs:=by
  rcases h with ⟨o,h⟩ | h
  . exact .inl ⟨o,a.keep p _ h (a.was.ne h rfl)⟩
  . exact .inr h
mutual
theorem Is.ext (a:Ext ι k H ι' k' H'):∀ {d:D} {v:V},Is K ι k H d v->Is K ι' k' H' d v
  | .non,_,h=>by unfold Is at h ⊢; exact h
  | .bl _,_,h=>by unfold Is at h ⊢; exact h
  | .int _,_,h=>by unfold Is at h ⊢; exact h
  | .str _,_,h=>by unfold Is at h ⊢; exact h
  | .ty _,_,h=>by unfold Is at h ⊢; exact h
  | .scr ns,_,h=>by
    unfold Is at h ⊢
    obtain ⟨p,rfl,h⟩:=h
    exact ⟨p,rfl,KM a h⟩
  | .tup ds,_,h=>by
    unfold Is at h ⊢
    obtain ⟨p,vs,rfl,h1,h2⟩:=h
    exact ⟨p,vs,rfl,EA a h1,IsL.ext a h2⟩
  | .lst ds,_,h=>by
    unfold Is at h ⊢
    obtain ⟨p,vs,rfl,h1,hn,h2⟩:=h
    exact ⟨p,vs,rfl,a.keep p _ h1 hn,a.out h1 hn,IsL.ext a h2⟩
  | .ref n,_,h=>by
    unfold Is at h ⊢
    obtain ⟨h,rfl⟩:=h
    exact ⟨Nat.lt_of_lt_of_le h a.le,by rw [a.agree n h]⟩
theorem IsL.ext (a:Ext ι k H ι' k' H'):∀ {ds:List D} {vs:List V},IsL K ι k H ds vs->IsL K ι' k' H' ds vs
  | [],_,h=>by unfold IsL at h ⊢; exact h
  | _ :: _,_,h=>by
    unfold IsL at h ⊢
    obtain ⟨v,vs',rfl,h1,h2⟩:=h
    exact ⟨v,vs',rfl,Is.ext a h1,IsL.ext a h2⟩
end
def KVs (K:PySem.W.Frag) (ι:Nat->Addr) (k:Nat) (H:Hp):List (Key × D)->List (Key × V)->Prop
  | [],r=>r=[]
  | (y,d) :: l,r=>∃ v r',r=(y,v) :: r' /\ Is K ι k H d v /\ KVs K ι k H l r'
theorem KVs.ext (a:Ext ι k H ι' k' H'):∀ {l:List (Key × D)} {r:List (Key × V)},KVs K ι k H l r->KVs K ι' k' H' l r
  | [],_,h=>h
  | (_,_) :: _,_,h=>by
    obtain ⟨v,r',rfl,h1,h2⟩:=h
    exact ⟨v,r',rfl,h1.ext a,h2.ext a⟩
def csD (c:Cs):D:=.tup [.int c.1,.int c.2.1,.tup (c.2.2.map D.int)]
def CVs (K:PySem.W.Frag) (ι:Nat->Addr) (k:Nat) (H:Hp):List (Cs × D)->List (Cs × Addr × V)->Prop
  | [],r=>r=[]
  | (y,d) :: l,r=>∃ a v r',r=(y,a,v) :: r' /\ Is K ι k H (csD y) (.ref a) /\ Is K ι k H d v /\ CVs K ι k H l r'
theorem CVs.ext (a:Ext ι k H ι' k' H'):∀ {l:List (Cs × D)} {r:List (Cs × Addr × V)},CVs K ι k H l r->CVs K ι' k' H' l r
  | [],_,h=>h
  | (_,_) :: _,_,h=>by
    obtain ⟨b,v,r',rfl,h1,h2,h3⟩:=h
    exact ⟨b,v,r',rfl,h1.ext a,h2.ext a,h3.ext a⟩
def FVs (K:PySem.W.Frag) (ι:Nat->Addr) (k:Nat) (H:Hp):List (Str × D)->List (Str × V)->Prop
  | [],r=>r=[]
  | (y,d) :: l,r=>∃ v r',r=(y,v) :: r' /\ Is K ι k H d v /\ FVs K ι k H l r'
theorem FVs.ext (a:Ext ι k H ι' k' H'):∀ {l:List (Str × D)} {r:List (Str × V)},FVs K ι k H l r->FVs K ι' k' H' l r
  | [],_,h=>h
  | (_,_) :: _,_,h=>by
    obtain ⟨v,r',rfl,h1,h2⟩:=h
    exact ⟨v,r',rfl,h1.ext a,h2.ext a⟩
def ClsAt (K:PySem.W.Frag) (c:Str) (C:Addr):Prop:=PySem.W.nsIn K mainGlobals c=some (some (.ref C))
def ObjIs (K:PySem.W.Frag) (ι:Nat->Addr) (k:Nat) (H:Hp) (p:Addr):MO->HO->Prop
  | .lst ds,o=>∃ vs,o=.lst vs /\ IsL K ι k H ds vs
  | .dK l,o=>∃ r,o=.dK r /\ KVs K ι k H l r
  | .dC l,o=>∃ r,o=Tl p r /\ CVs K ι k H l r
  | .ins c l,o=>∃ C dx r,o=.ins C dx r /\ ClsAt K c C /\ H dx=some (.own p) /\ FVs K ι k H l r
structure RelH (K:PySem.W.Frag) (ι:Nat->Addr) (μ:Mh) (H:Hp):Prop where
  inj:∀ i j,i < μ.length->j < μ.length->ι i=ι j->i=j
  obj:∀ n o,μ[n]? = some o->∃ u,H (ι n)=some u /\ ObjIs K ι μ.length H (ι n) o u
theorem ObjIs.mut {p:Addr} {o:MO} {u:HO} (h:ObjIs K ι k H p o u):NS u=true:=by
  cases o with
  | lst ds=>obtain ⟨vs,rfl,_⟩:=h; rfl
  | dK l=>obtain ⟨r,rfl,_⟩:=h; rfl
  | dC l=>obtain ⟨r,rfl,_⟩:=h; rfl
  | ins c l=>obtain ⟨C,dx,r,rfl,_⟩:=h; rfl
theorem ObjIs.ext (a:Ext ι k H ι' k' H') {p:Addr} {o:MO} {u:HO} (h:ObjIs K ι k H p o u):ObjIs K ι' k' H' p o u:=by
  cases o with
  | lst ds=>obtain ⟨vs,rfl,h⟩:=h; exact ⟨vs,rfl,h.ext a⟩
  | dK l=>obtain ⟨r,rfl,h⟩:=h; exact ⟨r,rfl,h.ext a⟩
  | dC l=>obtain ⟨r,rfl,h⟩:=h; exact ⟨r,rfl,h.ext a⟩
  | ins c l=>obtain ⟨C,dx,r,rfl,h0,h1,h⟩:=h; exact ⟨C,dx,r,rfl,h0,a.keep dx _ h1 (a.was.ne h1 rfl),h.ext a⟩
theorem RelH.muts {μ:Mh} (r:RelH K ι μ H):Muts ι μ.length H:=fun n hn=>by
  obtain ⟨u,e,h⟩:=r.obj n μ[n] (by simp [hn])
  exact ⟨u,e,h.mut⟩
theorem RelH.ext0 {μ:Mh} (r:RelH K ι μ H):Ext ι μ.length H ι μ.length H:=Ext.refl r.muts
theorem RelH.laid {μ:Mh} (r:RelH K ι μ H) {p:Addr} (o:HO) (hp:H p=none):Ext ι μ.length H ι μ.length (upd H p o) /\ RelH K ι μ (upd H p o):=by
  have kp:∀ q u,H q=some u->upd H p o q=some u:=fun q u e=>by rw [Al (Bp e hp)]; exact e
  have a:Ext ι μ.length H ι μ.length (upd H p o):=⟨Nat.le_refl _,fun _ _=>rfl,fun n h1 h2=>absurd h1 (by omega),fun q u e _=>kp q u e,r.muts,fun n hn=>by
    obtain ⟨u,e,h⟩:=r.muts n hn
    exact ⟨u,kp _ _ e,h⟩⟩
  refine ⟨a,r.inj,fun n o' e=>?_⟩
  obtain ⟨u,e1,h⟩:=r.obj n o' e
  exact ⟨u,kp _ _ e1,h.ext a⟩
theorem RelH.grown {μ:Mh} (r:RelH K ι μ H) {p:Addr} {o:HO} {m:MO} (hp:H p=none) (h:ObjIs K ι μ.length H p m o) :
    ∃ ι',Ext ι μ.length H ι' (μ ++ [m]).length (upd H p o) /\ RelH K ι' (μ ++ [m]) (upd H p o) /\ ι' μ.length=p:=by
  have kp:∀ q u,H q=some u->upd H p o q=some u:=fun q u e=>by rw [Al (Bp e hp)]; exact e
  let ι':Nat->Addr:=fun n=>if n=μ.length then p else ι n
  have e0:ι' μ.length=p:=if_pos rfl
  have e1:∀ n,n < μ.length->ι' n=ι n:=fun n hn=>if_neg (by omega)
  have a:Ext ι μ.length H ι' (μ ++ [m]).length (upd H p o):=⟨by simp,e1,fun n h1 h2=>by
      have:n=μ.length:=by simp at h2; omega
      rw [this,e0]; exact hp,fun q u e _=>kp q u e,r.muts,fun n hn=>by
    obtain ⟨u,e,h⟩:=r.muts n hn
    exact ⟨u,kp _ _ e,h⟩⟩
  refine ⟨ι',a,⟨fun i j hi hj e=>?_,fun n o' e=>?_⟩,e0⟩
  . simp at hi hj
    have old:∀ i,i < μ.length->ι' i ≠ p:=fun i hi e=>by
      obtain ⟨u,q,_⟩:=r.muts i hi
      rw [← e1 i hi,e,hp] at q; cases q
    rcases Nat.lt_or_ge i μ.length with zi | zi <;> rcases Nat.lt_or_ge j μ.length with zj | zj
    . rw [e1 i zi,e1 j zj] at e; exact r.inj i j zi zj e
    . have:j=μ.length:=by omega
      subst this; rw [e0] at e; exact absurd e (old i zi)
    . have:i=μ.length:=by omega
      subst this; rw [e0] at e; exact absurd e.symm (old j zj)
    . omega
  . rcases Nat.lt_or_ge n μ.length with z | z
    . rw [List.getElem?_append_left z] at e
      obtain ⟨u,q,hq⟩:=r.obj n o' e
      exact ⟨u,by rw [e1 n z]; exact kp _ _ q,by rw [e1 n z]; exact hq.ext a⟩
    . have hn:n=μ.length:=by
        have:=(List.getElem?_eq_some_iff.mp e).1
        simp at this; omega
      subst hn
      rw [List.getElem?_append_right (Nat.le_refl _),Nat.sub_self] at e
      simp at e; subst e
      exact ⟨o,by rw [e0,At],by rw [e0]; exact h.ext a⟩
theorem RelH.changed {μ:Mh} (r:RelH K ι μ H) {n:Nat} {o:HO} {m:MO} (hn:n < μ.length) (h:ObjIs K ι μ.length H (ι n) m o) :
    Ext ι μ.length H ι (μ.set n m).length (upd H (ι n) o) /\ RelH K ι (μ.set n m) (upd H (ι n) o):=by
  have ne:∀ i,i < μ.length->i ≠ n->ι i ≠ ι n:=fun i hi hne e=>hne (r.inj i n hi hn e)
  have a:Ext ι μ.length H ι (μ.set n m).length (upd H (ι n) o):=⟨by simp,fun _ _=>rfl,fun i h1 h2=>by simp at h2; omega,fun q u e hq=>by rw [Al (fun z=>hq n hn z.symm)]; exact e,r.muts,fun i hi=>by
    by_cases z:i=n
    . subst z; exact ⟨o,At,h.mut⟩
    . obtain ⟨u,e,hu⟩:=r.muts i hi
      exact ⟨u,by rw [Al (ne i hi z)]; exact e,hu⟩⟩
  refine ⟨a,fun i j hi hj=>r.inj i j (by simpa using hi) (by simpa using hj),fun i o' e=>?_⟩
  by_cases z:i=n
  . subst z
    rw [List.getElem?_set_self hn] at e
    cases e
    exact ⟨o,At,h.ext a⟩
  . rw [List.getElem?_set_ne (Ne.symm z)] at e
    have hi:i < μ.length:=(List.getElem?_eq_some_iff.mp e).1
    obtain ⟨u,q,hq⟩:=r.obj i o' e
    exact ⟨u,by rw [Al (ne i hi z)]; exact q,hq.ext a⟩
structure RelS (K:PySem.W.Frag) (ι:Nat->Addr) (k:Nat) (H:Hp) (τ:Sl) (σ:St):Prop where
  len:σ.length=τ.length
  get:∀ (i:Nat) (d:D),τ[i]? = some (some d)->∃ v,σ[i]? = some (some v) /\ Is K ι k H d v
theorem RelS.ext {τ:Sl} {σ:St} (a:Ext ι k H ι' k' H') (r:RelS K ι k H τ σ):RelS K ι' k' H' τ σ:=⟨r.len,fun i d e=>by
  obtain ⟨v,e1,h⟩:=r.get i d e
  exact ⟨v,e1,h.ext a⟩⟩
theorem RelS.set {τ:Sl} {σ:St} (r:RelS K ι k H τ σ) {d:D} {v:V} (i:Nat) (h:Is K ι k H d v):RelS K ι k H (τ.set i (some d)) (σ.set i (some v)):=⟨by simp [r.len],fun j e q=>by
  by_cases z:i=j
  . subst z
    have hi:i < τ.length:=by
      have:=(List.getElem?_eq_some_iff.mp q).1
      simpa using this
    rw [List.getElem?_set_self hi] at q
    cases q
    exact ⟨v,List.getElem?_set_self (by rw [r.len]; exact hi),h⟩
  . rw [List.getElem?_set_ne z] at q
    obtain ⟨u,e1,hu⟩:=r.get j e q
    exact ⟨u,by rw [List.getElem?_set_ne z]; exact e1,hu⟩⟩
end
end Mi
namespace Mi
open PySem L2
inductive Fl where
  | next | brk | cont | rt (d:D)
abbrev Aft (K:PySem.W.Frag) (ι:Nat->Addr) (μ:Mh) (H:Hp) (μ':Mh) (φ:(Nat->Addr)->Hp->Prop):Prop:=
  ∀ ι' H',Ext ι μ.length H ι' μ'.length H'->RelH K ι' μ' H'->φ ι' H'
def tE (K:PySem.W.Frag) (m:Sl->M D):TE:=fun σ H Q=>∃ ι μ τ d μ',RelH K ι μ H /\ RelS K ι μ.length H τ σ /\ m τ μ=some (d,μ') /\
  Aft K ι μ H μ' fun ι' H'=>∀ v,Is K ι' μ'.length H' d v->Q v H'
def tT (K:PySem.W.Frag) (m:Sl->M Bool):TT:=fun σ H Q=>∃ ι μ τ b μ',RelH K ι μ H /\ RelS K ι μ.length H τ σ /\ m τ μ=some (b,μ') /\
  Aft K ι μ H μ' fun _ H'=>Q b H'
def tL (K:PySem.W.Frag) (m:Sl->M (List D)):TA:=fun σ H Q=>∃ ι μ τ ds μ',RelH K ι μ H /\ RelS K ι μ.length H τ σ /\ m τ μ=some (ds,μ') /\
  Aft K ι μ H μ' fun ι' H'=>∀ vs,IsL K ι' μ'.length H' ds vs->Q vs H'
def FlP (K:PySem.W.Frag) (Dn:J5) (ι':Nat->Addr) (k:Nat) (H':Hp) (τ':Sl) (σ':St):Fl->Prop
  | .next=>Dn.nx σ' H'
  | .brk=>Dn.bk σ' H'
  | .cont=>Dn.ct σ' H'
  | .rt d=>∀ v,Is K ι' k H' d v->Dn.rt v H'
def tSt (K:PySem.W.Frag) (m:Sl->M (Fl × Sl)):TS:=fun Dn σ H=>∃ ι μ τ f τ' μ',RelH K ι μ H /\ RelS K ι μ.length H τ σ /\ m τ μ=some ((f,τ'),μ') /\
  Aft K ι μ H μ' fun ι' H'=>∀ σ',RelS K ι' μ'.length H' τ' σ'->FlP K Dn ι' μ'.length H' τ' σ' f
structure RE (X:Cx) (e:Expr) (m:Sl->M D):Prop where
  pe:PE X e (tE X.K m)
structure RT (X:Cx) (e:Expr) (m:Sl->M Bool):Prop where
  pe:PT X e (tT X.K m)
structure RW (X:Cx) (e:Expr) (m:Sl->M Bool):Prop where
  pe:PW X e (tT X.K m)
structure RA (X:Cx) (es:List Expr) (m:Sl->M (List D)):Prop where
  pe:PA X es (tL X.K m)
structure RS (X:Cx) (st:Stmt) (m:Sl->M (Fl × Sl)):Prop where
  pe:PS X st (tSt X.K m)
structure RSs (X:Cx) (st:List Stmt) (m:Sl->M (Fl × Sl)):Prop where
  pe:PSs X st (tSt X.K m)
section
variable {X:Cx} {e a b c:Expr} {es:List Expr} {pos:Pos}
theorem PE.wk {t t':TE} (h:PE X e t) (w:∀ σ H Q,t' σ H Q->t σ H Q):PE X e t':=fun pins s σ H Q I q=>h pins s σ H Q I (w σ H Q q)
theorem RE.wk {m:Sl->M D} {t:TE} (h:PE X e t) (w:∀ σ H Q,tE X.K m σ H Q->t σ H Q):RE X e m:=⟨PE.wk h w⟩
theorem PT.wk {t t':TT} (h:PT X e t) (w:∀ σ H Q,t' σ H Q->t σ H Q):PT X e t':=fun pins s σ H Q I q=>h pins s σ H Q I (w σ H Q q)
theorem RT.wk {m:Sl->M Bool} {t:TT} (h:PT X e t) (w:∀ σ H Q,tT X.K m σ H Q->t σ H Q):RT X e m:=⟨PT.wk h w⟩
theorem PW.wk {t t':TT} (h:PW X e t) (w:∀ σ H Q,t' σ H Q->t σ H Q):PW X e t':=fun wh pins s σ H Q I q=>h wh pins s σ H Q I (w σ H Q q)
theorem RW.wk {m:Sl->M Bool} {t:TT} (h:PW X e t) (w:∀ σ H Q,tT X.K m σ H Q->t σ H Q):RW X e m:=⟨PW.wk h w⟩
theorem PA.wk {t t':TA} (h:PA X es t) (w:∀ σ H Q,t' σ H Q->t σ H Q):PA X es t':=fun p pins s σ H Q I q=>h p pins s σ H Q I (w σ H Q q)
theorem RA.wk {m:Sl->M (List D)} {t:TA} (h:PA X es t) (w:∀ σ H Q,tL X.K m σ H Q->t σ H Q):RA X es m:=⟨PA.wk h w⟩
theorem PS.wk {st:Stmt} {t t':TS} (h:PS X st t) (w:∀ D σ H,t' D σ H->t D σ H):PS X st t':=fun pins s σ H D I q=>h pins s σ H D I (w D σ H q)
theorem RS.wk {m:Sl->M (Fl × Sl)} {st:Stmt} {t:TS} (h:PS X st t) (w:∀ D σ H,tSt X.K m D σ H->t D σ H):RS X st m:=⟨PS.wk h w⟩
theorem PSs.wk {st:List Stmt} {t t':TS} (h:PSs X st t) (w:∀ D σ H,t' D σ H->t D σ H):PSs X st t':=fun pins s σ H D I q=>h pins s σ H D I (w D σ H q)
theorem RSs.wk {m:Sl->M (Fl × Sl)} {st:List Stmt} {t:TS} (h:PSs X st t) (w:∀ D σ H,tSt X.K m D σ H->t D σ H):RSs X st m:=⟨PSs.wk h w⟩
theorem OpR.wk {f:Value->Value->Sem Value} {r r':R2} (h:OpR X f r) (w:∀ x y H Q,r' x y H Q->r x y H Q):OpR X f r':=fun pins s σ H x y v u Q I rx ry q=>h pins s σ H x y v u Q I rx ry (w x y H Q q)
def D4:Expr->Bool
  | .Starred _ _=>true
  | _=>false
theorem AY {e:Expr} {es:List Expr} {env:Env} (h:D4 e=false):starEach (e :: es) env=(false,eval e env) :: starEach es env:=by
  cases e <;> first | rfl | cases h
theorem BQ {pos:Pos} {env:Env}:∀ {es:List Expr},(es.all fun e=>!D4 e)=true->(backTo pos (starEach es env)).any (·.1)=false
  | [],_=>rfl
  | e :: es,h=>by
    rw [List.all_cons,Bool.and_eq_true] at h
    have h1:D4 e=false:=by simpa using h.1
    have ih:=BQ (pos:=pos) (env:=env) h.2
    rw [AY h1]
    unfold backTo at ih ⊢
    simpa using ih
def AC (i:Nat):Sl->M D:=fun τ μ=>match τ[i]? with
  | some (some d)=>some (d,μ)
  | _=>none
def mC (d:D):Sl->M D:=fun _=>ret d
theorem AA (i:Nat) {x:Str} (hN:X.N[i]? = some x:=by rfl) (hv:Vis X.env.scope x:=by first | exact Or.inl rfl | exact Or.inr (Or.inl rfl) | exact Or.inr (Or.inr rfl)) (hd:(x == ("__debug__" : Str))=false:=by decide)
    (hcd:(x == ("__classdict__" : Str))=false:=by decide):RE X (.Name x pos) (AC i):=RE.wk (RP hN hv hd hcd) fun σ H Q h=>by
  obtain ⟨ι,μ,τ,d,μ',R,S,e,q⟩:=h
  unfold AC at e
  split at e
  . rename_i d' ed
    cases e
    obtain ⟨v,e1,h1⟩:=S.get i _ ed
    exact ⟨v,e1,q ι H R.ext0 R v h1⟩
  . cases e
theorem LM {t:TE} {d:D} {v:V} (h:PE X e (tC v)) (hd:∀ ι k H,Is X.K ι k H d v):RE X e (mC d):=RE.wk h fun σ H Q h=>by
  obtain ⟨ι,μ,τ,d,μ',R,S,e,q⟩:=h
  cases e
  exact q ι H R.ext0 R v (hd _ _ _)
theorem AE {i j}:RE X (.Constant (.int i) j pos) (mC (.int i)):=LM (t:=fun _ _ _=>True) RY fun _ _ _=>by unfold Is; rfl
theorem KQ {i j}:RE X (.Constant (.bool i) j pos) (mC (.bl i)):=LM (t:=fun _ _ _=>True) TJ fun _ _ _=>by unfold Is; rfl
theorem HQ {j}:RE X (.Constant .none j pos) (mC .non):=LM (t:=fun _ _ _=>True) RX fun _ _ _=>by unfold Is; rfl
theorem AT {i j}:RE X (.Constant (.str i) j pos) (mC (.str i)):=LM (t:=fun _ _ _=>True) RU fun _ _ _=>by unfold Is; rfl
theorem Ol {x:Str} {v:V} {u:Value} {d:D} (hm:X.mg x=some u) (r:RelV v u) (hd:∀ ι k H,Is X.K ι k H d v) (hg:Gl X x:=by rfl) (hdb:(x == ("__debug__" : Str))=false:=by decide):RE X (.Name x pos) (mC d):=
  LM (t:=fun _ _ _=>True) (KY hg hm r hdb) hd
def mOp (g:D->D->M D) (ma mb:Sl->M D):Sl->M D:=fun τ=>bnd (ma τ) fun x=>bnd (mb τ) fun y=>g x y
def mUn (g:D->M D) (ma:Sl->M D):Sl->M D:=fun τ=>bnd (ma τ) g
def rM (K:PySem.W.Frag) (g:D->D->M D):R2:=fun x y H Q=>∃ ι μ a b d μ',RelH K ι μ H /\ Is K ι μ.length H a x /\ Is K ι μ.length H b y /\ g a b μ=some (d,μ') /\
  Aft K ι μ H μ' fun ι' H'=>∀ v,Is K ι' μ'.length H' d v->Q v H'
def rM1 (K:PySem.W.Frag) (g:D->M D):V->Hp->VK->Prop:=fun x H Q=>∃ ι μ a d μ',RelH K ι μ H /\ Is K ι μ.length H a x /\ g a μ=some (d,μ') /\
  Aft K ι μ H μ' fun ι' H'=>∀ v,Is K ι' μ'.length H' d v->Q v H'
def rMA (K:PySem.W.Frag) (g:List D->M D):List V->Hp->VK->Prop:=fun xs H Q=>∃ ι μ as d μ',RelH K ι μ H /\ IsL K ι μ.length H as xs /\ g as μ=some (d,μ') /\
  Aft K ι μ H μ' fun ι' H'=>∀ v,Is K ι' μ'.length H' d v->Q v H'
theorem KI {K:PySem.W.Frag} {g:D->D->M D} {ma mb:Sl->M D} {σ:St} {H:Hp} {Q:VK} (h:tE K (mOp g ma mb) σ H Q):tOp (rM K g) (tE K ma) (tE K mb) σ H Q:=by
  obtain ⟨ι,μ,τ,d,μ',R,S,e,q⟩:=h
  obtain ⟨x,μ1,e1,e⟩:=AF e
  obtain ⟨y,μ2,e2,e3⟩:=AF e
  refine ⟨ι,μ,τ,x,μ1,R,S,e1,fun ι1 H1 E1 R1 v1 i1=>?_⟩
  refine ⟨ι1,μ1,τ,y,μ2,R1,S.ext E1,e2,fun ι2 H2 E2 R2 v2 i2=>?_⟩
  exact ⟨ι2,μ2,x,y,d,μ',R2,i1.ext E2,i2,e3,fun ι3 H3 E3 R3 v3 i3=>q ι3 H3 ((E1.trans E2).trans E3) R3 v3 i3⟩
theorem Sd {K:PySem.W.Frag} {g:D->M D} {ma:Sl->M D} {σ:St} {H:Hp} {Q:VK} (h:tE K (mUn g ma) σ H Q):tUn (rM1 K g) (tE K ma) σ H Q:=by
  obtain ⟨ι,μ,τ,d,μ',R,S,e,q⟩:=h
  obtain ⟨x,μ1,e1,e⟩:=AF e
  refine ⟨ι,μ,τ,x,μ1,R,S,e1,fun ι1 H1 E1 R1 v1 i1=>?_⟩
  exact ⟨ι1,μ1,x,d,μ',R1,i1,e,fun ι3 H3 E3 R3 v3 i3=>q ι3 H3 (E1.trans E3) R3 v3 i3⟩
theorem AL {op:Operator} {g:D->D->M D} {ma mb:Sl->M D} (ho:OpR X (binaryOp op) (rM X.K g)) (ha:RE X a ma) (hb:RE X b mb):RE X (.BinOp a op b pos) (mOp g ma mb):=RE.wk (TD ho ha.pe hb.pe) fun _ _ _ h=>KI h
theorem IR {op:UnaryOp} {g:D->M D} {ma:Sl->M D} (ho:UnR X (unaryOp op) (rM1 X.K g)) (ha:RE X a ma):RE X (.UnaryOp op a pos) (mUn g ma):=RE.wk (TC ho ha.pe) fun _ _ _ h=>Sd h
theorem Mg {op:CmpOp} {g:D->D->M D} {ma mb:Sl->M D} (ho:OpR X (compareOp op) (rM X.K g)) (ha:RE X a ma) (hb:RE X b mb) (hm:behindInMarks op b=false:=by first | exact NB _ | rfl):RE X (.Compare a [op] [b] pos) (mOp g ma mb):=
  RE.wk (PC ho ha.pe hb.pe hm) fun _ _ _ h=>KI h
theorem AX {g:D->D->M D} {ma mb:Sl->M D} (ho:IxR X (rM X.K g)) (ha:RE X a ma) (hb:RE X b mb) (hs:Kz b:=by exact fun _ _=>rfl):RE X (.Subscript a b pos) (mOp g ma mb):=RE.wk (TF ho ha.pe hb.pe hs) fun _ _ _ h=>KI h
def asB:D->M Bool
  | .bl b=>ret b
  | _=>BC
def Ag (m:Sl->M D):Sl->M Bool:=fun τ=>bnd (m τ) asB
theorem KF {K:PySem.W.Frag} {m:Sl->M D} {σ:St} {H:Hp} {Q:Bool->Hp->Prop} (h:tT K (Ag m) σ H Q):tE K m σ H fun x H'=>∃ k,x=.bl k /\ Q k H':=by
  obtain ⟨ι,μ,τ,b,μ',R,S,e,q⟩:=h
  obtain ⟨x,μ1,e1,e⟩:=AF e
  refine ⟨ι,μ,τ,x,μ1,R,S,e1,fun ι1 H1 E1 R1 v1 i1=>?_⟩
  cases x with
  | bl k=>
    cases e
    unfold Is at i1
    exact ⟨b,i1,q ι1 H1 E1 R1⟩
  | _=>cases e
theorem Ae {op:CmpOp} {g:D->D->M D} {ma mb:Sl->M D} (ho:OpR X (compareOp op) (rM X.K g)) (ha:RE X a ma) (hb:RE X b mb) (hm:behindInMarks op b=false:=by first | exact NB _ | rfl):RT X (.Compare a [op] [b] pos) (Ag (mOp g ma mb)):=
  RT.wk (Oz ho ha.pe hb.pe hm) fun σ H Q h=>KI (Q:=fun x H'=>∃ k,x=.bl k /\ Q k H') (KF h)
theorem Qz {m:Sl->M D} (h:RE X e m) (he:∀ whole,isTrue e X.env whole=(do let v ← whole; standAt e.pos; holding [v] (truthy v)):=by intro _; rfl):RT X e (Ag m):=
  RT.wk (RC h.pe he) fun _ _ _ q=>KF q
def HZ (ma mb:Sl->M Bool):Sl->M Bool:=fun τ=>bnd (ma τ) fun x=>if x=true then mb τ else ret false
def mOr (ma mb:Sl->M Bool):Sl->M Bool:=fun τ=>bnd (ma τ) fun x=>if x=true then ret true else mb τ
def Rq (ma:Sl->M Bool):Sl->M Bool:=fun τ=>bnd (ma τ) fun x=>ret (!x)
theorem Q0 {ma:Sl->M Bool} (ha:RT X a ma):RT X (.UnaryOp .Not a pos) (Rq ma):=RT.wk (RD ha.pe) fun σ H Q h=>by
  obtain ⟨ι,μ,τ,b,μ',R,S,e,q⟩:=h
  obtain ⟨x,μ1,e1,e⟩:=AF e
  cases e
  exact ⟨ι,μ,τ,x,_,R,S,e1,q⟩
theorem Dg {ma:Sl->M Bool} (ha:RT X a ma):RW X (.BoolOp .And [a] pos) ma:=⟨Ov ha.pe⟩
theorem MX {ma:Sl->M Bool} (ha:RT X a ma):RW X (.BoolOp .Or [a] pos) ma:=⟨Q8 ha.pe⟩
theorem Ee {rest:List Expr} {ma mb:Sl->M Bool} (ha:RT X a ma) (hb:RW X (.BoolOp .And (b :: rest) pos) mb):RW X (.BoolOp .And (a :: b :: rest) pos) (HZ ma mb):=RW.wk (Q9 ha.pe hb.pe) fun σ H Q h=>by
  obtain ⟨ι,μ,τ,z,μ',R,S,e,q⟩:=h
  obtain ⟨x,μ1,e1,e⟩:=AF e
  refine ⟨ι,μ,τ,x,μ1,R,S,e1,fun ι1 H1 E1 R1=>?_⟩
  cases x with
  | true=>exact ⟨ι1,μ1,τ,z,μ',R1,S.ext E1,e,fun ι2 H2 E2 R2=>q ι2 H2 (E1.trans E2) R2⟩
  | false=>cases e; exact q ι1 H1 E1 R1
theorem P0 {rest:List Expr} {ma mb:Sl->M Bool} (ha:RT X a ma) (hb:RW X (.BoolOp .Or (b :: rest) pos) mb):RW X (.BoolOp .Or (a :: b :: rest) pos) (mOr ma mb):=RW.wk (S7 ha.pe hb.pe) fun σ H Q h=>by
  obtain ⟨ι,μ,τ,z,μ',R,S,e,q⟩:=h
  obtain ⟨x,μ1,e1,e⟩:=AF e
  refine ⟨ι,μ,τ,x,μ1,R,S,e1,fun ι1 H1 E1 R1=>?_⟩
  cases x with
  | true=>cases e; exact q ι1 H1 E1 R1
  | false=>exact ⟨ι1,μ1,τ,z,μ',R1,S.ext E1,e,fun ι2 H2 E2 R2=>q ι2 H2 (E1.trans E2) R2⟩
theorem RW.rt {m:Sl->M Bool} (h:RW X e m):RT X e m:=⟨h.pe.pt⟩
def mIf (mc:Sl->M Bool) (ma mb:Sl->M D):Sl->M D:=fun τ=>bnd (mc τ) fun x=>if x=true then ma τ else mb τ
theorem Sm {mc:Sl->M Bool} {ma mb:Sl->M D} (hc:RT X c mc) (ha:RE X a ma) (hb:RE X b mb):RE X (.IfExp c a b pos) (mIf mc ma mb):=RE.wk (M1 hc.pe ha.pe hb.pe) fun σ H Q h=>by
  obtain ⟨ι,μ,τ,z,μ',R,S,e,q⟩:=h
  obtain ⟨x,μ1,e1,e⟩:=AF e
  refine ⟨ι,μ,τ,x,μ1,R,S,e1,fun ι1 H1 E1 R1=>?_⟩
  cases x with
  | true=>exact ⟨ι1,μ1,τ,z,μ',R1,S.ext E1,e,fun ι2 H2 E2 R2=>q ι2 H2 (E1.trans E2) R2⟩
  | false=>exact ⟨ι1,μ1,τ,z,μ',R1,S.ext E1,e,fun ι2 H2 E2 R2=>q ι2 H2 (E1.trans E2) R2⟩
def AK:Sl->M (List D):=fun _=>ret []
def AD (m:Sl->M D) (r:Sl->M (List D)):Sl->M (List D):=fun τ=>bnd (m τ) fun x=>bnd (r τ) fun xs=>ret (x :: xs)
theorem AG:RA X [] AK:=RA.wk Dv fun σ H Q h=>by
  obtain ⟨ι,μ,τ,z,μ',R,S,e,q⟩:=h
  cases e
  exact q ι H R.ext0 R [] .nil
theorem AB {m:Sl->M D} {r:Sl->M (List D)} (h:RE X e m) (hr:RA X es r) (hs:starEach (e :: es) X.env=(false,eval e X.env) :: starEach es X.env:=by exact AY rfl):RA X (e :: es) (AD m r):=RA.wk (DC h.pe hr.pe hs) fun σ H Q h=>by
  obtain ⟨ι,μ,τ,z,μ',R,S,e,q⟩:=h
  obtain ⟨x,μ1,e1,e⟩:=AF e
  obtain ⟨xs,μ2,e2,e⟩:=AF e
  cases e
  exact ⟨ι,μ,τ,x,μ1,R,S,e1,fun ι1 H1 E1 R1 v1 i1=>⟨ι1,μ1,τ,xs,_,R1,S.ext E1,e2,fun ι2 H2 E2 R2 vs i2=>q ι2 H2 (E1.trans E2) R2 _ (.cons (i1.ext E2) i2)⟩⟩
def lim (n:Nat):M Unit:=fun μ=>if n <= sizeLine then some ((),μ) else none
theorem CK {n:Nat} {μ μ1:Mh} {u:Unit} (h:lim n μ=some (u,μ1)):n <= sizeLine /\ μ1=μ:=by
  unfold lim at h
  split at h
  . rename_i hn; cases h; exact ⟨hn,rfl⟩
  . cases h
theorem Ek {n:Nat} (h:n <= sizeLine) (μ:Mh):lim n μ=some ((),μ):=if_pos h
def A2 (ds:List D):M D:=bnd (lim ds.length) fun _=>ret (.tup ds)
def BA (ds:List D):M D:=bnd (lim ds.length) fun _=>ret (.lst ds)
def DW (ds:List D):M D:=bnd (lim ds.length) fun _=>fun μ=>some (.ref μ.length,μ ++ [.lst ds])
def AJ (f:List D->M D) (m:Sl->M (List D)):Sl->M D:=fun τ=>bnd (m τ) f
theorem Kd {K:PySem.W.Frag} {ι:Nat->Addr} {μ μ':Mh} {H:Hp} {ds:List D} {vs:List V} {d:D} {Q:VK} (R:RelH K ι μ H) (i:IsL K ι μ.length H ds vs) (e:A2 ds μ=some (d,μ')) (q:Aft K ι μ H μ' fun ι' H'=>∀ v,Is K ι' μ'.length H' d v->Q v H') :
    vs.length <= sizeLine /\ ∀ p,H p=none->Q (.ref p) (upd H p (.tup vs)):=by
  obtain ⟨u,μ1,e1,e2⟩:=AF e
  clear e
  obtain ⟨hl,e3⟩:=CK e1
  cases e2
  cases e3
  refine ⟨by rw [i.length]; exact hl,fun p hp=>?_⟩
  obtain ⟨E1,R1⟩:=R.laid (.tup vs) hp
  exact q ι _ E1 R1 _ (by unfold Is; exact ⟨p,vs,rfl,SqT.of At,i.ext E1⟩)
theorem CT {K:PySem.W.Frag} {ι:Nat->Addr} {μ μ':Mh} {H:Hp} {ds:List D} {vs:List V} {d:D} {Q:VK} (R:RelH K ι μ H) (i:IsL K ι μ.length H ds vs) (e:BA ds μ=some (d,μ')) (q:Aft K ι μ H μ' fun ι' H'=>∀ v,Is K ι' μ'.length H' d v->Q v H') :
    vs.length <= sizeLine /\ ∀ p,H p=none->Q (.ref p) (upd H p (.lst vs)):=by
  obtain ⟨u,μ1,e1,e2⟩:=AF e
  clear e
  obtain ⟨hl,e3⟩:=CK e1
  cases e2
  cases e3
  refine ⟨by rw [i.length]; exact hl,fun p hp=>?_⟩
  obtain ⟨E1,R1⟩:=R.laid (.lst vs) hp
  have ho:∀ n,n < μ.length->ι n ≠ p:=fun n hn z=>by
    obtain ⟨o,e,_⟩:=R.muts n hn
    rw [z,hp] at e; cases e
  exact q ι _ E1 R1 _ (by unfold Is; exact ⟨p,vs,rfl,At,ho,i.ext E1⟩)
theorem FP {K:PySem.W.Frag} {ι:Nat->Addr} {μ μ':Mh} {H:Hp} {ds:List D} {vs:List V} {d:D} {Q:VK} (R:RelH K ι μ H) (i:IsL K ι μ.length H ds vs) (e:DW ds μ=some (d,μ')) (q:Aft K ι μ H μ' fun ι' H'=>∀ v,Is K ι' μ'.length H' d v->Q v H') :
    vs.length <= sizeLine /\ ∀ p,H p=none->Q (.ref p) (upd H p (.lst vs)):=by
  obtain ⟨u,μ1,e1,e2⟩:=AF e
  clear e
  obtain ⟨hl,e3⟩:=CK e1
  cases e2
  cases e3
  refine ⟨by rw [i.length]; exact hl,fun p hp=>?_⟩
  obtain ⟨ι',E1,R1,e0⟩:=R.grown (m:=.lst ds) hp ⟨vs,rfl,i⟩
  exact q ι' _ E1 R1 _ (by unfold Is; exact ⟨by simp,by rw [e0]⟩)
theorem C7 {K:PySem.W.Frag} {f:List D->M D} {m:Sl->M (List D)} {σ:St} {H:Hp} {Q:VK} {R:List V->Hp->Prop} (h:tE K (AJ f m) σ H Q)
    (hf:∀ ι μ μ' H ds vs d,RelH K ι μ H->IsL K ι μ.length H ds vs->f ds μ=some (d,μ')->(Aft K ι μ H μ' fun ι' H'=>∀ v,Is K ι' μ'.length H' d v->Q v H')->R vs H):tL K m σ H R:=by
  obtain ⟨ι,μ,τ,z,μ',S1,S,e,q⟩:=h
  obtain ⟨ds,μ1,e1,e⟩:=AF e
  exact ⟨ι,μ,τ,ds,μ1,S1,S,e1,fun ι1 H1 E1 R1 vs iv=>hf ι1 μ1 μ' H1 ds vs z R1 iv e fun ι2 H2 E2 R2=>q ι2 H2 (E1.trans E2) R2⟩
theorem Ac {x1} {m:Sl->M (List D)} (h:RA X es m):RE X (.Tuple es x1 pos) (AJ A2 m):=RE.wk (RQ h.pe) fun _ _ _ q=>C7 q fun _ _ _ _ _ _ _ R i e q=>Kd R i e q
theorem BG {m:Sl->M (List D)} (h:RA X es m):RE X (.List es pos) (AJ BA m):=RE.wk (M0 h.pe) fun _ _ _ q=>C7 q fun _ _ _ _ _ _ _ R i e q=>CT R i e q
theorem C9 {m:Sl->M (List D)} (h:RA X es m):RE X (.List es pos) (AJ DW m):=RE.wk (M0 h.pe) fun _ _ _ q=>C7 q fun _ _ _ _ _ _ _ R i e q=>FP R i e q
theorem B2 {id:String} {x:Str} {g:List D->M D} {m:Sl->M (List D)} {p:Pos} (hc:B7 X (.builtin id) (rMA X.K g)) (hm:X.mg x=none) (hv:bootBuiltins x=some (.builtin id)) (ha:RA X (e :: es) m) (hg:Gl X x:=by rfl) (hn:x ≠ "__name__" := by decide) (hdb:(x == ("__debug__" : Str))=false:=by decide)
    (he:starEach (e :: es) X.env=(false,eval e X.env) :: starEach es X.env:=by exact AY rfl) (hpl:(backTo pos (starEach es X.env)).any (·.1)=false:=by exact BQ rfl):RE X (.Call (.Name x p) (e :: es) [] pos) (AJ g m):=
  RE.wk (Fv hc hg hm hv ha.pe hn hdb he hpl) fun _ _ _ q=>C7 q fun ι μ μ' H ds vs d R i e q=>⟨ι,μ,ds,d,μ',R,i,e,q⟩
theorem BX {T:String} {x:Str} {g:List D->M D} {m:Sl->M (List D)} {p:Pos} (hc:B7 X (.type T) (rMA X.K g)) (hm:X.mg x=none) (hv:bootBuiltins x=some (.type T)) (ha:RA X (e :: es) m) (hg:Gl X x:=by rfl) (hn:x ≠ "__name__" := by decide) (hdb:(x == ("__debug__" : Str))=false:=by decide)
    (he:starEach (e :: es) X.env=(false,eval e X.env) :: starEach es X.env:=by exact AY rfl) (hpl:(backTo pos (starEach es X.env)).any (·.1)=false:=by exact BQ rfl):RE X (.Call (.Name x p) (e :: es) [] pos) (AJ g m):=
  RE.wk (C0 hc hg hm hv ha.pe hn hdb he hpl) fun _ _ _ q=>C7 q fun ι μ μ' H ds vs d R i e q=>⟨ι,μ,ds,d,μ',R,i,e,q⟩
def spM (K:PySem.W.Frag) (n:Nat) (φ:List D->M D):Sp:=fun vs H Q _=>vs.length=n /\ rMA K φ vs H Q
theorem Om {n k:Nat} {φ:List D->M D} {f:Addr} {fd:FuncData} {ps:List Str} {x:Str} {m:Sl->M (List D)} {p:Pos} (F:FnOk X.prog X.w X.K X.mg X.base CX0 k f fd ps (spM X.K n φ)) (hr:Room k X.A) (hm:X.mg x=some (.ref f)) (hk:PySem.W.keepIn X.K (.ref f)=true) (hb:Binds X.K fd ps [])
    (hφ:∀ ds μ r,φ ds μ=some r->ds.length=n) (ha:RA X (e :: es) m) (hg:Gl X x:=by rfl) (hdb:(x == ("__debug__" : Str))=false:=by decide) (he:starEach (e :: es) X.env=(false,eval e X.env) :: starEach es X.env:=by exact AY rfl) (hpl:(backTo pos (starEach es X.env)).any (·.1)=false:=by exact BQ rfl) :
    RE X (.Call (.Name x p) (e :: es) [] pos) (AJ φ m):=
  RE.wk (PD F hr hg hm hk hb .nil P5 ha.pe hdb he hpl) fun _ _ _ q=>C7 q fun ι μ μ' H ds vs d R i e q=>by
    rw [List.append_nil]
    exact ⟨by rw [i.length]; exact hφ ds μ _ e,ι,μ,ds,d,μ',R,i,e,q⟩
end
end Mi
namespace Mi
open PySem L2
section
variable {X:Cx} {e a b c tg iter:Expr} {es:List Expr} {pos:Pos} {st:Stmt} {rest body:List Stmt}
def Bu:Sl->M (Fl × Sl):=fun τ=>ret (.next,τ)
def AV (m1 m2:Sl->M (Fl × Sl)):Sl->M (Fl × Sl):=fun τ=>bnd (m1 τ) fun r=>match r.1 with
  | .next=>m2 r.2
  | f=>ret (f,r.2)
theorem Ap:RSs X [] Bu:=RSs.wk O1 fun Dn σ H h=>by
  obtain ⟨ι,μ,τ,f,τ',μ',R,S,e,q⟩:=h
  cases e
  exact q ι H R.ext0 R σ S
theorem AI {m1 m2:Sl->M (Fl × Sl)} (h1:RS X st m1) (h2:RSs X rest m2):RSs X (st :: rest) (AV m1 m2):=RSs.wk (Ms h1.pe h2.pe) fun Dn σ H h=>by
  obtain ⟨ι,μ,τ,f,τ',μ',R,S,e,q⟩:=h
  obtain ⟨⟨f1,τ1⟩,μ1,e1,e⟩:=AF e
  refine ⟨ι,μ,τ,f1,τ1,μ1,R,S,e1,fun ι1 H1 E1 R1 σ1 S1=>?_⟩
  cases f1 with
  | next=>exact ⟨ι1,μ1,τ1,f,τ',μ',R1,S1,e,fun ι2 H2 E2 R2=>q ι2 H2 (E1.trans E2) R2⟩
  | brk=>cases e; exact q ι1 H1 E1 R1 σ1 S1
  | cont=>cases e; exact q ι1 H1 E1 R1 σ1 S1
  | rt d=>cases e; exact q ι1 H1 E1 R1 σ1 S1
theorem AM {m:Sl->M (Fl × Sl)} (h:RS X st m):RSs X [st] m:=⟨O0 h.pe⟩
def Cb (m:Sl->M D):Sl->M (Fl × Sl):=fun τ=>bnd (m τ) fun _=>ret (.next,τ)
theorem CF {m:Sl->M D} (h:RE X e m) (hs:swapsWith e none pos.line X.env=pure false:=by rfl):RS X (.Expr e pos) (Cb m):=RS.wk (O2 h.pe hs) fun Dn σ H h=>by
  obtain ⟨ι,μ,τ,f,τ',μ',R,S,e,q⟩:=h
  obtain ⟨x,μ1,e1,e⟩:=AF e
  cases e
  exact ⟨ι,μ,_,x,_,R,S,e1,fun ι1 H1 E1 R1 v i1=>q ι1 H1 E1 R1 σ (S.ext E1)⟩
def A5 (m:Sl->M D):Sl->M (Fl × Sl):=fun τ=>bnd (m τ) fun d=>ret (.rt d,τ)
theorem Aa {m:Sl->M D} (h:RE X e m):RS X (.Return (some e) pos) (A5 m):=RS.wk (RH h.pe) fun Dn σ H h=>by
  obtain ⟨ι,μ,τ,f,τ',μ',R,S,e,q⟩:=h
  obtain ⟨x,μ1,e1,e⟩:=AF e
  cases e
  exact ⟨ι,μ,_,x,_,R,S,e1,fun ι1 H1 E1 R1 v i1=>q ι1 H1 E1 R1 σ (S.ext E1) v i1⟩
def sIf (mc:Sl->M Bool) (m1 m2:Sl->M (Fl × Sl)):Sl->M (Fl × Sl):=fun τ=>bnd (mc τ) fun x=>if x=true then m1 τ else m2 τ
theorem BM {mc:Sl->M Bool} {m1 m2:Sl->M (Fl × Sl)} (hc:RT X c mc) (h1:RSs X body m1) (h2:RSs X rest m2):RS X (.If c body rest pos) (sIf mc m1 m2):=RS.wk (TB hc.pe h1.pe h2.pe) fun Dn σ H h=>by
  obtain ⟨ι,μ,τ,f,τ',μ',R,S,e,q⟩:=h
  obtain ⟨x,μ1,e1,e⟩:=AF e
  refine ⟨ι,μ,τ,x,μ1,R,S,e1,fun ι1 H1 E1 R1=>?_⟩
  cases x with
  | true=>exact ⟨ι1,μ1,τ,f,τ',μ',R1,S.ext E1,e,fun ι2 H2 E2 R2=>q ι2 H2 (E1.trans E2) R2⟩
  | false=>exact ⟨ι1,μ1,τ,f,τ',μ',R1,S.ext E1,e,fun ι2 H2 E2 R2=>q ι2 H2 (E1.trans E2) R2⟩
def tG (K:PySem.W.Frag) (bf:D->Sl->M Sl):TG:=fun v σ H Q=>∃ ι μ τ d τ' μ',RelH K ι μ H /\ RelS K ι μ.length H τ σ /\ Is K ι μ.length H d v /\ bf d τ μ=some (τ',μ') /\
  Aft K ι μ H μ' fun ι' H'=>∀ σ',RelS K ι' μ'.length H' τ' σ'->Q σ' H'
structure RG (X:Cx) (tg:Expr) (bf:D->Sl->M Sl):Prop where
  pe:PG X tg (tG X.K bf)
theorem PG.wk {t t':TG} (h:PG X tg t) (w:∀ v σ H Q,t' v σ H Q->t v σ H Q):PG X tg t':=fun pins s σ H v u Q I r q=>h pins s σ H v u Q I r (w v σ H Q q)
theorem RG.wk {bf:D->Sl->M Sl} {t:TG} (h:PG X tg t) (w:∀ v σ H Q,tG X.K bf v σ H Q->t v σ H Q):RG X tg bf:=⟨PG.wk h w⟩
def AQ (i:Nat):D->Sl->M Sl:=fun d τ=>ret (τ.set i (some d))
theorem KH {K:PySem.W.Frag} {i:Nat} {v:V} {σ:St} {H:Hp} {Q:St->Hp->Prop} (h:tG K (AQ i) v σ H Q):DL i v σ H Q:=by
  obtain ⟨ι,μ,τ,d,τ',μ',R,S,i1,e,q⟩:=h
  cases e
  exact q ι H R.ext0 R _ (S.set i i1)
theorem CS (i:Nat) {x:Str} (hN:X.N.Nodup) (hi:X.N[i]? = some x:=by rfl) (hx:Loc X.env.scope x:=by first | exact Or.inl rfl | exact Or.inr rfl) (hf:X.fn x=true ∨ X.env.scope.names.lookup x=some .local:=by first | exact .inl rfl | exact .inr rfl | assumption):RG X (.Name x pos) (AQ i):=
  RG.wk (Aq hN hi hx hf) fun _ _ _ _ h=>KH h
def GM:List Nat->List D->Sl->M Sl
  | [],[],τ=>ret τ
  | i :: is,d :: ds,τ=>bnd (AQ i d τ) fun τ1=>GM is ds τ1
  | _,_,_=>BC
def EV (is:List Nat):D->Sl->M Sl
  | .tup ds,τ=>if ds.length=is.length then GM is ds τ else BC
  | _,_=>BC
def DZ:List Nat->TGs
  | []=>Tf
  | i :: is=>QN (DL i) (DZ is)
theorem En {K:PySem.W.Frag}:∀ {is:List Nat} {ds:List D} {vs:List V} {τ τ':Sl} {σ:St} {ι:Nat->Addr} {μ μ':Mh} {H:Hp} {Q:St->Hp->Prop},RelH K ι μ H->RelS K ι μ.length H τ σ->IsL K ι μ.length H ds vs->GM is ds τ μ=some (τ',μ')->
    (μ'=μ->∀ σ',RelS K ι μ.length H τ' σ'->Q σ' H)->DZ is vs σ H Q
  | [],[],_,_,_,_,_,_,_,_,_,R,S,i,e,q=>by
    cases e
    unfold IsL at i; subst i
    exact ⟨rfl,q rfl _ S⟩
  | _ :: is,_ :: ds,_,τ,τ',σ,ι,μ,μ',H,Q,R,S,i,e,q=>by
    unfold IsL at i
    obtain ⟨v,vs',rfl,i1,i2⟩:=i
    exact ⟨v,vs',rfl,En (is:=is) (ds:=ds) R (S.set _ i1) i2 e q⟩
  | [],_ :: _,_,_,_,_,_,_,_,_,_,_,_,_,e,_=>by cases e
  | _ :: _,[],_,_,_,_,_,_,_,_,_,_,_,_,e,_=>by cases e
theorem HP {is:List Nat} {k:Nat} (hc:X.calm=true) (h:PGs X es (DZ is)) (hn:(assignEach es X.env).length=is.length:=by rfl) (hst:(assignEach es X.env).findIdx? (·.1)=none:=by rfl):RG X (.Tuple es k pos) (EV is):=
  RG.wk (My hc h hn hst) fun v σ H Q h=>by
    obtain ⟨ι,μ,τ,d,τ',μ',R,S,i1,e,q⟩:=h
    cases d with
    | tup ds=>
      unfold Is at i1
      obtain ⟨p,vs,rfl,h1,h2⟩:=i1
      have e':(if ds.length=is.length then GM is ds τ else BC) μ=some (τ',μ'):=e
      by_cases hl:ds.length=is.length
      . rw [if_pos hl] at e'
        have e:=e'
        refine ⟨p,vs,rfl,h1,by rw [h2.length,hl],En R S h2 e fun z σ' S'=>?_⟩
        subst z
        exact q ι H R.ext0 R σ' S'
      . rw [if_neg hl] at e'; cases e'
    | _=>cases e
def As (m:Sl->M D) (bf:D->Sl->M Sl):Sl->M (Fl × Sl):=fun τ=>bnd (m τ) fun d=>bnd (bf d τ) fun τ'=>ret (.next,τ')
theorem KG {K:PySem.W.Frag} {m:Sl->M D} {bf:D->Sl->M Sl} {g:TG} {Dn:J5} {σ:St} {H:Hp} (hg:∀ v H Q,tG K bf v σ H Q->g v σ H Q) (h:tSt K (As m bf) Dn σ H):OP (tE K m) g Dn σ H:=by
  obtain ⟨ι,μ,τ,f,τ',μ',R,S,e,q⟩:=h
  obtain ⟨x,μ1,e1,e⟩:=AF e
  obtain ⟨τ1,μ2,e2,e⟩:=AF e
  cases e
  exact ⟨ι,μ,τ,x,μ1,R,S,e1,fun ι1 H1 E1 R1 v i1=>hg _ _ _ ⟨ι1,μ1,τ,x,_,_,R1,S.ext E1,i1,e2,fun ι2 H2 E2 R2 σ' S'=>q ι2 H2 (E1.trans E2) R2 σ' S'⟩⟩
theorem Af (i:Nat) {x:Str} {m:Sl->M D} {pos':Pos} (hN:X.N.Nodup) (he:RE X e m) (hi:X.N[i]? = some x:=by rfl) (hx:Loc X.env.scope x:=by first | exact Or.inl rfl | exact Or.inr rfl) (hs:swapsWith e (some (.Name x pos')) pos.line X.env=pure false:=by rfl) (hf:X.fn x=true ∨ X.env.scope.names.lookup x=some .local:=by first | exact .inl rfl | exact .inr rfl | assumption) :
    RS X (.Assign [.Name x pos'] e pos) (As m (AQ i)):=RS.wk (RF hN hi hx he.pe hs hf) fun _ _ _ h=>KG (fun _ _ _ q=>KH q) h
theorem HL {m:Sl->M D} {bf:D->Sl->M Sl} (he:RE X e m) (hg:RG X tg bf) (hs:swapsWithSole [tg] e pos.line X.env=pure false:=by rfl) (hw:swappedStores [tg] e X.env=pure none:=by rfl)
    (h1:(assignEach [tg] X.env).map (·.2)=[assign tg X.env]:=by rfl):RS X (.Assign [tg] e pos) (As m bf):=RS.wk (RL he.pe hg.pe hs hw h1) fun _ _ _ h=>KG (fun _ _ _ q=>q) h
def ItM (K:PySem.W.Frag) (J:It) (ds:List D) (ι:Nat->Addr) (μ:Mh) (H:Hp):Prop:=∀ ι' (μ':Mh) H',Ext ι μ.length H ι' μ'.length H'->RelH K ι' μ' H'->
  (∀ i,i < ds.length->J.go i H') /\ J.stop ds.length H' /\ ∀ (i:Nat) x H2 d,ds[i]? = some d->J.yld i H' x H2->Ext ι' μ'.length H' ι' μ'.length H2 /\ RelH K ι' μ' H2 /\ Is K ι' μ'.length H2 d x
theorem ItM.ext {K:PySem.W.Frag} {J:It} {ds:List D} {ι ι':Nat->Addr} {μ μ':Mh} {H H':Hp} (h:ItM K J ds ι μ H) (E:Ext ι μ.length H ι' μ'.length H'):ItM K J ds ι' μ' H':=fun ι2 μ2 H2 E2 R2=>h ι2 μ2 H2 (E.trans E2) R2
def tI (K:PySem.W.Frag) (m:Sl->M (List D)):TI:=fun σ H R=>∃ ι μ τ ds μ',RelH K ι μ H /\ RelS K ι μ.length H τ σ /\ m τ μ=some (ds,μ') /\
  Aft K ι μ H μ' fun ι' H'=>∀ J,ItM K J ds ι' μ' H'->R J H'
structure RI (X:Cx) (tg iter:Expr) (m:Sl->M (List D)):Prop where
  pe:PI X tg iter (tI X.K m)
theorem PI.wk {t t':TI} (h:PI X tg iter t) (w:∀ σ H R,t' σ H R->t σ H R):PI X tg iter t':=fun pins s σ H R I q=>h pins s σ H R I (w σ H R q)
theorem RI.wk {m:Sl->M (List D)} {t:TI} (h:PI X tg iter t) (w:∀ σ H R,tI X.K m σ H R->t σ H R):RI X tg iter m:=⟨PI.wk h w⟩
theorem PI.or {t t':TI} (h:PI X tg iter t) (h':PI X tg iter t'):PI X tg iter (fun σ H R=>t σ H R ∨ t' σ H R):=fun pins s σ H R I q=>q.elim (h pins s σ H R I) (h' pins s σ H R I)
def Kx:D->M (List D)
  | .lst ds=>ret ds
  | .tup ds=>ret ds
  | .scr ns=>ret (ns.map D.int)
  | _=>BC
def Dz (m:Sl->M D):Sl->M (List D):=fun τ=>bnd (m τ) Kx
theorem Ii {K:PySem.W.Frag} {ι:Nat->Addr} {μ:Mh} {H:Hp} {p:Addr} {vs:List V} {ds:List D} (st:∀ ι' (μ':Mh) H',Ext ι μ.length H ι' μ'.length H'->RelH K ι' μ' H'->SqL K H' p vs) (i:IsL K ι μ.length H ds vs):ItM K (Itl K p) ds ι μ H:=by
  intro ι' μ' H' E R
  have h:=st ι' μ' H' E R
  have hl:=i.length
  refine ⟨fun j hj=>⟨vs,vs[j],h,by simp⟩,⟨vs,h,by omega⟩,fun j x H2 d hd y=>?_⟩
  obtain ⟨e,y⟩:=y
  subst e
  obtain ⟨v,ev,iv⟩:=(i.ext E).get hd
  have:=y vs h
  rw [ev] at this; cases this
  exact ⟨R.ext0,R,iv⟩
theorem Pb {K:PySem.W.Frag} {ι:Nat->Addr} {μ:Mh} {H:Hp} {p:Addr} {vs:List V} {ds:List D} (h:SqT K H p vs) (i:IsL K ι μ.length H ds vs):ItM K (Itt K p) ds ι μ H:=by
  intro ι' μ' H' E R
  have h:=EA E h
  have hl:=i.length
  refine ⟨fun j hj=>⟨vs,vs[j],h,by simp⟩,⟨vs,h,by omega⟩,fun j x H2 d hd y=>?_⟩
  obtain ⟨e,y⟩:=y
  subst e
  obtain ⟨v,ev,iv⟩:=(i.ext E).get hd
  have:=y vs h
  rw [ev] at this; cases this
  exact ⟨R.ext0,R,iv⟩
theorem Oh {m:Sl->M D} {σ:St} {H:Hp} {R:It->Hp->Prop} {K:PySem.W.Frag} (q:tI K (Dz m) σ H R):QK K (tE K m) σ H R ∨ Tc K (tE K m) σ H R:=by
  obtain ⟨ι,μ,τ,ds,μ',R0,S,e,q⟩:=q
  obtain ⟨x,μ1,e1,e⟩:=AF e
  cases x with
  | lst es=>
    cases e
    refine .inl ⟨ι,μ,τ,_,_,R0,S,e1,fun ι1 H1 E1 R1 v i1=>?_⟩
    unfold Is at i1
    obtain ⟨p,vs,rfl,h1,hn,h2⟩:=i1
    exact ⟨p,rfl,⟨vs,SqL.of h1⟩,q ι1 H1 E1 R1 _ (Ii (fun ι' μ' H' E _=>SqL.of (E.keep p _ h1 hn)) h2)⟩
  | tup es=>
    cases e
    refine .inr ⟨ι,μ,τ,_,_,R0,S,e1,fun ι1 H1 E1 R1 v i1=>?_⟩
    unfold Is at i1
    obtain ⟨p,vs,rfl,h1,h2⟩:=i1
    exact ⟨p,rfl,⟨vs,h1⟩,q ι1 H1 E1 R1 _ (Pb h1 h2)⟩
  | scr ns=>
    cases e
    refine .inl ⟨ι,μ,τ,_,_,R0,S,e1,fun ι1 H1 E1 R1 v i1=>?_⟩
    unfold Is at i1
    obtain ⟨p,rfl,h1⟩:=i1
    exact ⟨p,rfl,⟨_,h1.sq⟩,q ι1 H1 E1 R1 _ (Ii (fun ι' μ' H' E _=>(KM E h1).sq) (IsL.ofInts ns))⟩
  | non=>cases e
  | bl _=>cases e
  | int _=>cases e
  | str _=>cases e
  | ty _=>cases e
  | ref _=>cases e
theorem CN {m:Sl->M D} (h:RE X e m):RI X tg e (Dz m):=RI.wk (PI.or (KW h.pe) (RM h.pe)) fun _ _ _ q=>Oh q
def IP (lo hi:Int):List D:=(List.range (hi - lo).toNat).map fun (j:Nat)=>D.int (lo + (j:Int))
def Mb:List D->M (List D)
  | [.int j]=>fun μ=>if -(2 ^ 62) <= j /\ j < 2 ^ 62 then some (IP 0 j,μ) else none
  | _=>BC
def Dr (m:Sl->M (List D)):Sl->M (List D):=fun τ=>bnd (m τ) Mb
theorem Pc {K:PySem.W.Frag} {ι:Nat->Addr} {μ:Mh} {H:Hp} {lo hi:Int}:ItM K (Itr lo (hi - lo).toNat) (IP lo hi) ι μ H:=by
  intro ι' μ' H' E R
  have hl:(IP lo hi).length=(hi - lo).toNat:=by simp [IP]
  rw [hl]
  refine ⟨fun j hj=>hj,Nat.le_refl _,fun j x H2 d hd y=>?_⟩
  obtain ⟨e,y⟩:=y
  subst e
  unfold IP at hd
  rw [List.getElem?_map] at hd
  cases q:(List.range (hi - lo).toNat)[j]? with
  | none=>rw [q] at hd; cases hd
  | some z=>
    rw [q] at hd
    have hz:z=j:=by
      have:=(List.getElem?_eq_some_iff.mp q).2
      simpa using this.symm
    subst hz
    cases hd
    exact ⟨R.ext0,R,by unfold Is; exact y⟩
theorem Bt {a:Expr} {m:Sl->M (List D)} {p:Pos} (hm:X.mg "range" = none) (ha:RA X [a] m) (hg:Gl X "range" := by rfl) (hs:starEach [a] X.env=[(false,eval a X.env)]:=by rfl):RI X tg (.Call (.Name "range" p) [a] [] pos) (Dr m):=
  RI.wk (LU hg hm ha.pe hs) fun σ H R q=>by
    obtain ⟨ι,μ,τ,ds,μ',R0,S,e,q⟩:=q
    obtain ⟨xs,μ1,e1,e⟩:=AF e
    refine ⟨ι,μ,τ,xs,μ1,R0,S,e1,fun ι1 H1 E1 R1 vs i1=>?_⟩
    unfold Mb at e
    split at e
    . rename_i j
      split at e
      . rename_i hb
        cases e
        unfold IsL Is at i1
        obtain ⟨v,vs',rfl,rfl,i2⟩:=i1
        unfold IsL at i2
        subst i2
        refine ⟨j,rfl,hb.1,hb.2,q ι1 H1 E1 R1 _ ?_⟩
        have:=Pc (K:=X.K) (ι:=ι1) (μ:=μ') (H:=H1) (lo:=0) (hi:=j)
        rw [Int.sub_zero] at this
        exact this
      . cases e
    . cases e
def DM (bf:D->Sl->M Sl) (mb:Sl->M (Fl × Sl)):List D->Sl->M (Fl × Sl)
  | [],τ=>ret (.next,τ)
  | x :: xs,τ=>bnd (bf x τ) fun τ1=>bnd (mb τ1) fun r=>match r.1 with
    | .next=>DM bf mb xs r.2
    | .cont=>DM bf mb xs r.2
    | .brk=>ret (.next,r.2)
    | .rt d=>ret (.rt d,r.2)
def EE (src:Sl->M (List D)) (bf:D->Sl->M Sl) (mb:Sl->M (Fl × Sl)):Sl->M (Fl × Sl):=fun τ=>bnd (src τ) fun ds=>DM bf mb ds τ
theorem CM {src:Sl->M (List D)} {bf:D->Sl->M Sl} {mb:Sl->M (Fl × Sl)} (hp:PassesOwn (model X.prog X.w) X.A X.env X.xe) (hc:X.calm=true) (hi:RI X tg iter src) (hg:RG X tg bf) (hb:RSs X body mb)
    (hs:∀ x,foldedSetIterable iter X.env x=pure x:=by intro _; rfl):RS X (.For tg iter body [] pos) (EE src bf mb):=RS.wk (RJ hp hc hi.pe hg.pe hb.pe hs) fun Dn σ H h=>by
  obtain ⟨ι,μ,τ,f,τ',μ',R,S,e,q⟩:=h
  obtain ⟨ds,μ1,e1,e⟩:=AF e
  refine ⟨ι,μ,τ,ds,μ1,R,S,e1,fun ι1 H1 E1 R1 J it=>?_⟩
  let W:Nat->Nat->St->Hp->Prop:=fun i m σ H=>m=ds.length - i /\ i <= ds.length /\ ∃ ι μ τ f τ' μ',RelH X.K ι μ H /\ RelS X.K ι μ.length H τ σ /\ ItM X.K J ds ι μ H /\ DM bf mb (ds.drop i) τ μ=some ((f,τ'),μ') /\
    Aft X.K ι μ H μ' fun ι' H'=>∀ σ',RelS X.K ι' μ'.length H' τ' σ'->FlP X.K Dn ι' μ'.length H' τ' σ' f
  refine ⟨W,⟨ds.length,by simp,Nat.zero_le _,ι1,μ1,τ,f,τ',μ',R1,S.ext E1,it,e,fun ι2 H2 E2 R2=>q ι2 H2 (E1.trans E2) R2⟩,?_⟩
  rintro i m σ H ⟨hm,hil,ι,μ,τ,f,τ',μ',R,S,it,e,q⟩
  obtain ⟨go,stop,yl⟩:=it ι μ H R.ext0 R
  by_cases hlt:i < ds.length
  . refine .inr ⟨go i hlt,fun σ' H'=>W (i + 1) (ds.length - (i + 1)) σ' H',fun σ' H' z=>⟨_,by omega,z⟩,fun x H2 y=>?_⟩
    have hd:ds[i]? = some ds[i]:=by simp [hlt]
    obtain ⟨E2,R2,ix⟩:=yl i x H2 _ hd y
    rw [List.drop_eq_getElem_cons hlt] at e
    obtain ⟨τ1,μ1,e1,e⟩:=AF e
    obtain ⟨⟨f2,τ2⟩,μ2,e2,e⟩:=AF e
    refine ⟨ι,μ,τ,_,τ1,μ1,R2,S.ext E2,ix,e1,fun ι3 H3 E3 R3 σ3 S3=>?_⟩
    refine ⟨ι3,μ1,τ1,f2,τ2,μ2,R3,S3,e2,fun ι4 H4 E4 R4 σ4 S4=>?_⟩
    have E14:=(E2.trans E3).trans E4
    cases f2 with
    | next=>exact ⟨rfl,hlt,ι4,μ2,τ2,f,τ',μ',R4,S4,it.ext E14,e,fun ι5 H5 E5 R5=>q ι5 H5 (E14.trans E5) R5⟩
    | cont=>exact ⟨rfl,hlt,ι4,μ2,τ2,f,τ',μ',R4,S4,it.ext E14,e,fun ι5 H5 E5 R5=>q ι5 H5 (E14.trans E5) R5⟩
    | brk=>cases e; exact q ι4 H4 E14 R4 σ4 S4
    | rt d=>cases e; exact q ι4 H4 E14 R4 σ4 S4
  . have hi':i=ds.length:=by omega
    subst hi'
    rw [List.drop_length] at e
    cases e
    exact .inl ⟨stop,q ι H R.ext0 R σ S⟩
end
end Mi
namespace Mi
open PySem L2
section
variable {X:Cx} {scope:Scope} {tgs:List Str} {ix:List Nat} {elt tg iter:Expr} {pos:Pos}
def Mw (ix:List Nat) (τ:Sl):Sl:=ix.map fun j=>(τ[j]?).getD none
def Bz (n:Nat) (ix:List Nat) (τ:Sl):Sl:=List.replicate n none ++ Mw ix τ
def Bs (bf:D->Sl->M Sl) (mc:Sl->M Bool) (me:Sl->M D) (τ0:Sl):List D->List D->M (List D)
  | [],ys=>ret ys
  | x :: xs,ys=>bnd (bf x τ0) fun τ1=>bnd (mc τ1) fun c=>if c=true then bnd (me τ1) fun y=>Bs bf mc me τ0 xs (ys ++ [y]) else Bs bf mc me τ0 xs ys
def Bj (n:Nat) (ix:List Nat) (src:Sl->M (List D)) (bf:D->Sl->M Sl) (mc:Sl->M Bool) (me:Sl->M D) (fin:List D->M D):Sl->M D:=fun τ=>bnd (src τ) fun ds=>bnd (lim ds.length) fun _=>bnd (Bs bf mc me (Bz n ix τ) ds []) fin
def Ci:Sl->M Bool:=fun _=>ret true
theorem RelS.block {K:PySem.W.Frag} {ι:Nat->Addr} {k:Nat} {H:Hp} {τ:Sl} {σ:St} (S:RelS K ι k H τ σ):RelS K ι k H (Bz tgs.length ix τ) (Bo tgs ix σ):=by
  refine ⟨by simp [Bz,Bo,Mw,Gn],fun i d e=>?_⟩
  unfold Bz at e
  have hk:tgs.length <= i:=by
    rcases Nat.lt_or_ge i tgs.length with z | z
    . rw [List.getElem?_append_left (by simpa using z),List.getElem?_replicate,if_pos z] at e
      cases e
    . exact z
  rw [List.getElem?_append_right (by simpa using hk),List.length_replicate] at e
  unfold Mw at e
  rw [List.getElem?_map] at e
  cases q:ix[i - tgs.length]? with
  | none=>rw [q] at e; cases e
  | some j=>
    rw [q] at e
    have e':(τ[j]?).getD none=some d:=Option.some.inj e
    cases q2:τ[j]? with
    | none=>rw [q2] at e'; cases e'
    | some o=>
      rw [q2] at e'
      have e'':o=some d:=e'
      subst e''
      obtain ⟨v,ev,iv⟩:=S.get j d q2
      refine ⟨v,?_,iv⟩
      unfold Bo
      rw [List.getElem?_append_right (by simpa using hk),List.length_replicate]
      unfold Gn
      rw [List.getElem?_map,q,Option.map_some,ev]
      rfl
theorem KJ {K:PySem.W.Frag} {n:Nat} {src:Sl->M (List D)} {i:Nat} {mc:Sl->M Bool} {me:Sl->M D} {fin:List D->M D} {σ:St} {H:Hp} {Q:VK} (hn:tgs.length=n) (hf:∀ ι μ μ' H ds vs d (Q:VK),RelH K ι μ H->IsL K ι μ.length H ds vs->fin ds μ=some (d,μ')->(Aft K ι μ H μ' fun ι' H'=>∀ v,Is K ι' μ'.length H' d v->Q v H')->
      vs.length <= sizeLine /\ ∀ p,H p=none->Q (.ref p) (upd H p (.lst vs)))
    (h:tE K (Bj n ix src (AQ i) mc me fin) σ H Q):Gh tgs ix (tI K src) (DL i) (tT K mc) (tE K me) σ H Q:=by
  subst hn
  obtain ⟨ι,μ,τ,d,μ',R,S,e,q⟩:=h
  obtain ⟨ds,μ1,e1,e5⟩:=AF e
  obtain ⟨u,μ2,e2,e6⟩:=AF e5
  obtain ⟨zs,μ3,e3,e7⟩:=AF e6
  obtain ⟨hl,e4⟩:=CK e2
  clear e e5 e6
  subst e4
  refine ⟨ι,μ,τ,ds,_,R,S,e1,fun ι1 H1 E1 R1 J it=>?_⟩
  refine ⟨fun i' m ys H=>m=ds.length - i' /\ i' <= ds.length /\ ys.length <= i' /\ ∃ (ι:Nat->Addr) (μ:Mh) (as:List D),RelH K ι μ H /\ RelS K ι μ.length H τ σ /\ ItM K J ds ι μ H /\ IsL K ι μ.length H as ys /\ Bs (AQ i) mc me (Bz tgs.length ix τ) (ds.drop i') as μ=some (zs,μ3) /\
    Aft K ι μ H μ' fun ι' H'=>∀ v,Is K ι' μ'.length H' d v->Q v H',⟨ds.length,by simp,Nat.zero_le _,Nat.le_refl _,ι1,_,[],R1,S.ext E1,it,.nil,e3,fun ι2 H2 E2 R2=>q ι2 H2 (E1.trans E2) R2⟩,?_⟩
  rintro i' m ys H ⟨hm,hil,hyl,ι,μ,as,R,S,it,ia,e3,q⟩
  obtain ⟨go,stop,yl⟩:=it ι μ H R.ext0 R
  by_cases hlt:i' < ds.length
  . refine .inr ⟨go i' hlt,by omega,fun ys' H'=>ys'.length <= i' + 1 /\ ∃ (ι:Nat->Addr) (μ:Mh) (as:List D),RelH K ι μ H' /\ RelS K ι μ.length H' τ σ /\ ItM K J ds ι μ H' /\ IsL K ι μ.length H' as ys' /\ Bs (AQ i) mc me (Bz tgs.length ix τ) (ds.drop (i' + 1)) as μ=some (zs,μ3) /\
      Aft K ι μ H' μ' fun ι' H'=>∀ v,Is K ι' μ'.length H' d v->Q v H',fun ys' H' z=>⟨_,(by omega:ds.length - (i' + 1) < m),rfl,hlt,z⟩,fun x H2 y=>?_⟩
    have hd:ds[i']? = some ds[i']:=by simp [hlt]
    obtain ⟨E2,R2,ix2⟩:=yl i' x H2 _ hd y
    rw [List.drop_eq_getElem_cons hlt] at e3
    obtain ⟨τ1,μ1,e1,e3⟩:=AF e3
    cases e1
    obtain ⟨cc,μ2,e2,e3⟩:=AF e3
    have S2:=(S.ext E2).block (tgs:=tgs) (ix:=ix)
    show tT K mc _ H2 _
    refine ⟨ι,_,_,cc,μ2,R2,S2.set i ix2,e2,fun ι3 H3 E3 R3=>?_⟩
    have E13:=E2.trans E3
    cases cc with
    | false=>
      exact ⟨by omega,ι3,μ2,as,R3,S.ext E13,it.ext E13,ia.ext E13,e3,fun ι5 H5 E5 R5=>q ι5 H5 (E13.trans E5) R5⟩
    | true=>
      obtain ⟨y',μ4,e4,e3⟩:=AF e3
      refine ⟨ι3,μ2,_,y',μ4,R3,(S2.set i ix2).ext E3,e4,fun ι4 H4 E4 R4 v iv=>?_⟩
      have E14:=E13.trans E4
      exact ⟨by simp; omega,ι4,μ4,as ++ [y'],R4,S.ext E14,it.ext E14,(ia.ext E14).append (.one iv),e3,fun ι5 H5 E5 R5=>q ι5 H5 (E14.trans E5) R5⟩
  . have hi':i'=ds.length:=by omega
    subst hi'
    rw [List.drop_length] at e3
    cases e3
    obtain ⟨z1,z2⟩:=hf ι _ μ' H _ ys d Q R ia e7 q
    exact .inl ⟨stop,z1,z2⟩
theorem Dh {n:Nat} {ifs:List Expr} {src:Sl->M (List D)} {i:Nat} {mc:Sl->M Bool} {me:Sl->M D} (S:BScope X scope tgs ix) (hc:X.calm=true) (hi:RI X tg iter src) (hg:∀ fp C s H,PG (cxB X scope tgs fp C s H) tg (DL i)) (hif:∀ fp C s H,Ge (cxB X scope tgs fp C s H) ifs (tT X.K mc)) (he:∀ fp C s H,RE (cxB X scope tgs fp C s H) elt me)
    (hin:i < tgs.length:=by decide) (hn:tgs.length=n:=by rfl) (hs:∀ x,foldedSetIterable iter X.env x=pure x:=by intro _; rfl) (ht:∀ o v,letOwnedTupleGo tg o v=pure ():=by intro _ _; rfl):RE X (.ListComp elt [⟨tg,iter,ifs,0⟩] scope pos) (Bj n ix src (AQ i) mc me BA):=
  RE.wk (PB (te:=tE X.K me) S hc hi.pe hg (Hf hin) hif (fun fp C s H=>(he fp C s H).pe) hs ht) fun _ _ _ h=>KJ hn (fun _ _ _ _ _ _ _ _ R i e q=>CT R i e q) h
theorem B0 {K:PySem.W.Frag}:Ge X [] (tT K Ci):=fun pins s σ H Q I h=>by
  obtain ⟨ι,μ,τ,b,μ',R,S,e,q⟩:=h
  cases e
  exact Mu pins s σ H Q I (q ι H R.ext0 R)
theorem Fk {c:Expr} {mc:Sl->M Bool} (h:RT X c mc):Ge X [c] (tT X.K mc):=Mt h.pe
theorem C8 (k:Nat) {n:Nat} {y:Str} {py spos:Pos} {ifs:List Expr} {src:Sl->M (List D)} {i:Nat} {mc:Sl->M Bool} {me:Sl->M D} {fin:List D->M D} (hN:X.N.Nodup) (S:BScope X scope tgs ix) (hc:X.calm=true) (hi:RI X tg iter src) (hg:∀ fp C s H,PG (cxB X scope tgs fp C s H) tg (DL i)) (hif:∀ fp C s H,Ge (cxB X scope tgs fp C s H) ifs (tT X.K mc)) (he:∀ fp C s H,RE (cxB X scope tgs fp C s H) elt me)
    (hfin:∀ ι μ μ' H ds vs d (Q:VK),RelH X.K ι μ H->IsL X.K ι μ.length H ds vs->fin ds μ=some (d,μ')->(Aft X.K ι μ H μ' fun ι' H'=>∀ v,Is X.K ι' μ'.length H' d v->Q v H')->vs.length <= sizeLine /\ ∀ p,H p=none->Q (.ref p) (upd H p (.lst vs)))
    (hiN:X.N[k]? = some y:=by rfl) (hy:X.env.scope.names.lookup y=some .local:=by rfl) (hin:i < tgs.length:=by decide) (hn:tgs.length=n:=by rfl)
    (hsw:swapsWith (.ListComp elt [⟨tg,iter,ifs,0⟩] scope pos) (some (.Name y py)) spos.line X.env=pure true:=by rfl) (hs:∀ x,foldedSetIterable iter X.env x=pure x:=by intro _; rfl) (ht:∀ o v,letOwnedTupleGo tg o v=pure ():=by intro _ _; rfl) :
    RS X (.Assign [.Name y py] (.ListComp elt [⟨tg,iter,ifs,0⟩] scope pos) spos) (As (Bj n ix src (AQ i) mc me fin) (AQ k)):=
  RS.wk (Fu (te:=tE X.K me) hN hiN hy S hc hi.pe hg (Hf hin) hif (fun fp C s H=>(he fp C s H).pe) hsw hs ht) fun Dn σ H h=>by
    obtain ⟨ι,μ,τ,f,τ',μ',R,S,e,q⟩:=h
    obtain ⟨x,μ1,e1,e⟩:=AF e
    obtain ⟨τ1,μ2,e2,e⟩:=AF e
    cases e2
    cases e
    refine KJ hn hfin ⟨ι,μ,τ,x,_,R,S,e1,fun ι1 H1 E1 R1 v i1=>?_⟩
    exact q ι1 H1 E1 R1 _ ((S.ext E1).set k i1)
mutual
def Cl (k:Nat):D->Prop
  | .tup ds=>ClL k ds
  | .lst ds=>ClL k ds
  | .ref n=>n < k
  | _=>True
def ClL (k:Nat):List D->Prop
  | []=>True
  | d :: ds=>Cl k d /\ ClL k ds
end
def ClO (k:Nat):MO->Prop
  | .lst ds=>ClL k ds
  | .dK l=>ClL k (l.map (·.2))
  | .dC l=>ClL k (l.map (·.2))
  | .ins _ l=>ClL k (l.map (·.2))
section
variable {K:PySem.W.Frag} {ι:Nat->Addr} {k k':Nat} {H:Hp}
mutual
theorem Is.down (hk:k <= k'):∀ {d:D} {v:V},Cl k d->Is K ι k' H d v->Is K ι k H d v
  | .non,_,_,h=>by unfold Is at h ⊢; exact h
  | .bl _,_,_,h=>by unfold Is at h ⊢; exact h
  | .int _,_,_,h=>by unfold Is at h ⊢; exact h
  | .str _,_,_,h=>by unfold Is at h ⊢; exact h
  | .ty _,_,_,h=>by unfold Is at h ⊢; exact h
  | .scr _,_,_,h=>by unfold Is at h ⊢; exact h
  | .tup ds,_,c,h=>by
    unfold Is at h ⊢
    obtain ⟨p,vs,e,h1,h2⟩:=h
    exact ⟨p,vs,e,h1,IsL.down hk (by unfold Cl at c; exact c) h2⟩
  | .lst ds,_,c,h=>by
    unfold Is at h ⊢
    obtain ⟨p,vs,e,h1,hn,h2⟩:=h
    exact ⟨p,vs,e,h1,fun n z=>hn n (Nat.lt_of_lt_of_le z hk),IsL.down hk (by unfold Cl at c; exact c) h2⟩
  | .ref n,_,c,h=>by
    unfold Is at h ⊢
    exact ⟨by unfold Cl at c; exact c,h.2⟩
theorem IsL.down (hk:k <= k'):∀ {ds:List D} {vs:List V},ClL k ds->IsL K ι k' H ds vs->IsL K ι k H ds vs
  | [],_,_,h=>by unfold IsL at h ⊢; exact h
  | _ :: _,_,c,h=>by
    unfold IsL at h ⊢
    unfold ClL at c
    obtain ⟨v,vs',e,h1,h2⟩:=h
    exact ⟨v,vs',e,Is.down hk c.1 h1,IsL.down hk c.2 h2⟩
end
mutual
theorem Is.cl:∀ {d:D} {v:V},Is K ι k H d v->Cl k d
  | .non,_,_=>by unfold Cl; trivial
  | .bl _,_,_=>by unfold Cl; trivial
  | .int _,_,_=>by unfold Cl; trivial
  | .str _,_,_=>by unfold Cl; trivial
  | .ty _,_,_=>by unfold Cl; trivial
  | .scr _,_,_=>by unfold Cl; trivial
  | .tup ds,_,h=>by
    unfold Is at h; unfold Cl
    obtain ⟨p,vs,e,h1,h2⟩:=h
    exact IsL.cl h2
  | .lst ds,_,h=>by
    unfold Is at h; unfold Cl
    obtain ⟨p,vs,e,h1,hn,h2⟩:=h
    exact IsL.cl h2
  | .ref n,_,h=>by
    unfold Is at h; unfold Cl
    exact h.1
theorem IsL.cl:∀ {ds:List D} {vs:List V},IsL K ι k H ds vs->ClL k ds
  | [],_,_=>by unfold ClL; trivial
  | _ :: _,_,h=>by
    unfold IsL at h; unfold ClL
    obtain ⟨v,vs',e,h1,h2⟩:=h
    exact ⟨Is.cl h1,IsL.cl h2⟩
end
theorem KVs.cl:∀ {l:List (Key × D)} {r:List (Key × V)},KVs K ι k H l r->ClL k (l.map (·.2))
  | [],_,_=>by unfold List.map ClL; trivial
  | (_,_) :: _,_,h=>by
    obtain ⟨v,r',e,h1,h2⟩:=h
    rw [List.map_cons]
    unfold ClL
    exact ⟨h1.cl,KVs.cl h2⟩
theorem KVs.down (hk:k <= k'):∀ {l:List (Key × D)} {r:List (Key × V)},ClL k (l.map (·.2))->KVs K ι k' H l r->KVs K ι k H l r
  | [],_,_,h=>h
  | (_,_) :: _,_,c,h=>by
    rw [List.map_cons] at c
    unfold ClL at c
    obtain ⟨v,r',e,h1,h2⟩:=h
    exact ⟨v,r',e,h1.down hk c.1,KVs.down hk c.2 h2⟩
theorem Kv:∀ l:List Int,ClL k (l.map D.int)
  | []=>by unfold List.map ClL; trivial
  | _ :: l=>by unfold List.map ClL; exact ⟨by unfold Cl; trivial,Kv l⟩
theorem Tp (c:Nk.Cs):Cl k (csD c):=by
  unfold csD Cl ClL
  refine ⟨by unfold Cl; trivial,?_⟩
  unfold ClL
  refine ⟨by unfold Cl; trivial,?_⟩
  unfold ClL
  exact ⟨by unfold Cl; exact Kv _,by unfold ClL; trivial⟩
theorem CVs.cl:∀ {l:List (Nk.Cs × D)} {r:List (Nk.Cs × Addr × V)},CVs K ι k H l r->ClL k (l.map (·.2))
  | [],_,_=>by unfold List.map ClL; trivial
  | (_,_) :: _,_,h=>by
    obtain ⟨a,v,r',rfl,_,h1,h2⟩:=h
    rw [List.map_cons]
    unfold ClL
    exact ⟨h1.cl,CVs.cl h2⟩
theorem CVs.down (hk:k <= k'):∀ {l:List (Nk.Cs × D)} {r:List (Nk.Cs × Addr × V)},ClL k (l.map (·.2))->CVs K ι k' H l r->CVs K ι k H l r
  | [],_,_,h=>h
  | (_,_) :: _,_,c,h=>by
    rw [List.map_cons] at c
    unfold ClL at c
    obtain ⟨a,v,r',e,h0,h1,h2⟩:=h
    exact ⟨a,v,r',e,h0.down hk (Tp _),h1.down hk c.1,CVs.down hk c.2 h2⟩
theorem FVs.cl:∀ {l:List (Str × D)} {r:List (Str × V)},FVs K ι k H l r->ClL k (l.map (·.2))
  | [],_,_=>by unfold List.map ClL; trivial
  | (_,_) :: _,_,h=>by
    obtain ⟨v,r',rfl,h1,h2⟩:=h
    rw [List.map_cons]
    unfold ClL
    exact ⟨h1.cl,FVs.cl h2⟩
theorem FVs.down (hk:k <= k'):∀ {l:List (Str × D)} {r:List (Str × V)},ClL k (l.map (·.2))->FVs K ι k' H l r->FVs K ι k H l r
  | [],_,_,h=>h
  | (_,_) :: _,_,c,h=>by
    rw [List.map_cons] at c
    unfold ClL at c
    obtain ⟨v,r',e,h1,h2⟩:=h
    exact ⟨v,r',e,h1.down hk c.1,FVs.down hk c.2 h2⟩
theorem ObjIs.cl {p:Addr} {o:MO} {u:HO} (h:ObjIs K ι k H p o u):ClO k o:=by
  cases o with
  | lst ds=>obtain ⟨vs,_,h⟩:=h; exact h.cl
  | dK l=>obtain ⟨r,_,h⟩:=h; exact h.cl
  | dC l=>obtain ⟨r,_,h⟩:=h; exact h.cl
  | ins c l=>obtain ⟨C,dx,r,_,_,_,h⟩:=h; exact h.cl
theorem ObjIs.down (hk:k <= k') {p:Addr} {o:MO} {u:HO} (c:ClO k o) (h:ObjIs K ι k' H p o u):ObjIs K ι k H p o u:=by
  cases o with
  | lst ds=>obtain ⟨vs,e,h⟩:=h; exact ⟨vs,e,h.down hk c⟩
  | dK l=>obtain ⟨r,e,h⟩:=h; exact ⟨r,e,h.down hk c⟩
  | dC l=>obtain ⟨r,e,h⟩:=h; exact ⟨r,e,h.down hk c⟩
  | ins n l=>obtain ⟨C,dx,r,e,h0,h1,h⟩:=h; exact ⟨C,dx,r,e,h0,h1,h.down hk c⟩
end
def UP (μ2 μ':Mh) (d' d:D):Prop:=(d'=d /\ Cl μ'.length d) ∨ ∃ n ds,d'=.ref n /\ μ2[n]? = some (.lst ds) /\ μ'.length <= n /\ d=.lst ds /\ ClL μ'.length ds
structure GR (μ μ2 μ':Mh) (d' d:D):Prop where
  grow:∃ g,μ2=μ' ++ g
  le:μ.length <= μ'.length
  old:∀ (n:Nat) (o:MO),μ'[n]? = some o->μ[n]? = some o ∨ ClO μ'.length o
  conv:UP μ2 μ' d' d
def Fm:Fl->D
  | .rt d=>d
  | _=>.non
theorem MK {K:PySem.W.Frag} {ι ι2:Nat->Addr} {μ μ2 μ':Mh} {H H2:Hp} {d' d:D} (R:RelH K ι μ H) (E:Ext ι μ.length H ι2 μ2.length H2) (R2:RelH K ι2 μ2 H2) (t:GR μ μ2 μ' d' d) :
    Ext ι μ.length H ι2 μ'.length H2 /\ RelH K ι2 μ' H2 /\ ∀ v,Is K ι2 μ2.length H2 d' v->Is K ι2 μ'.length H2 d v:=by
  obtain ⟨⟨g,hg⟩,le,old,conv⟩:=t
  have hle:μ'.length <= μ2.length:=by rw [hg]; simp
  have hget:∀ (n:Nat) (o:MO),μ'[n]? = some o->μ2[n]? = some o:=fun n o e=>by
    rw [hg,List.getElem?_append_left (List.getElem?_eq_some_iff.mp e).1]; exact e
  refine ⟨⟨le,E.agree,fun n h1 h2=>E.fresh n h1 (Nat.lt_of_lt_of_le h2 hle),E.keep,E.was,E.there⟩,⟨fun i j hi hj=>R2.inj i j (Nat.lt_of_lt_of_le hi hle) (Nat.lt_of_lt_of_le hj hle),fun n o e=>?_⟩,fun v iv=>?_⟩
  . obtain ⟨u,q,hq⟩:=R2.obj n o (hget n o e)
    refine ⟨u,q,hq.down hle ?_⟩
    rcases old n o e with z | z
    . obtain ⟨u0,_,h0⟩:=R.obj n o z
      have c:=h0.cl
      cases o with
      | lst ds=>exact clL_mono le c
      | dK l=>exact clL_mono le c
      | dC l=>exact clL_mono le c
      | ins n l=>exact clL_mono le c
    . exact z
  . rcases conv with ⟨rfl,c⟩ | ⟨n,ds,rfl,hn,hle2,rfl,c⟩
    . exact iv.down hle c
    . obtain ⟨u,q,vs,rfl,il⟩:=R2.obj n _ hn
      have hn2:n < μ2.length:=(List.getElem?_eq_some_iff.mp hn).1
      unfold Is at iv ⊢
      refine ⟨ι2 n,vs,iv.2,q,fun m hm z=>?_,il.down hle c⟩
      have:=R2.inj m n (Nat.lt_of_lt_of_le hm hle) hn2 z
      omega
where
  cl_mono {k k':Nat} (h:k <= k'):∀ {d:D},Cl k d->Cl k' d
    | .non,_=>by unfold Cl; trivial
    | .bl _,_=>by unfold Cl; trivial
    | .int _,_=>by unfold Cl; trivial
    | .str _,_=>by unfold Cl; trivial
    | .ty _,_=>by unfold Cl; trivial
    | .scr _,_=>by unfold Cl; trivial
    | .tup ds,c=>by unfold Cl at c ⊢; exact clL_mono h c
    | .lst ds,c=>by unfold Cl at c ⊢; exact clL_mono h c
    | .ref n,c=>by unfold Cl at c ⊢; exact Nat.lt_of_lt_of_le c h
  clL_mono {k k':Nat} (h:k <= k'):∀ {ds:List D},ClL k ds->ClL k' ds
    | [],_=>by unfold ClL; trivial
    | _ :: _,c=>by unfold ClL at c ⊢; exact ⟨cl_mono h c.1,clL_mono h c.2⟩
def Ba (n:Nat) (ds:List D):Sl:=ds.map some ++ List.replicate (n - ds.length) none
theorem RelS.start {K:PySem.W.Frag} {ι:Nat->Addr} {k:Nat} {H:Hp} {N:List Str} {ds:List D} {vs:List V} (i:IsL K ι k H ds vs):RelS K ι k H (Ba N.length ds) (L2.start N vs):=by
  have hl:=i.length
  refine ⟨by simp [Ba,L2.start,hl],fun j d e=>?_⟩
  unfold Ba at e
  unfold L2.start
  rcases Nat.lt_or_ge j ds.length with z | z
  . rw [List.getElem?_append_left (by simpa using z),List.getElem?_map] at e
    rw [List.getElem?_append_left (by simpa [hl] using z),List.getElem?_map]
    cases q:ds[j]? with
    | none=>rw [q] at e; cases e
    | some d0=>
      rw [q] at e
      cases e
      obtain ⟨v,ev,iv⟩:=i.get q
      exact ⟨v,by rw [ev]; rfl,iv⟩
  . rw [List.getElem?_append_right (by simpa using z),List.getElem?_replicate] at e
    split at e <;> cases e
theorem Gw {P:Program} {w:World} {K:PySem.W.Frag} {mg:Str->Option Value} {base:Heap} {x qual:Str} {st:Stmt} {f:Addr} {fd:FuncData} {N ps:List Str} {k n:Nat} {φ:List D->M D} {mb:Sl->M (Fl × Sl)} (F:Fun K x qual st f fd) (S:Ai N ps (AH st)) (hn:ps.length=n:=by rfl)
    (body:∀ (cdv:Value) (A:Around) (outer:List Env) (s:Shared) (H:Hp) (E:XK),Room k (A.deeper (PyProof.Rows.envOfC qual (AH st) s.heap.objs.size f cdv))->RSs (Bv CX0 P w K mg base N qual (AH st) f cdv A outer s H E).nox (AZ st) mb)
    (run:∀ ds μ d μ',φ ds μ=some (d,μ')->∃ fl τ2 μ2,mb (Ba N.length ds) μ=some ((fl,τ2),μ2) /\ (fl=.next ∨ ∃ d,fl=.rt d) /\ GR μ μ2 μ' (Fm fl) d):FnOk P w K mg base CX0 (k + 1) f fd ps (spM K n φ):=by
  refine F.ok S (fun vs H Q E h=>by rw [hn]; exact h.1) (fun cdv A outer s H vs Q E hr h=>⟨_,(body cdv A outer s H E hr).pe,?_⟩)
  obtain ⟨hl,ι,μ,ds,d,μ',R,i,e,q⟩:=h
  obtain ⟨fl,τ2,μ2,e2,hfl,t⟩:=run ds μ d μ' e
  refine ⟨ι,μ,_,fl,τ2,μ2,R,RelS.start i,e2,fun ι2 H2 E2 R2 σ2 S2=>?_⟩
  obtain ⟨E3,R3,c⟩:=MK R E2 R2 t
  rcases hfl with rfl | ⟨d0,rfl⟩
  . exact q ι2 H2 E3 R3 _ (c _ (by unfold Fm Is; rfl))
  . exact fun v iv=>q ι2 H2 E3 R3 v (c v iv)
end
end Mi
namespace Mi
open PySem L2
def A6:D->M (List D)
  | .lst ds=>ret ds
  | .scr ns=>ret (ns.map D.int)
  | .ref n=>fun μ=>match μ[n]? with
    | some (.lst ds)=>some (ds,μ)
    | _=>none
  | _=>BC
section
variable {K:PySem.W.Frag} {ι:Nat->Addr} {μ μ':Mh} {H:Hp} {d a b:D} {v x y:V} {ds:List D}
theorem BZ (R:RelH K ι μ H) (i:Is K ι μ.length H d v) (e:A6 d μ=some (ds,μ')):μ'=μ /\ ∃ p vs,v=.ref p /\ SqL K H p vs /\ IsL K ι μ.length H ds vs:=by
  cases d with
  | lst es=>
    cases e
    unfold Is at i
    obtain ⟨p,vs,rfl,h1,hn,h2⟩:=i
    exact ⟨rfl,p,vs,rfl,SqL.of h1,h2⟩
  | scr ns=>
    cases e
    unfold Is at i
    obtain ⟨p,rfl,h1⟩:=i
    exact ⟨rfl,p,_,rfl,h1.sq,IsL.ofInts ns⟩
  | ref n=>
    unfold Is at i
    obtain ⟨hn,rfl⟩:=i
    have e':(match μ[n]? with | some (.lst ds)=>some (ds,μ) | _=>none)=some (ds,μ'):=e
    split at e'
    . rename_i es hq
      cases e'
      obtain ⟨u,h1,vs,rfl,h2⟩:=R.obj n _ hq
      exact ⟨rfl,_,vs,rfl,SqL.of h1,h2⟩
    . cases e'
  | _=>cases e
theorem BV {i:Int} (h:Is K ι μ.length H (.int i) v):v=.int i:=by unfold Is at h; exact h
theorem DY {i:Str} (h:Is K ι μ.length H (.str i) v):v=.str i:=by unfold Is at h; exact h
theorem QI {i:Bool} (h:Is K ι μ.length H (.bl i) v):v=.bl i:=by unfold Is at h; exact h
theorem NR (h:Is K ι μ.length H .non v):v=.non:=by unfold Is at h; exact h
theorem TY {n:String} (h:Is K ι μ.length H (.ty n) v):v=.ty n:=by unfold Is at h; exact h
theorem ofI {k:Nat} (i:Int):Is K ι k H (.int i) (.int i):=by unfold Is; rfl
theorem ofS {k:Nat} (i:Str):Is K ι k H (.str i) (.str i):=by unfold Is; rfl
theorem ofB {k:Nat} (i:Bool):Is K ι k H (.bl i) (.bl i):=by unfold Is; rfl
theorem ofN {k:Nat}:Is K ι k H .non .non:=by unfold Is; rfl
theorem F5 {d:D} {vs:List V} {k:Nat} (h:IsL K ι k H [d] vs):∃ v,vs=[v] /\ Is K ι k H d v:=by
  unfold IsL at h
  obtain ⟨v,vs',rfl,h1,h2⟩:=h
  unfold IsL at h2
  subst h2
  exact ⟨v,rfl,h1⟩
theorem TZ {d d':D} {vs:List V} {k:Nat} (h:IsL K ι k H [d,d'] vs):∃ v v',vs=[v,v'] /\ Is K ι k H d v /\ Is K ι k H d' v':=by
  unfold IsL at h
  obtain ⟨v,vs',rfl,h1,h2⟩:=h
  obtain ⟨v',rfl,h3⟩:=F5 h2
  exact ⟨v,v',rfl,h1,h3⟩
theorem SG {i:Int} {vs:List V} {k:Nat} (h:IsL K ι k H ds vs) (e:atI ds i=some d):∃ v,atI vs i=some v /\ Is K ι k H d v:=by
  unfold atI at e ⊢
  rw [h.length]
  cases q:ixN ds.length i with
  | none=>rw [q] at e; cases e
  | some j=>
    rw [q] at e
    exact h.get e
theorem Nh {vs:List V} {k:Nat} {lo hi:Option Int} (h:IsL K ι k H ds vs):IsL K ι k H ((ds.drop (HT.sIx ds.length 0 lo)).take (HT.sIx ds.length ds.length hi - HT.sIx ds.length 0 lo)) (JB vs lo hi):=by
  unfold JB
  rw [h.length]
  exact (h.drop _).take _
end
def Im (C:Int->Int->Prop) [∀ i j,Decidable (C i j)] (g:Int->Int->D):D->D->M D
  | .int i,.int j=>fun μ=>if C i j then some (g i j,μ) else none
  | _,_=>BC
def Fs:D->D->M D:=Im (fun _ _=>True) fun i j=>.int (i - j)
def AW:D->D->M D:=Im (fun _ j=>0 < j /\ j < 1073741824) fun i j=>.int (i / j)
def Am:D->D->M D:=Im (fun _ j=>0 < j) fun i j=>.int (i % j)
def Mo:D->D->M D:=Im (fun i j=>0 <= j /\ j <= 1000000 /\ i.natAbs < 2 ^ 64) fun i j=>.int (i ^ j.toNat)
def Jj:D->D->M D:=Im (fun _ _=>True) fun i j=>.bl (decide (i < j))
def LP:D->D->M D:=Im (fun _ _=>True) fun i j=>.bl (decide (j < i))
def Q7:D->D->M D:=Im (fun _ _=>True) fun i j=>.bl (decide (j <= i))
section
variable {X:Cx}
theorem Dx {f:Value->Value->Sem Value} {C:Int->Int->Prop} [∀ i j,Decidable (C i j)] {g:Int->Int->D} {gv:Int->Int->V} (hg:∀ i j ι k H,Is X.K ι k H (g i j) (gv i j)) (ho:OpR X f (rI C gv)):OpR X f (rM X.K (Im C g)):=OpR.wk ho fun x y H Q h=>by
  obtain ⟨ι,μ,a,b,d,μ',R,ia,ib,e,q⟩:=h
  cases a with
  | int i=>
    cases b with
    | int j=>
      have e':(if C i j then some (g i j,μ) else none)=some (d,μ'):=e
      split at e'
      . rename_i hc
        cases e'
        exact ⟨i,j,BV ia,BV ib,hc,q ι H R.ext0 R _ (hg i j _ _ _)⟩
      . cases e'
    | _=>cases e
  | _=>cases e
theorem OpR.ofI0 {f:Value->Value->Sem Value} {gv:Int->Int->V} (ho:OpR X f (rI0 gv)):OpR X f (rI (fun _ _=>True) gv):=OpR.wk ho fun x y H Q h=>by
  obtain ⟨i,j,h1,h2,_,q⟩:=h
  exact ⟨i,j,h1,h2,q⟩
theorem IV:OpR X (binaryOp .Sub) (rM X.K Fs):=Dx (fun _ _ _ _ _=>ofI _) (OpR.ofI0 Rb)
theorem Ao:OpR X (binaryOp .FloorDiv) (rM X.K AW):=Dx (fun _ _ _ _ _=>ofI _) PK
theorem Ay:OpR X (binaryOp .Mod) (rM X.K Am):=Dx (fun _ _ _ _ _=>ofI _) Rh
theorem TU:OpR X (binaryOp .Pow) (rM X.K Mo):=Dx (fun _ _ _ _ _=>ofI _) Re
theorem NA:OpR X (compareOp .Lt) (rM X.K Jj):=Dx (fun _ _ _ _ _=>ofB _) (OpR.ofI0 TK)
theorem PP:OpR X (compareOp .Gt) (rM X.K LP):=Dx (fun _ _ _ _ _=>ofB _) (OpR.ofI0 TL)
theorem UI:OpR X (compareOp .GtE) (rM X.K Q7):=Dx (fun _ _ _ _ _=>ofB _) (OpR.ofI0 TM)
def Ey:D->M D
  | .int i=>ret (.int (-i))
  | _=>BC
theorem IW:UnR X (unaryOp .USub) (rM1 X.K Ey):=fun pins s σ H x v Q I r h=>by
  obtain ⟨ι,μ,a,d,μ',R,ia,e,q⟩:=h
  cases a with
  | int i=>
    cases e
    have z:=BV ia
    subst z
    exact Qm pins s σ H _ v Q I r ⟨i,rfl,q ι H R.ext0 R _ (ofI _)⟩
  | _=>cases e
def Mp:D->D->M D
  | .int i,.int j=>ret (.int (i + j))
  | .str i,.str j=>bnd (lim (i.length + j.length)) fun _=>ret (.str (i ++ j))
  | .lst a,.lst b=>BA (a ++ b)
  | .tup [],.tup b=>BC
  | .tup (a :: as),.tup b=>A2 (a :: as ++ b)
  | _,_=>BC
theorem TV:OpR X (binaryOp .Add) (rM X.K Mp):=fun pins s σ H x y v u Q I rx ry h=>by
  obtain ⟨ι,μ,a,b,d,μ',R,ia,ib,e,q⟩:=h
  unfold Mp at e
  split at e
  . cases e
    cases BV ia
    cases BV ib
    exact Rk pins s σ H _ _ v u Q I rx ry ⟨_,_,rfl,rfl,q ι H R.ext0 R _ (ofI _)⟩
  . obtain ⟨_,μ1,e1,e2⟩:=AF e
    obtain ⟨hl,rfl⟩:=CK e1
    cases e2
    cases DY ia
    cases DY ib
    exact Jl pins s σ H _ _ v u Q I rx ry ⟨_,_,rfl,rfl,hl,q ι H R.ext0 R _ (ofS _)⟩
  . unfold Is at ia ib
    obtain ⟨p,vs,rfl,h1,hn,h2⟩:=ia
    obtain ⟨p',vs',rfl,h1',hn',h2'⟩:=ib
    obtain ⟨hl,w⟩:=CT R (h2.append h2') e q
    exact Rj pins s σ H _ _ v u Q I rx ry ⟨p,p',vs,vs',rfl,rfl,h1,h1',by rw [← List.length_append]; exact hl,w⟩
  . cases e
  . rename_i a as bs
    unfold Is at ia ib
    obtain ⟨p,vs,rfl,h1,h2⟩:=ia
    obtain ⟨p',vs',rfl,h1',h2'⟩:=ib
    obtain ⟨hl,w⟩:=Kd R (h2.append h2') e q
    refine PL pins s σ H _ _ v u Q I rx ry ⟨p,p',vs,vs',rfl,rfl,h1,h1',fun z=>?_,by rw [← List.length_append]; exact hl,fun z=>?_,fun _=>w⟩
    . have:=h2.length
      rw [z] at this; cases this
    . subst z
      have hb:bs=[]:=by
        have:=h2'.length
        cases bs with
        | nil=>rfl
        | cons _ _=>cases this
      subst hb
      obtain ⟨_,μ1,e1,e2⟩:=AF e
      obtain ⟨hl,rfl⟩:=CK e1
      cases e2
      exact q ι H R.ext0 R _ (by unfold Is; exact ⟨p,vs,rfl,h1,by rw [List.append_nil]; exact h2⟩)
  . cases e
def EG:D->D->M D
  | .int i,.int j=>fun μ=>if (-(2 ^ 64) < i /\ i < 2 ^ 64) ∨ (-(2 ^ 64) < j /\ j < 2 ^ 64) then some (.int (i * j),μ) else none
  | .lst a,.int j=>fun μ=>if -(2 ^ 63) <= j /\ j < 2 ^ 63 /\ a.length * j.toNat <= sizeLine then BA (List.replicate j.toNat a).flatten μ else none
  | _,_=>BC
theorem IsL.rep {K:PySem.W.Frag} {ι:Nat->Addr} {k:Nat} {H:Hp} {ds:List D} {vs:List V} (h:IsL K ι k H ds vs):∀ n:Nat,IsL K ι k H (List.replicate n ds).flatten (List.replicate n vs).flatten
  | 0=>.nil
  | n + 1=>by
    rw [List.replicate_succ,List.replicate_succ,List.flatten_cons,List.flatten_cons]
    exact h.append (IsL.rep h n)
theorem IY:OpR X (binaryOp .Mult) (rM X.K EG):=fun pins s σ H x y v u Q I rx ry h=>by
  obtain ⟨ι,μ,a,b,d,μ',R,ia,ib,e,q⟩:=h
  unfold EG at e
  split at e
  . split at e
    . rename_i hc
      cases e
      cases BV ia
      cases BV ib
      exact Rg pins s σ H _ _ v u Q I rx ry ⟨_,_,rfl,rfl,hc,q ι H R.ext0 R _ (ofI _)⟩
    . cases e
  . split at e
    . rename_i hc
      cases BV ib
      unfold Is at ia
      obtain ⟨p,vs,rfl,h1,hn,h2⟩:=ia
      obtain ⟨hl,w⟩:=CT R (h2.rep _) e q
      exact Rc pins s σ H _ _ v u Q I rx ry ⟨p,_,vs,rfl,rfl,h1,hc.1,hc.2.1,by rw [h2.length]; exact hc.2.2,w⟩
    . cases e
  . cases e
mutual
def toP (μ:Mh):D->Option PyData
  | .non=>some .none
  | .bl b=>some (.bool b)
  | .int i=>some (.int i)
  | .str x=>some (.str x)
  | .ty _=>none
  | .scr ns=>some (.list (ns.map PyData.int))
  | .tup ds=>(Du μ ds).map PyData.tuple
  | .lst ds=>(Du μ ds).map PyData.list
  | .ref _=>none
def Du (μ:Mh):List D->Option (List PyData)
  | []=>some []
  | d :: ds=>(toP μ d).bind fun p=>(Du μ ds).map (p :: ·)
end
def GT (μ:Mh):D->Option PyData
  | .ref n=>match μ[n]? with
    | some (.lst ds)=>(Du μ ds).map PyData.list
    | _=>none
  | d=>toP μ d
section
variable {K:PySem.W.Frag} {ι:Nat->Addr} {μ:Mh} {H:Hp} {k:Nat}
theorem Ks:∀ (ns:List Int),DatVs K H (ns.map V.int) (ns.map PyData.int)
  | []=>.nil
  | n :: r=>.cons (.int n) (Ks r)
mutual
theorem Is.dat:∀ {d:D} {v:V} {p:PyData},Is K ι k H d v->toP μ d=some p->DatV K H v p
  | .non,_,_,h,e=>by unfold Is at h; unfold toP at e; cases e; subst h; exact .non
  | .bl b,_,_,h,e=>by unfold Is at h; unfold toP at e; cases e; subst h; exact .bl b
  | .int b,_,_,h,e=>by unfold Is at h; unfold toP at e; cases e; subst h; exact .int b
  | .str b,_,_,h,e=>by unfold Is at h; unfold toP at e; cases e; subst h; exact .str b
  | .ty b,_,_,h,e=>by unfold toP at e; cases e
  | .scr ns,_,_,h,e=>by
    unfold Is at h; unfold toP at e; cases e
    obtain ⟨p,rfl,h⟩:=h
    exact .lst h.sq (Ks ns)
  | .tup ds,_,_,h,e=>by
    unfold Is at h; unfold toP at e
    obtain ⟨p,vs,rfl,h1,h2⟩:=h
    cases q:Du μ ds with
    | none=>rw [q] at e; cases e
    | some ps=>rw [q] at e; cases e; exact .tup h1 (IsL.dat h2 q)
  | .lst ds,_,_,h,e=>by
    unfold Is at h; unfold toP at e
    obtain ⟨p,vs,rfl,h1,_,h2⟩:=h
    cases q:Du μ ds with
    | none=>rw [q] at e; cases e
    | some ps=>rw [q] at e; cases e; exact .lst (SqL.of h1) (IsL.dat h2 q)
  | .ref n,_,_,h,e=>by unfold toP at e; cases e
theorem IsL.dat:∀ {ds:List D} {vs:List V} {ps:List PyData},IsL K ι k H ds vs->Du μ ds=some ps->DatVs K H vs ps
  | [],_,_,h,e=>by unfold IsL at h; unfold Du at e; cases e; subst h; exact .nil
  | d :: ds,_,_,h,e=>by
    unfold IsL at h; unfold Du at e
    obtain ⟨v,vs',rfl,h1,h2⟩:=h
    cases q:toP μ d with
    | none=>rw [q] at e; cases e
    | some p=>
      rw [q] at e
      cases q2:Du μ ds with
      | none=>rw [q2] at e; cases e
      | some ps=>rw [q2] at e; cases e; exact .cons (Is.dat h1 q) (IsL.dat h2 q2)
end
theorem Pl (R:RelH K ι μ H) {d:D} {v:V} {p:PyData} (h:Is K ι μ.length H d v) (e:GT μ d=some p):DatV K H v p:=by
  cases d with
  | ref n=>
    unfold Is at h
    obtain ⟨_,rfl⟩:=h
    have e':(match μ[n]? with | some (.lst ds)=>(Du μ ds).map PyData.list | _=>none)=some p:=e
    split at e'
    . rename_i ds hq
      obtain ⟨u,h1,vs,rfl,h2⟩:=R.obj n _ hq
      cases q:Du μ ds with
      | none=>rw [q] at e'; cases e'
      | some ps=>rw [q] at e'; cases e'; exact .lst (SqL.of h1) (IsL.dat h2 q)
    . cases e'
  | _=>exact Is.dat (μ:=μ) h e
end
def DT (neg:Bool) (a b:D):M D:=fun μ=>match GT μ a,GT μ b with
  | some p,some q=>if SeqAt.shaped p=true /\ SeqAt.shaped q=true then some (.bl (if neg then !PyData.eqv p q else PyData.eqv p q),μ) else none
  | _,_=>none
def CI:D->D->M D:=DT false
def EF:D->D->M D:=DT true
theorem Ft {neg:Bool} {a b d:D} {μ μ':Mh} (e:DT neg a b μ=some (d,μ')):∃ p q,GT μ a=some p /\ GT μ b=some q /\ SeqAt.shaped p=true /\ SeqAt.shaped q=true /\ d=.bl (if neg then !PyData.eqv p q else PyData.eqv p q) /\ μ'=μ:=by
  unfold DT at e
  split at e
  . rename_i p q e1 e2
    split at e
    . rename_i h
      cases e
      exact ⟨p,q,e1,e2,h.1,h.2,rfl,rfl⟩
    . cases e
  . cases e
theorem DV {k:Nat} (hr:Room k X.A):OpR X (compareOp .Eq) (rM X.K CI):=OpR.wk (Ri (Ma hr)) fun x y H Q h=>by
  obtain ⟨ι,μ,a,b,d,μ',R,ia,ib,e,q⟩:=h
  obtain ⟨p,p',e1,e2,s1,s2,rfl,rfl⟩:=Ft e
  exact ⟨p,p',Pl R ia e1,Pl R ib e2,s1,s2,q ι H R.ext0 R _ (ofB _)⟩
theorem IX {k:Nat} (hr:Room k X.A):OpR X (compareOp .NotEq) (rM X.K EF):=OpR.wk (Rf (Ma hr)) fun x y H Q h=>by
  obtain ⟨ι,μ,a,b,d,μ',R,ia,ib,e,q⟩:=h
  obtain ⟨p,p',e1,e2,s1,s2,rfl,rfl⟩:=Ft e
  exact ⟨p,p',Pl R ia e1,Pl R ib e2,s1,s2,q ι H R.ext0 R _ (ofB _)⟩
def isN:D->Bool
  | .non=>true
  | _=>false
def S6 (neg:Bool):D->D->M D
  | a,.non=>ret (.bl (if neg then !isN a else isN a))
  | _,_=>BC
theorem Ph {K:PySem.W.Frag} {ι:Nat->Addr} {k:Nat} {H:Hp} {a:D} {x:V} (h:Is K ι k H a x):decide (x=V.non)=isN a:=by
  cases a with
  | non=>unfold Is at h; subst h; rfl
  | bl b=>unfold Is at h; subst h; rfl
  | int b=>unfold Is at h; subst h; rfl
  | str b=>unfold Is at h; subst h; rfl
  | ty b=>unfold Is at h; subst h; rfl
  | scr ns=>unfold Is at h; obtain ⟨p,rfl,_⟩:=h; rfl
  | tup ns=>unfold Is at h; obtain ⟨p,o,rfl,_⟩:=h; rfl
  | lst ns=>unfold Is at h; obtain ⟨p,o,rfl,_⟩:=h; rfl
  | ref ns=>unfold Is at h; obtain ⟨_,rfl⟩:=h; rfl
theorem PN:OpR X (compareOp .IsNot) (rM X.K (S6 true)):=OpR.wk PJ fun x y H Q h=>by
  obtain ⟨ι,μ,a,b,d,μ',R,ia,ib,e,q⟩:=h
  cases b with
  | non=>cases e; exact ⟨NR ib,by rw [Ph ia]; exact q ι H R.ext0 R _ (ofB _)⟩
  | _=>cases e
def Kq:D->Option V
  | .non=>some .non
  | .bl b=>some (.bl b)
  | .int i=>some (.int i)
  | .str x=>some (.str x)
  | _=>none
def GA:List D->Option (List V)
  | []=>some []
  | d :: ds=>(Kq d).bind fun v=>(GA ds).map (v :: ·)
section
variable {K:PySem.W.Frag} {ι:Nat->Addr} {H:Hp} {k:Nat}
theorem Iu {d:D} {v x:V} (h:Is K ι k H d x) (e:Kq d=some v):x=v /\ Ds v=true:=by
  cases d with
  | non=>cases e; unfold Is at h; exact ⟨h,rfl⟩
  | bl b=>cases e; unfold Is at h; exact ⟨h,rfl⟩
  | int b=>cases e; unfold Is at h; exact ⟨h,rfl⟩
  | str b=>cases e; unfold Is at h; exact ⟨h,rfl⟩
  | _=>cases e
theorem Gx:∀ {ds:List D} {vs xs:List V},IsL K ι k H ds xs->GA ds=some vs->xs=vs /\ vs.all Ds=true
  | [],_,_,h,e=>by cases e; unfold IsL at h; exact ⟨h,rfl⟩
  | d :: ds,_,_,h,e=>by
    unfold IsL at h
    obtain ⟨v,vs',rfl,h1,h2⟩:=h
    unfold GA at e
    cases q:Kq d with
    | none=>rw [q] at e; cases e
    | some w=>
      rw [q] at e
      cases q2:GA ds with
      | none=>rw [q2] at e; cases e
      | some ws=>
        rw [q2] at e; cases e
        obtain ⟨rfl,f1⟩:=Iu h1 q
        obtain ⟨rfl,f2⟩:=Gx h2 q2
        exact ⟨rfl,by rw [List.all_cons,f1,f2]; rfl⟩
end
def B6:D->M (List D)
  | .tup ds=>ret ds
  | d=>A6 d
theorem Et {K:PySem.W.Frag} {ι:Nat->Addr} {μ μ':Mh} {H:Hp} {d:D} {v:V} {ds:List D} (R:RelH K ι μ H) (i:Is K ι μ.length H d v) (e:B6 d μ=some (ds,μ')):μ'=μ /\ ∃ p vs,v=.ref p /\ (SqL K H p vs ∨ SqT K H p vs) /\ IsL K ι μ.length H ds vs:=by
  cases d with
  | tup es=>
    cases e
    unfold Is at i
    obtain ⟨p,vs,rfl,h1,h2⟩:=i
    exact ⟨rfl,p,vs,rfl,.inr h1,h2⟩
  | lst es=>obtain ⟨h,p,vs,a,b,c⟩:=BZ R i e; exact ⟨h,p,vs,a,.inl b,c⟩
  | scr es=>obtain ⟨h,p,vs,a,b,c⟩:=BZ R i e; exact ⟨h,p,vs,a,.inl b,c⟩
  | ref es=>obtain ⟨h,p,vs,a,b,c⟩:=BZ R i e; exact ⟨h,p,vs,a,.inl b,c⟩
  | _=>cases e
def QJ (neg:Bool) (a b:D):M D:=bnd (B6 b) fun ds=>fun μ=>match Kq a,GA ds with
  | some x,some xs=>some (.bl (if neg then !inV x xs else inV x xs),μ)
  | _,_=>none
def Ou (neg:Bool):D->D->M D
  | .str i,.str j=>ret (.bl (if neg then !(!(Builtin.Str.occurrences j i 0 j.length 1).isEmpty) else !(Builtin.Str.occurrences j i 0 j.length 1).isEmpty))
  | a,b=>QJ neg a b
theorem Q4 {K:PySem.W.Frag} {neg:Bool} {x y:V} {H:Hp} {Q:VK} {ι:Nat->Addr} {μ μ':Mh} {a b d:D} (R:RelH K ι μ H) (ia:Is K ι μ.length H a x) (ib:Is K ι μ.length H b y) (e:QJ neg a b μ=some (d,μ')) (q:Aft K ι μ H μ' fun ι' H'=>∀ v,Is K ι' μ'.length H' d v->Q v H'):rIn K neg x y H Q:=by
  obtain ⟨ds,μ1,e1,e2⟩:=AF e
  obtain ⟨hm,p,vs,rfl,h1,h2⟩:=Et R ib e1
  subst hm
  split at e2
  . rename_i w ws q1 q2
    cases e2
    obtain ⟨rfl,f1⟩:=Iu ia q1
    obtain ⟨rfl,f2⟩:=Gx h2 q2
    exact ⟨p,_,rfl,h1,f1,f2,q ι H R.ext0 R _ (ofB _)⟩
  . cases e2
theorem UH:OpR X (compareOp .In) (rM X.K (Ou false)):=fun pins s σ H x y v u Q I rx ry h=>by
  obtain ⟨ι,μ,a,b,d,μ',R,ia,ib,e,q⟩:=h
  unfold Ou at e
  split at e
  . cases e
    cases DY ia
    cases DY ib
    exact LW pins s σ H _ _ v u Q I rx ry ⟨_,_,rfl,rfl,q ι H R.ext0 R _ (ofB _)⟩
  . exact LX pins s σ H _ _ v u Q I rx ry (Q4 R ia ib e q)
def ixD (ds:List D) (i:Int):M D:=fun μ=>(atI ds i).map fun d=>(d,μ)
def Ab:D->D->M D
  | .str z,.int i=>fun μ=>if z.length <= sizeLine then (atI z.cps.toList i).map fun c=>(.str ⟨#[c]⟩,μ) else none
  | a,.int i=>bnd (B6 a) fun ds=>ixD ds i
  | _,_=>BC
theorem Au:IxR X (rM X.K Ab):=fun va sl pins s σ H x y v u Q I rx ry h hsl=>by
  obtain ⟨ι,μ,a,b,d,μ',R,ia,ib,e,q⟩:=h
  unfold Ab at e
  split at e
  . split at e
    . rename_i z i hl
      cases DY ia
      cases BV ib
      cases qq:atI z.cps.toList i with
      | none=>rw [qq] at e; cases e
      | some c=>
        rw [qq] at e; cases e
        exact Jq va sl pins s σ H _ _ v u Q I rx ry (.inr (.inr ⟨z,i,c,rfl,rfl,hl,qq,q ι H R.ext0 R _ (ofS _)⟩)) hsl
    . cases e
  . cases BV ib
    obtain ⟨ds,μ1,e1,e2⟩:=AF e
    obtain ⟨hm,p,vs,rfl,h1,h2⟩:=Et R ia e1
    subst hm
    rename_i i _
    unfold ixD at e2
    cases qq:atI ds i with
    | none=>rw [qq] at e2; cases e2
    | some c=>
      rw [qq] at e2; cases e2
      obtain ⟨w,ew,iw⟩:=SG h2 qq
      rcases h1 with h1 | h1
      . exact Jq va sl pins s σ H _ _ v u Q I rx ry (.inl ⟨p,vs,i,w,rfl,rfl,h1,ew,q ι H R.ext0 R _ iw⟩) hsl
      . exact Jq va sl pins s σ H _ _ v u Q I rx ry (.inr (.inl ⟨p,vs,i,w,rfl,rfl,h1,ew,q ι H R.ext0 R _ iw⟩)) hsl
  . cases e
def D3:List D->M D
  | [.str z]=>fun μ=>if z.length <= sizeLine then some (.int z.length,μ) else none
  | [.ref n]=>fun μ=>match μ[n]? with
    | some (.lst ds)=>some (.int ds.length,μ)
    | _=>none
  | [d]=>bnd (B6 d) fun ds=>ret (.int ds.length)
  | _=>BC
theorem FA:B7 X (.builtin "len") (rMA X.K D3):=fun pins s σ H xs us Q I r h=>by
  obtain ⟨ι,μ,as,d,μ',R,ia,e,q⟩:=h
  refine No pins s σ H xs us Q I r ?_
  unfold D3 at e
  split at e
  . rename_i z
    obtain ⟨v,rfl,i1⟩:=F5 ia
    split at e
    . rename_i hl
      cases e
      cases DY i1
      exact ⟨_,_,rfl,⟨hl,rfl⟩,q ι H R.ext0 R _ (ofI _)⟩
    . cases e
  . rename_i n
    obtain ⟨v,rfl,i1⟩:=F5 ia
    unfold Is at i1
    obtain ⟨_,rfl⟩:=i1
    split at e
    . rename_i ds hq
      cases e
      obtain ⟨u,h1,vs,rfl,h2⟩:=R.obj n _ hq
      exact ⟨_,_,rfl,.inl ⟨vs,SqL.of h1,rfl⟩,by rw [h2.length]; exact q ι H R.ext0 R _ (ofI _)⟩
    . cases e
  . obtain ⟨v,rfl,i1⟩:=F5 ia
    obtain ⟨ds,μ1,e1,e2⟩:=AF e
    obtain ⟨hm,p,vs,rfl,h1,h2⟩:=Et R i1 e1
    subst hm
    cases e2
    rw [← h2.length] at q
    rcases h1 with h1 | h1
    . exact ⟨_,_,rfl,.inl ⟨vs,h1,rfl⟩,q ι H R.ext0 R _ (ofI _)⟩
    . exact ⟨_,_,rfl,.inr ⟨vs,h1,rfl⟩,q ι H R.ext0 R _ (ofI _)⟩
  . cases e
def Gc (ds:List D) (lo hi:Option Int):List D:=(ds.drop (HT.sIx ds.length 0 lo)).take (HT.sIx ds.length ds.length hi - HT.sIx ds.length 0 lo)
def S5 (lo hi:Option Int):D->M D
  | .tup ds=>if HT.sIx ds.length 0 lo=0 /\ HT.sIx ds.length ds.length hi=ds.length then BC else ret (.tup (Gc ds lo hi))
  | d=>bnd (A6 d) fun ds=>ret (.lst (Gc ds lo hi))
def rMS (K:PySem.W.Frag):V->Option Int->Option Int->Hp->VK->Prop:=fun x lo hi H Q=>∃ ι μ a d μ',RelH K ι μ H /\ Is K ι μ.length H a x /\ S5 lo hi a μ=some (d,μ') /\
  Aft K ι μ H μ' fun ι' H'=>∀ v,Is K ι' μ'.length H' d v->Q v H'
theorem P8 {K:PySem.W.Frag} {ι:Nat->Addr} {μ:Mh} {H:Hp} {ds:List D} {vs:List V} {Q:VK} (R:RelH K ι μ H) (i:IsL K ι μ.length H ds vs) (q:Aft K ι μ H μ fun ι' H'=>∀ v,Is K ι' μ.length H' (.lst ds) v->Q v H') (p:Addr) (hp:H p=none):Q (.ref p) (upd H p (.lst vs)):=by
  obtain ⟨E1,R1⟩:=R.laid (.lst vs) hp
  have ho:∀ n,n < μ.length->ι n ≠ p:=fun n hn z=>by
    obtain ⟨o,e,_⟩:=R.muts n hn
    rw [z,hp] at e; cases e
  exact q ι _ E1 R1 _ (by unfold Is; exact ⟨p,vs,rfl,At,ho,i.ext E1⟩)
theorem Ih {K:PySem.W.Frag} {ι:Nat->Addr} {μ:Mh} {H:Hp} {ds:List D} {vs:List V} {Q:VK} (R:RelH K ι μ H) (i:IsL K ι μ.length H ds vs) (q:Aft K ι μ H μ fun ι' H'=>∀ v,Is K ι' μ.length H' (.tup ds) v->Q v H') (p:Addr) (hp:H p=none):Q (.ref p) (upd H p (.tup vs)):=by
  obtain ⟨E1,R1⟩:=R.laid (.tup vs) hp
  exact q ι _ E1 R1 _ (by unfold Is; exact ⟨p,vs,rfl,SqT.of At,i.ext E1⟩)
theorem UG:SlR X (rMS X.K):=fun pins s σ H x v vl vu lo hi sl Q I rx hs pl pu h=>by
  obtain ⟨ι,μ,a,d,μ',R,ia,e,q⟩:=h
  refine (SlR.or OV Qu) pins s σ H x v vl vu lo hi sl Q I rx hs pl pu ?_
  unfold S5 at e
  split at e
  . rename_i ds
    unfold Is at ia
    obtain ⟨p,vs,rfl,h1,h2⟩:=ia
    split at e
    . cases e
    . rename_i hc
      cases e
      exact .inr ⟨p,vs,rfl,h1,by rw [h2.length]; exact hc,fun p hp=>Ih R (Nh h2) q p hp⟩
  . obtain ⟨ds,μ1,e1,e2⟩:=AF e
    obtain ⟨hm,p,vs,rfl,h1,h2⟩:=BZ R ia e1
    subst hm
    cases e2
    exact .inl ⟨p,vs,rfl,h1,fun p hp=>P8 R (Nh h2) q p hp⟩
def Fx:Sl->M (Option Int):=fun _=>ret none
def asI:D->M (Option Int)
  | .int i=>ret (some i)
  | _=>BC
def Ig (m:Sl->M D):Sl->M (Option Int):=fun τ=>bnd (m τ) asI
def tPt (K:PySem.W.Frag) (m:Sl->M (Option Int)):TO:=fun σ H Q=>∃ ι μ τ b μ',RelH K ι μ H /\ RelS K ι μ.length H τ σ /\ m τ μ=some (b,μ') /\ Aft K ι μ H μ' fun _ H'=>Q b H'
structure RO (X:Cx) (e:Option Expr) (m:Sl->M (Option Int)):Prop where
  pe:PO X e (tPt X.K m)
theorem PO.wk {e:Option Expr} {t t':TO} (h:PO X e t) (w:∀ σ H Q,t' σ H Q->t σ H Q):PO X e t':=fun pins s σ H Q I q=>h pins s σ H Q I (w σ H Q q)
theorem RO.wk {e:Option Expr} {m:Sl->M (Option Int)} {t:TO} (h:PO X e t) (w:∀ σ H Q,tPt X.K m σ H Q->t σ H Q):RO X e m:=⟨PO.wk h w⟩
theorem HN:RO X none Fx:=RO.wk O6 fun σ H Q h=>by
  obtain ⟨ι,μ,τ,b,μ',R,S,e,q⟩:=h
  cases e
  exact q ι H R.ext0 R
theorem HM {e:Expr} {m:Sl->M D} (h:RE X e m):RO X (some e) (Ig m):=RO.wk (O5 h.pe) fun σ H Q h=>by
  obtain ⟨ι,μ,τ,b,μ',R,S,e,q⟩:=h
  obtain ⟨x,μ1,e1,e⟩:=AF e
  refine ⟨ι,μ,τ,x,μ1,R,S,e1,fun ι1 H1 E1 R1 v i1=>?_⟩
  cases x with
  | int i=>cases e; exact ⟨i,BV i1,q ι1 H1 E1 R1⟩
  | _=>cases e
def tyD (μ:Mh):D->Option String
  | .non=>some "NoneType"
  | .bl _=>some "bool"
  | .int _=>some "int"
  | .str _=>some "str"
  | .tup _=>some "tuple"
  | .lst _=>some "list"
  | .scr _=>none
  | .ref n=>match μ[n]? with
    | some (.lst _)=>some "list"
    | some (.dK _)=>some "dict"
    | some (.dC _)=>none
    | some (.ins _ _)=>none
    | none=>none
  | .ty _=>none
def Km (t T:String):Option Bool:=
  if t ∈ ["NoneType", "bool", "int", "str", "tuple", "list", "dict"] /\ T ∈ ["bool", "int", "str", "tuple", "list", "dict"] then some (t == T || (t == "bool" && T == "int")) else none
theorem PY {K:PySem.W.Frag} {t T:String} {b:Bool} (h:Km t T=some b):PySem.W.kitOne K (.type t) (.type T)=some b:=by
  unfold Km at h
  split at h
  . rename_i hm
    obtain ⟨h1,h2⟩:=hm
    simp only [List.mem_cons,List.not_mem_nil,or_false] at h1 h2
    rcases h1 with rfl | rfl | rfl | rfl | rfl | rfl | rfl <;> rcases h2 with rfl | rfl | rfl | rfl | rfl | rfl <;> (cases h; kernel_rfl)
  . cases h
def NU:List D->M D
  | [a,.ty T]=>fun μ=>match tyD μ a with
    | some t=>(Km t T).map fun b=>(.bl b,μ)
    | none=>none
  | _=>BC
theorem SE:B7 X (.builtin "isinstance") (rMA X.K NU):=fun pins s σ H xs us Q I r h=>by
  obtain ⟨ι,μ,as,d,μ',R,ia,e,q⟩:=h
  unfold NU at e
  split at e
  . rename_i a T
    obtain ⟨v,v',rfl,i1,i2⟩:=TZ ia
    cases TY i2
    split at e
    . rename_i t ht
      cases hk:Km t T with
      | none=>rw [hk] at e; cases e
      | some b=>
        rw [hk] at e; cases e
        have kit:=PY (K:=X.K) hk
        have fin:=q ι H R.ext0 R _ (ofB b)
        have byTy:EX X.K H v (.type t)->wpAny (model X.prog X.w) X.A (call (.builtin "isinstance") us) (EP X pins σ Q) X.xe s:=fun ty=>
          JI pins s σ H _ us Q I r ⟨v,T,_,b,rfl,ty,kit,fin⟩
        cases a with
        | non=>cases ht; cases NR i1; exact byTy .non
        | bl x=>cases ht; cases QI i1; exact byTy (.bl x)
        | int x=>cases ht; cases BV i1; exact byTy (.int x)
        | str x=>cases ht; cases DY i1; exact byTy (.str x)
        | ty n=>cases ht
        | lst ds=>cases ht; unfold Is at i1; obtain ⟨p,vs,rfl,h1,_⟩:=i1; exact byTy (.lst h1)
        | scr ns=>cases ht
        | ref n=>
          unfold Is at i1
          obtain ⟨_,rfl⟩:=i1
          have ht:(match μ[n]? with | some (.lst _)=>some "list" | some (.dK _)=>some "dict" | some (.dC _)=>none | some (.ins _ _)=>none | none=>none)=some t:=ht
          split at ht
          . rename_i ds hq; cases ht; obtain ⟨u,h1,vs,rfl,h2⟩:=R.obj n _ hq; exact byTy (.lst h1)
          . rename_i ds hq; cases ht; obtain ⟨u,h1,vs,rfl,h2⟩:=R.obj n _ hq; exact byTy (.dK h1)
          . cases ht
          . cases ht
          . cases ht
        | tup ds=>
          cases ht
          unfold Is at i1
          obtain ⟨p,vs,rfl,h1,h2⟩:=i1
          obtain ⟨its,_,⟨o,g1,g2,_⟩,_⟩:=I.tuple h1
          obtain ⟨u1,u2,rfl,r1,r2⟩:=Vals.two r
          cases r1
          cases r2
          exact PySem.W.kia_one PySem.W.kitx_tuple I.kIn ⟨o,g1,g2⟩ kit (fun z=>nomatch z) fun tk=>⟨.bl b,H,I.tok _,rfl,fin⟩
    . cases e
  . cases e
def NT:List D->M D
  | [.int i]=>ret (.int i)
  | [.bl b]=>ret (.int (if b then 1 else 0))
  | _=>BC
theorem QP:B7 X (.type "int") (rMA X.K NT):=fun pins s σ H xs us Q I r h=>by
  obtain ⟨ι,μ,as,d,μ',R,ia,e,q⟩:=h
  refine Lq pins s σ H xs us Q I r ?_
  unfold NT at e
  split at e
  . obtain ⟨v,rfl,i1⟩:=F5 ia; cases e; cases BV i1; exact .inl ⟨_,rfl,q ι H R.ext0 R _ (ofI _)⟩
  . obtain ⟨v,rfl,i1⟩:=F5 ia; cases e; cases QI i1; exact .inr ⟨_,rfl,q ι H R.ext0 R _ (ofI _)⟩
  . cases e
def CB:List D->M D
  | [.tup ds]=>ret (.tup ds)
  | [d]=>bnd (A6 d) fun ds=>ret (.tup ds)
  | _=>BC
theorem DK:B7 X (.type "tuple") (rMA X.K CB):=fun pins s σ H xs us Q I r h=>by
  obtain ⟨ι,μ,as,d,μ',R,ia,e,q⟩:=h
  unfold CB at e
  split at e
  . obtain ⟨v,rfl,i1⟩:=F5 ia
    cases e
    have i2:=i1
    unfold Is at i1
    obtain ⟨p,vs,rfl,h1,h2⟩:=i1
    exact JG pins s σ H _ us Q I r ⟨p,vs,rfl,h1,q ι H R.ext0 R _ i2⟩
  . obtain ⟨v,rfl,i1⟩:=F5 ia
    obtain ⟨ds,μ1,e1,e2⟩:=AF e
    obtain ⟨hm,p,vs,rfl,h1,h2⟩:=BZ R i1 e1
    subst hm
    cases e2
    obtain ⟨u,rfl,ru⟩:=Vals.one r
    cases ru
    obtain ⟨its,rv,pl,hz⟩:=I.list h1
    refine PySem.call_tuple_list pl.isList (fun h' hk=>?_) (by rw [List.size_toArray,← rv.length]; exact hz)
    have I1:Inv X pins σ H { s with heap:=h' }:=I.kept (t':=s.toks) hk
    have I2:Inv X pins σ (upd H h'.objs.size (.tup vs)) { s with heap:=h'.push { cls:=.type "tuple",data:=.seq its.toArray } }:=I1.laid (t':=s.toks) (o:=.tup vs) (fun b ob q=>Heap.get?_push_of_some _ q) (Nat.le_refl _) ⟨hz,its,rv,PyProof.Rows.IsTup.new _ _⟩
    exact ⟨.ref h'.objs.size,_,I2,rfl,Ih R h2 q _ (I1.hok.fresh (Nat.le_refl _))⟩
  . cases e
end
end Mi
namespace Mi
open PySem L2
section
variable {X:Cx} {e a b c o i f tg:Expr} {es:List Expr} {pos apos cpos:Pos}
theorem On {x:Str} {n:String} (hm:X.mg x=none) (hv:bootBuiltins x=some (.type n)) (hg:Gl X x:=by rfl) (hn:x ≠ "__name__" := by decide) (hdb:(x == ("__debug__" : Str))=false:=by decide):RE X (.Name x pos) (mC (.ty n)):=
  LM (t:=fun _ _ _=>True) (PF (v:=.ty n) hg hm hv rfl hn hdb) fun _ _ _=>by unfold Is; rfl
def CO (d:D):M Unit:=bnd (A6 d) fun _=>ret ()
def BL (g:D->List D->M D) (mo:Sl->M D) (ma:Sl->M (List D)):Sl->M D:=fun τ=>bnd (mo τ) fun x=>bnd (CO x) fun _=>bnd (ma τ) fun xs=>g x xs
def rMM (K:PySem.W.Frag) (g:D->List D->M D):V->List V->Hp->VK->Prop:=fun x xs H Q=>∃ ι μ a as d μ',RelH K ι μ H /\ Is K ι μ.length H a x /\ IsL K ι μ.length H as xs /\ g a as μ=some (d,μ') /\
  Aft K ι μ H μ' fun ι' H'=>∀ v,Is K ι' μ'.length H' d v->Q v H'
theorem E8 {K:PySem.W.Frag} {ι:Nat->Addr} {μ μ':Mh} {H:Hp} {d:D} {v:V} {u:Unit} (R:RelH K ι μ H) (i:Is K ι μ.length H d v) (e:CO d μ=some (u,μ')):μ'=μ /\ tyV K "list" v H:=by
  obtain ⟨ds,μ1,e1,ee1⟩:=AF e
  cases ee1
  obtain ⟨hm,p,vs,rfl,h1,h2⟩:=BZ R i e1
  exact ⟨hm,.inl ⟨rfl,vs,h1⟩⟩
theorem Gs {μ μ':Mh} {d:D} {u:Unit} (e:CO d μ=some (u,μ')):μ'=μ:=by
  obtain ⟨ds,μ1,e1,ee1⟩:=AF e
  cases ee1
  cases d with
  | lst _=>cases e1; rfl
  | scr _=>cases e1; rfl
  | ref n=>
    have e1:(match μ[n]? with | some (.lst ds)=>some (ds,μ) | _=>none)=some (ds,μ'):=e1
    split at e1
    . cases e1; rfl
    . cases e1
  | _=>cases e1
theorem ML {K:PySem.W.Frag} {g:D->List D->M D} {mo:Sl->M D} {ma:Sl->M (List D)} {σ:St} {H:Hp} {Q:VK} (h:tE K (BL g mo ma) σ H Q):tBM K "list" (rMM K g) (tE K mo) (tL K ma) σ H Q:=by
  obtain ⟨ι,μ,τ,d,μ',R,S,e,q⟩:=h
  obtain ⟨x,μ1,e1,ee1⟩:=AF e
  obtain ⟨u,μ2,e2,ee2⟩:=AF ee1
  obtain ⟨as,μ3,e3,ee3⟩:=AF ee2
  have hm:=Gs e2
  subst hm
  refine ⟨ι,μ,τ,x,_,R,S,e1,fun ι1 H1 E1 R1 v1 i1=>⟨(E8 R1 i1 e2).2,?_⟩⟩
  refine ⟨ι1,_,τ,as,μ3,R1,S.ext E1,e3,fun ι2 H2 E2 R2 vs i2=>?_⟩
  exact ⟨ι2,μ3,x,as,d,μ',R2,i1.ext E2,i2,ee3,fun ι3 H3 E3 R3=>q ι3 H3 ((E1.trans E2).trans E3) R3⟩
theorem B1 {name:Str} {id:String} {g:D->List D->M D} {mo:Sl->M D} {ma:Sl->M (List D)} (slot:Slot "list" name id) (hty:typeOf (.builtin id)=pure (.type "method_descriptor")) (hm:MtR X id (rMM X.K g)) (ho:RE X o mo) (ha:RA X (e :: es) ma)
    (hbase:attributeBase o name X.env (eval o X.env)=eval o X.env:=by rfl)
    (hfew:((backTo cpos (starEach (e :: es) X.env)).all (fun x=>!x.1) && (backToKw cpos (keywordEach [] X.env)).all (fun x=>x.1.isSome)
      && decide ((e :: es).length + ([]:List Keyword).length + (if ([]:List Keyword).isEmpty then 0 else 1) < 30))=true:=by rfl)
    (hline:(apos.endLine == cpos.line)=true:=by rfl) (hs:starEach (e :: es) X.env=(false,eval e X.env) :: starEach es X.env:=by exact AY rfl) (hplain:(backTo cpos (starEach es X.env)).any (·.1)=false:=by exact BQ rfl) :
    RE X (.Call (.Attribute o name apos) (e :: es) [] cpos) (BL g mo ma):=RE.wk (TH PySem.F.plainAttrs_list slot hty hm ho.pe ha.pe hbase hfew hline hs hplain) fun _ _ _ h=>ML h
def D9 (n:Nat) (k:List D->Option (D × List D)):M D:=fun μ=>match μ[n]? with
  | some (.lst ds)=>(k ds).map fun r=>(r.1,μ.set n (.lst r.2))
  | _=>none
theorem Dd {n:Nat} {k:List D->Option (D × List D)} {μ μ':Mh} {d:D} (e:D9 n k μ=some (d,μ')):∃ ds es,μ[n]? = some (.lst ds) /\ k ds=some (d,es) /\ μ'=μ.set n (.lst es):=by
  unfold D9 at e
  split at e
  . rename_i ds hq
    cases hk:k ds with
    | none=>rw [hk] at e; cases e
    | some r=>rw [hk] at e; cases e; exact ⟨ds,r.2,hq,hk,rfl⟩
  . cases e
theorem FK {K:PySem.W.Frag} {ι:Nat->Addr} {μ:Mh} {H:Hp} {n:Nat} {d:D} {es:List D} {ws:List V} {v:V} {Q:VK} {ds:List D} (R:RelH K ι μ H) (hn:μ[n]? = some (.lst ds)) (iw:IsL K ι μ.length H es ws) (iv:Is K ι μ.length H d v)
    (q:Aft K ι μ H (μ.set n (.lst es)) fun ι' H'=>∀ v,Is K ι' (μ.set n (.lst es)).length H' d v->Q v H'):Q v (upd H (ι n) (.lst ws)):=by
  have hlt:n < μ.length:=(List.getElem?_eq_some_iff.mp hn).1
  obtain ⟨E1,R1⟩:=R.changed (m:=.lst es) (o:=.lst ws) hlt ⟨ws,rfl,iw⟩
  exact q ι _ E1 R1 v (iv.ext E1)
def Gd:D->List D->M D
  | .ref n,[d]=>D9 n fun ds=>if ds.length < sizeLine then some (.non,ds ++ [d]) else none
  | _,_=>BC
theorem C1:MtR X "list.append" (rMM X.K Gd):=fun pins s σ H x xs v us Q I rx rs h=>by
  obtain ⟨ι,μ,a,as,d,μ',R,ia,ib,e,q⟩:=h
  unfold Gd at e
  split at e
  . rename_i n y
    obtain ⟨ds,es,h1,h2,rfl⟩:=Dd e
    split at h2
    . rename_i hl
      cases h2
      obtain ⟨w,rfl,iw⟩:=F5 ib
      unfold Is at ia
      obtain ⟨_,rfl⟩:=ia
      obtain ⟨u,g1,vs,rfl,g2⟩:=R.obj n _ h1
      exact Lb pins s σ H _ _ v us Q I rx rs ⟨_,vs,w,rfl,rfl,g1,by rw [g2.length]; exact hl,FK R h1 (g2.append (.one iw)) ofN q⟩
    . cases h2
  . cases e
def Iw:D->List D->M D
  | .ref n,[.lst zs]=>D9 n fun ds=>if ds.length + zs.length <= sizeLine then some (.non,ds ++ zs) else none
  | _,_=>BC
theorem F1:MtR X "list.extend" (rMM X.K Iw):=fun pins s σ H x xs v us Q I rx rs h=>by
  obtain ⟨ι,μ,a,as,d,μ',R,ia,ib,e,q⟩:=h
  unfold Iw at e
  split at e
  . rename_i n zs
    obtain ⟨ds,es,h1,h2,rfl⟩:=Dd e
    split at h2
    . rename_i hl
      cases h2
      obtain ⟨w,rfl,iw⟩:=F5 ib
      unfold Is at ia iw
      obtain ⟨_,rfl⟩:=ia
      obtain ⟨p,ws,rfl,k1,_,k2⟩:=iw
      obtain ⟨u,g1,vs,rfl,g2⟩:=R.obj n _ h1
      exact La pins s σ H _ _ v us Q I rx rs ⟨_,p,vs,ws,rfl,rfl,g1,k1,by rw [g2.length,k2.length]; exact hl,FK R h1 (g2.append k2) ofN q⟩
    . cases h2
  . cases e
def Ob:D->D->D->M Unit
  | .ref n,.int k,d=>fun μ=>match μ[n]? with
    | some (.lst ds)=>(ixN ds.length k).map fun j=>((),μ.set n (.lst (ds.set j d)))
    | _=>none
  | _,_,_=>BC
def JL (mo mi:Sl->M D):D->Sl->M Sl:=fun d τ=>bnd (mo τ) fun x=>bnd (mi τ) fun y=>bnd (Ob x y d) fun _=>ret τ
theorem LG {x y d:D} {μ μ':Mh} {u:Unit} (e:Ob x y d μ=some (u,μ')):∃ n k ds j,x=.ref n /\ y=.int k /\ μ[n]? = some (.lst ds) /\ ixN ds.length k=some j /\ μ'=μ.set n (.lst (ds.set j d)):=by
  unfold Ob at e
  split at e
  . rename_i n k
    split at e
    . rename_i ds hq
      cases hk:ixN ds.length k with
      | none=>rw [hk] at e; cases e
      | some j=>rw [hk] at e; cases e; exact ⟨n,k,ds,j,rfl,rfl,hq,hk,rfl⟩
    . cases e
  . cases e
theorem Jc {mo mi:Sl->M D} (ho:RE X o mo) (hi:RE X i mi)
    (ha:∀ v,assign (.Subscript o i pos) X.env v=(do
      let ov ← holding [v] (eval o X.env)
      let iv ← holding [v,ov] (eval i X.env)
      standAt pos
      holding [v,ov,iv] (setItem ov iv v)
      release [v,ov,iv] []):=by intro _; rfl):RG X (.Subscript o i pos) (JL mo mi):=RG.wk (RN ho.pe hi.pe MU ha) fun v σ H Q h=>by
  obtain ⟨ι,μ,τ,d,τ',μ',R,S,i1,e,q⟩:=h
  obtain ⟨x,μ1,e1,ee1⟩:=AF e
  obtain ⟨y,μ2,e2,ee2⟩:=AF ee1
  obtain ⟨u,μ3,e3,ee3⟩:=AF ee2
  cases ee3
  refine ⟨ι,μ,_,x,μ1,R,S,e1,fun ι1 H1 E1 R1 v1 j1=>⟨ι1,μ1,_,y,μ2,R1,S.ext E1,e2,fun ι2 H2 E2 R2 v2 j2=>?_⟩⟩
  obtain ⟨n,k,ds,j,rfl,rfl,g1,g2,rfl⟩:=LG e3
  have E12:=E1.trans E2
  have j1':=j1.ext E2
  unfold Is at j1'
  obtain ⟨hlt,rfl⟩:=j1'
  cases BV j2
  obtain ⟨w,k1,vs,rfl,k2⟩:=R2.obj n _ g1
  obtain ⟨E3,R3⟩:=R2.changed (m:=.lst (ds.set j d)) (o:=.lst (vs.set j v)) hlt ⟨_,rfl,k2.set (i1.ext E12) j⟩
  exact ⟨_,vs,k,j,rfl,rfl,k1,by rw [k2.length]; exact g2,q ι2 _ (E12.trans E3) R3 σ (S.ext (E12.trans E3))⟩
def NN:D->Option Key
  | .int i=>some (.inl i)
  | .str x=>some (.inr x)
  | _=>none
def Hj:D->M (Nat × List (Key × D))
  | .ref n=>fun μ=>match μ[n]? with
    | some (.dK l)=>some ((n,l),μ)
    | _=>none
  | _=>BC
def GY (l:List (Key × D)) (k:Key) (d:D):List (Key × D):=
  if (l.any fun kv=>decide (kv.1=k))=true then l.map (fun kv=>if kv.1=k then (kv.1,d) else kv) else l ++ [(k,d)]
def ND:Sl->M D:=fun _ μ=>some (.ref μ.length,μ ++ [.dK []])
theorem HR:RE X (.Dict [] [] pos) ND:=RE.wk M2 fun σ H Q h=>by
  obtain ⟨ι,μ,τ,d,μ',R,S,e,q⟩:=h
  cases e
  intro p hp
  obtain ⟨ι',E1,R1,e0⟩:=R.grown (m:=.dK []) (o:=.dK []) hp ⟨[],rfl,rfl⟩
  exact q ι' _ E1 R1 _ (by unfold Is; exact ⟨by simp,by rw [e0]⟩)
section
variable {K:PySem.W.Frag} {ι:Nat->Addr} {k:Nat} {H:Hp}
theorem KVs.any:∀ {l:List (Key × D)} {r:List (Key × V)} (y:Key),KVs K ι k H l r->(l.any fun kv=>decide (kv.1=y))=(r.any fun kv=>decide (kv.1=y))
  | [],_,y,h=>by cases h; rfl
  | (z,d) :: l,_,y,h=>by
    obtain ⟨v,r',rfl,h1,h2⟩:=h
    rw [List.any_cons,List.any_cons,KVs.any y h2]
theorem KVs.length:∀ {l:List (Key × D)} {r:List (Key × V)},KVs K ι k H l r->r.length=l.length
  | [],_,h=>by cases h; rfl
  | (z,d) :: l,_,h=>by
    obtain ⟨v,r',rfl,h1,h2⟩:=h
    rw [List.length_cons,List.length_cons,KVs.length h2]
theorem KVs.app:∀ {l:List (Key × D)} {r:List (Key × V)} {y:Key} {d:D} {v:V},KVs K ι k H l r->Is K ι k H d v->KVs K ι k H (l ++ [(y,d)]) (r ++ [(y,v)])
  | [],_,y,d,v,h,h1=>by cases h; exact ⟨v,[],rfl,h1,rfl⟩
  | (z,e) :: l,_,y,d,v,h,h1=>by
    obtain ⟨w,r',rfl,h2,h3⟩:=h
    exact ⟨w,_,rfl,h2,KVs.app h3 h1⟩
theorem KVs.mapPut:∀ {l:List (Key × D)} {r:List (Key × V)} {y:Key} {d:D} {v:V},KVs K ι k H l r->Is K ι k H d v->KVs K ι k H (l.map fun kv=>if kv.1=y then (kv.1,d) else kv) (r.map fun kv=>if kv.1=y then (kv.1,v) else kv)
  | [],_,y,d,v,h,h1=>by cases h; rfl
  | (z,e) :: l,_,y,d,v,h,h1=>by
    obtain ⟨w,r',rfl,h2,h3⟩:=h
    rw [List.map_cons,List.map_cons]
    by_cases hz:z=y
    . subst hz
      simp only [if_true]
      exact ⟨v,_,rfl,h1,KVs.mapPut h3 h1⟩
    . simp only [hz,if_false]
      exact ⟨w,_,rfl,h2,KVs.mapPut h3 h1⟩
theorem KVs.put {l:List (Key × D)} {r:List (Key × V)} {y:Key} {d:D} {v:V} (h:KVs K ι k H l r) (h1:Is K ι k H d v):KVs K ι k H (GY l y d) (EH r y v):=by
  unfold GY EH
  rw [h.any y]
  split
  . exact h.mapPut h1
  . exact h.app h1
theorem PZ {d:D} {y:Key} {v:V} (h:Is K ι k H d v) (e:NN d=some y):v=kV y:=by
  cases d with
  | int i=>cases e; unfold Is at h; exact h
  | str i=>cases e; unfold Is at h; exact h
  | _=>cases e
theorem JP {μ μ':Mh} {d:D} {v:V} {r:Nat × List (Key × D)} (R:RelH K ι μ H) (i:Is K ι μ.length H d v) (e:Hj d μ=some (r,μ')):μ'=μ /\ d=.ref r.1 /\ μ[r.1]? = some (.dK r.2) /\ v=.ref (ι r.1) /\ ∃ kvs,H (ι r.1)=some (.dK kvs) /\ KVs K ι μ.length H r.2 kvs:=by
  cases d with
  | ref n=>
    have e:(match μ[n]? with | some (.dK l)=>some ((n,l),μ) | _=>none)=some (r,μ'):=e
    split at e
    . rename_i l hq
      cases e
      unfold Is at i
      obtain ⟨u,h1,kvs,rfl,h2⟩:=R.obj n _ hq
      exact ⟨rfl,rfl,hq,i.2,kvs,h1,h2⟩
    . cases e
  | _=>cases e
end
def KN (mo mi mv:Sl->M D):Sl->M (Fl × Sl):=fun τ=>bnd (mv τ) fun v=>bnd (mo τ) fun x=>bnd (mi τ) fun y=>bnd (Hj x) fun r=>fun μ=>match NN y with
  | some k=>if r.2.length < sizeLine then some ((.next,τ),μ.set r.1 (.dK (GY r.2 k v))) else none
  | none=>none
theorem Od {value:Expr} {pos':Pos} {mo mi mv:Sl->M D} {k:Nat} (hr:Room k X.A) (ho:RE X o mo) (hi:RE X i mi) (hv:RE X value mv) (hs:swapsWith value (some (.Subscript o i pos')) pos.line X.env=pure false:=by rfl):RS X (.Assign [.Subscript o i pos'] value pos) (KN mo mi mv):=RS.wk (O3 (Te hr) ho.pe hi.pe hv.pe hs) fun Dn σ H h=>by
  obtain ⟨ι,μ,τ,f,τ',μ',R,S,e,q⟩:=h
  obtain ⟨v,μ1,e1,ee1⟩:=AF e
  obtain ⟨x,μ2,e2,ee2⟩:=AF ee1
  obtain ⟨y,μ3,e3,ee3⟩:=AF ee2
  obtain ⟨r,μ4,e4,ee4⟩:=AF ee3
  refine ⟨ι,μ,τ,v,μ1,R,S,e1,fun ι1 H1 E1 R1 v1 i1=>⟨ι1,μ1,τ,x,μ2,R1,S.ext E1,e2,fun ι2 H2 E2 R2 v2 i2=>⟨ι2,μ2,τ,y,μ3,R2,S.ext (E1.trans E2),e3,fun ι3 H3 E3 R3 v3 i3=>?_⟩⟩⟩
  obtain ⟨hm,hx,g1,hv2,kvs,g2,g3⟩:=JP R3 (i2.ext E3) e4
  subst hm
  have E13:=(E1.trans E2).trans E3
  cases hk:NN y with
  | none=>rw [hk] at ee4; cases ee4
  | some ky=>
    rw [hk] at ee4
    have ee4:(if r.2.length < sizeLine then some ((Fl.next,τ),List.set μ4 r.1 (MO.dK (GY r.2 ky v))) else none)=some ((f,τ'),μ'):=ee4
    split at ee4
    . rename_i hl
      cases ee4
      cases PZ i3 hk
      have hlt:r.1 < List.length μ4:=(List.getElem?_eq_some_iff.mp g1).1
      obtain ⟨E4,R4⟩:=R3.changed (m:=.dK (GY r.2 ky v)) (o:=.dK (EH kvs ky v1)) hlt ⟨_,rfl,g3.put (i1.ext (E2.trans E3))⟩
      exact ⟨_,_,hv2,DPut.k g2 (by rw [g3.length]; exact hl),q ι3 _ (E13.trans E4) R4 σ (S.ext (E13.trans E4))⟩
    . cases ee4
def DN:Nat->List D->List D
  | _,[]=>[]
  | k,d :: ds=>.tup [.int k,d] :: DN (k + 1) ds
theorem Gy:∀ (k:Nat) (ds:List D),(DN k ds).length=ds.length
  | _,[]=>rfl
  | k,_ :: ds=>by unfold DN; simp [Gy (k + 1) ds]
theorem Gz:∀ (k:Nat) (ds:List D) (j:Nat),(DN k ds)[j]? = (ds[j]?).map fun d=>.tup [.int ((k + j:Nat):Int),d]
  | _,[],j=>by simp [DN]
  | k,d :: ds,0=>by simp [DN]
  | k,d :: ds,j + 1=>by
    unfold DN
    rw [List.getElem?_cons_succ,List.getElem?_cons_succ,Gz (k + 1) ds j]
    have:k + 1 + j=k + (j + 1):=by omega
    rw [this]
theorem NO {K:PySem.W.Frag} {ι:Nat->Addr} {μ:Mh} {H:Hp} {vs:List V} {ds:List D} {Cond:PySem.W.Frag->Hp->Prop} (st:∀ ι' (μ':Mh) H',Ext ι μ.length H ι' μ'.length H'->RelH K ι' μ' H'->Cond K H') (i:IsL K ι μ.length H ds vs) :
    ItM K (ItP K vs.length (ET vs) Cond) (DN 0 ds) ι μ H:=by
  intro ι' μ' H' E R
  have h:=st ι' μ' H' E R
  rw [Gy,← i.length]
  refine ⟨fun j hj=>⟨hj,h⟩,⟨rfl,h⟩,fun j x H2 d hd y=>?_⟩
  obtain ⟨T,hT,rfl,rfl⟩:=y
  obtain ⟨E2,R2⟩:=R.laid (.tup (ET vs j)) hT
  refine ⟨E2,R2,?_⟩
  rw [Gz] at hd
  cases q:ds[j]? with
  | none=>rw [q] at hd; cases hd
  | some d0=>
    rw [q] at hd
    cases hd
    obtain ⟨w,ew,iw⟩:=(i.ext E).get q
    have e0:vs.getD j V.non=w:=by simp [List.getD,ew]
    have es:ET vs j=[.int j,w]:=by unfold ET; rw [e0]
    have key:IsL K ι' (List.length μ') (upd H' T (.tup (ET vs j))) [.int ((0 + j:Nat):Int),d0] [.int j,w]:=.cons (by unfold Is; simp) (.one (iw.ext E2))
    unfold Is
    exact ⟨T,_,rfl,SqT.of At,(congrArg (IsL K ι' (List.length μ') (upd H' T (.tup (ET vs j))) [.int ((0 + j:Nat):Int),d0]) es).mpr key⟩
end
end Mi
namespace Mi
open PySem L2
theorem B5:bootBuiltins "len" = some (.builtin "len"):=by decide +kernel
theorem FF:bootBuiltins "isinstance" = some (.builtin "isinstance"):=by decide +kernel
theorem JK:bootBuiltins "int" = some (.type "int"):=by decide +kernel
theorem BH:bootBuiltins "tuple" = some (.type "tuple"):=by decide +kernel
theorem JJ:bootBuiltins "set" = some (.type "set"):=by decide +kernel
structure Fn (P:Program) (w:World) (K:PySem.W.Frag) (mg:Str->Option Value) (base:Heap) (x:Str) (ps:List Str) (k:Nat) (φ:List D->M D):Prop where
  len:∀ ds μ r,φ ds μ=some r->ds.length=ps.length
  ex:∃ f fd,FnOk P w K mg base CX0 k f fd ps (spM K ps.length φ) /\ mg x=some (.ref f) /\ PySem.W.keepIn K (.ref f)=true /\ Binds K fd ps []
def Glo (K:PySem.W.Frag) (mg:Str->Option Value) (x:Str) (d:D):Prop:=∃ u v,mg x=some u /\ RelV v u /\ ∀ ι k H,Is K ι k H d v
section
variable {X:Cx} {e:Expr} {es:List Expr} {pos p:Pos}
theorem A7 {x:Str} {ps:List Str} {k j:Nat} {φ:List D->M D} {m:Sl->M (List D)} (F:Fn X.prog X.w X.K X.mg X.base x ps k φ) (hr:Room j X.A) (ha:RA X (e :: es) m) (hkj:k <= j:=by decide) (hg:Gl X x:=by rfl) (hdb:(x == ("__debug__" : Str))=false:=by decide)
    (he:starEach (e :: es) X.env=(false,eval e X.env) :: starEach es X.env:=by exact AY rfl) (hpl:(backTo pos (starEach es X.env)).any (·.1)=false:=by exact BQ rfl):RE X (.Call (.Name x p) (e :: es) [] pos) (AJ φ m):=by
  obtain ⟨len,f,fd,F,hm,hk,hb⟩:=F
  exact Om F (hr.mono hkj) hm hk hb len ha hg hdb he hpl
theorem Gm {x:Str} {d:D} (h:Glo X.K X.mg x d) (hg:Gl X x:=by rfl) (hdb:(x == ("__debug__" : Str))=false:=by decide):RE X (.Name x pos) (mC d):=by
  obtain ⟨u,v,hm,r,hd⟩:=h
  exact Ol hm r hd hg hdb
end
theorem R8 {P:Program} {w:World} {K:PySem.W.Frag} {mg:Str->Option Value} {base:Heap} {x qual:Str} {st:Stmt} {f:Addr} {fd:FuncData} {N ps:List Str} {k:Nat} {φ:List D->M D} {mb:Sl->M (Fl × Sl)} (F:Fun K x qual st f fd) (S:Ai N ps (AH st)) (hm:mg x=some (.ref f)) (hb:Binds K fd ps [])
    (body:∀ (cdv:Value) (A:Around) (outer:List Env) (s:Shared) (H:Hp) (E:XK),Room k (A.deeper (PyProof.Rows.envOfC qual (AH st) s.heap.objs.size f cdv))->RSs (Bv CX0 P w K mg base N qual (AH st) f cdv A outer s H E).nox (AZ st) mb)
    (len:∀ ds μ r,φ ds μ=some r->ds.length=ps.length)
    (run:∀ ds μ d μ',φ ds μ=some (d,μ')->∃ fl τ2 μ2,mb (Ba N.length ds) μ=some ((fl,τ2),μ2) /\ (fl=.next ∨ ∃ d,fl=.rt d) /\ GR μ μ2 μ' (Fm fl) d):Fn P w K mg base x ps (k + 1) φ:=
  ⟨len,f,fd,Gw F S rfl body run,hm,F.kp,hb⟩
theorem Fc {μ g:Mh} {d:D} (h:Cl μ.length d):GR μ (μ ++ g) μ d d:=⟨⟨g,rfl⟩,Nat.le_refl _,fun _ _ e=>.inl e,.inl ⟨rfl,h⟩⟩
end Mi
namespace Mi
open PySem L2
section
variable {X:Cx} {e a b c o i:Expr} {es:List Expr} {pos p apos cpos:Pos}
structure Ps (w:World) (K:PySem.W.Frag) (mg:Str->Option Value) (x:Str) (t:Str->Option D):Prop where
  ex:∃ ad,mg x=some (.ref ad) /\ ∀ y:Str,∃ r,KGet w.params K ad (.str y) r /\ ((t y=none /\ r=none) ∨ ∃ d v,t y=some d /\ r=some v /\ ∀ ι k H,Is K ι k H d v)
def QG (t:Str->Option D):D->M D
  | .str y=>fun μ=>(t y).map fun d=>(d,μ)
  | _=>BC
theorem Oj {x:Str} {t:Str->Option D} {mi:Sl->M D} (k:Ps X.w X.K X.mg x t) (hi:RE X i mi) (hg:Gl X x:=by rfl) (hdb:(x == ("__debug__" : Str))=false:=by decide) (hs:SK i:=by exact fun _ _=>rfl):RE X (.Subscript (.Name x p) i pos) (mUn (QG t) mi):=by
  obtain ⟨ad,hm,kk⟩:=k
  refine RE.wk (O9 (KY (v:=.ref ad) hg hm rfl hdb) hi.pe hs) fun σ H Q h=>?_
  obtain ⟨ι,μ,τ,d,μ',R,S,e,q⟩:=h
  obtain ⟨y,μ1,e1,e2⟩:=AF e
  refine ⟨ι,μ,τ,y,μ1,R,S,e1,fun ι1 H1 E1 R1 v1 i1=>?_⟩
  cases y with
  | str y=>
    cases DY i1
    obtain ⟨r,g,z⟩:=kk y
    rcases z with ⟨z1,_⟩ | ⟨d0,v0,z1,rfl,z3⟩
    . have e3:(t y).map (fun d=>(d,μ1))=some (d,μ'):=e2
      rw [z1] at e3; cases e3
    . have e3:(t y).map (fun d=>(d,μ1))=some (d,μ'):=e2
      rw [z1] at e3; cases e3
      exact ⟨ad,v0,rfl,g,q ι1 H1 E1 R1 v0 (z3 _ _ _)⟩
  | _=>cases e2
end
end Mi
namespace L2
open PySem PySem.Spec PyProof.Rows Sem
section
variable {prog:Program} {w:World} {A:Around} {E:Value->Shared->Prop} {s:Shared}
theorem Bn {M:Model} {A:Around} {α:Type} {c:Prop} [Decidable c] {a b:Sem α} {Q:α->Shared->Prop} {E:Value->Shared->Prop} {s:Shared} (h : ¬ c) (hb:wpAny M A b Q E s):wpAny M A (if c then a else b) Q E s:=by
  rw [if_neg h]; exact hb
theorem IE {it t:Addr} {i:Nat} {items:Array Value} {Q:Value->Shared->Prop} (hh:A.handled=none) (hit:s.heap.IsTupleIter it t i) (ht:s.heap.IsTuple t items)
    (more:∀ x h',items[i]? = some x->h'.IsTupleIter it t (i + 1)->Heap.SameBut it s.heap h'->Q x { s with heap:=h' })
    (over:items[i]? = none->∀ h' e,Heap.ExtBut it s.heap h'->(∃ o,h'.get? e=some o /\ o.cls=.type "StopIteration")->E (.ref e) { s with heap:=h' }) :
    wpAny (model prog w) A (Builtin.SmallTypes.nextOf (.ref it)) Q E s:=by
  have ty:=hit.typeIs
  obtain ⟨o,at_it,hc,hd⟩:=hit
  obtain ⟨ot,at_t,_,n,hdt⟩:=ht
  have put:∀ (k:Nat) (v:Value),(s.heap.update it (Obj.mapFields (fun fs=>fs.set! k v))).get? it=some (Obj.mapFields (fun fs=>fs.set! k v) o):=fun k v=>Heap.get?_update_self _ at_it (Obj.isFreed_of_fields (Obj.data_mapFields hd _))
  unfold Builtin.SmallTypes.nextOf
  refine wpAny_bind (wpAny_callSpecial?_slot ty F.slot_tuple_iterator_next (wpAny_call_entry F.slot_tuple_iterator_next ty F.entry_tuple_iterator_next ?_ (F.args_tuple_iterator_next_1 _)))
  have notNone : ¬ (Value.ref t == Value.none)=true:=Bool.false_ne_true
  refine wpAny_bind (m:=field (.ref it) 0) (wpAny_field at_it hd (x:=.ref t) rfl ?_)
  refine Bn notNone ?_
  refine wpAny_bind (m:=field (.ref it) 1) (wpAny_field at_it hd (x:=.int i 0) rfl (wpAny_bind (m:=seqItems? (.ref t)) (wpAny_seqItems at_t hdt ?_)))
  have ei:((i:Int)).toNat=i:=Int.toNat_natCast i
  cases hx:items[i]? with
  | some x=>
    dsimp only
    rw [ei,hx]
    refine wpAny_bind (wpAny_setField at_it hd (by simp) (wpAny_pure ⟨x,rfl,wpAny_pure (more x _ hx ⟨_,put _ _,?_,?_⟩ (Heap.SameBut.update ..))⟩))
    . exact (Obj.cls_mapFields ..).trans hc
    . rw [Obj.data_mapFields hd]
      rfl
  | none=>
    dsimp only
    rw [ei,hx]
    refine wpAny_bind (wpAny_rule (wpAny_bind (wpAny_setField at_it hd (by simp) ?_)))
    have first:firstArgMember (.type "StopIteration") []=pure Value.none:=by first | rfl | (unfold firstArgMember; rfl)
    unfold Builtin.SmallTypes.stopIteration newExc newTuple
    refine wpAny_bind (wpAny_bind (wpAny_newObj_type (wpAny_bind (wpAny_of_eq first (wpAny_newObj_type (wpAny_raiseNew_none hh ?_) (by size_fits)))) (by size_fits)))
    exact over hx _ _ (((Heap.SameBut.update ..).extBut.push _).push _) ⟨_,Heap.get?_push_size _ rfl,rfl⟩
theorem Ep (hh:A.handled=none) (it t:Addr) (hne:t ≠ it) (items:Array Value) :
    Draws prog w A it [it,t] items.size (fun i v=>items[i]? = some v) (fun i h=>h.IsTupleIter it t i /\ h.IsTuple t items):=by
  refine ⟨fun i h st=>?_,fun i h h' st k=>⟨?_,?_⟩,fun i s Q E hi st q=>?_,fun s Q E st q=>?_⟩
  . obtain ⟨⟨o,e,_⟩,_⟩:=st
    exact ⟨o,e⟩
  . obtain ⟨⟨o,e,r⟩,_⟩:=st
    exact ⟨o,k it (by simp) o e,r⟩
  . obtain ⟨_,⟨o,e,r⟩⟩:=st
    exact ⟨o,k t (by simp) o e,r⟩
  . exact IE hh st.1 st.2 (fun x h' hx st' sb=>q x h' s.toks hx ⟨st',st.2.extBut sb.extBut hne⟩ sb) fun no=>absurd no (by simp [hi])
  . exact IE hh st.1 st.2 (fun x h' hx=>absurd hx (by simp)) fun _ h' e eb so=>q h' e eb so
abbrev ER (it:Addr):Obj:={ cls:=.type "enumerate",data:=.fields #[.none,.bool false,.ref it,rawInt 0,.none,.none] }
theorem Nf (v:Value) (ob:Obj) (good:Heap->Prop) (hv:∀ (prog:Program) (w:World) (A:Around) (E:Value->Shared->Prop) (s:Shared) (Q:Value->Shared->Prop),good s.heap->Q (.ref s.heap.objs.size) { s with heap:=s.heap.push ob }->wpAny (model prog w) A (pyIter v) Q E s) :
    Meets (Builtin.«enumerate.__new__» ⟨[.type "enumerate",v],[]⟩) (fun _ R s=>good s.heap /\ R (.ok (.ret (.ref (s.heap.push ob).objs.size))) { s with heap:=(s.heap.push ob).push (ER s.heap.objs.size) }):=by
  refine .of_wp fun prog w A R s ⟨g,q⟩=>?_
  have own:=sub_enumerate
  have walk:∀ (A:Around) (E:Value->Shared->Prop) (Q:Value->Shared->Prop),Q (.ref s.heap.objs.size) { s with heap:=s.heap.push ob }->wpAny (model prog w) A (pyIter v) Q E s:=fun A E Q z=>hv prog w A E s Q g z
  obtain ⟨hp,gs,dr,tk,os⟩:=s
  wp_walk
  refine wpAny_stack_any fun st=>wpAny_pure ?_
  split
  . rename_i c _ _ _ _ _
    cases (c == Value.type "enumerate") <;> (wp_walk using walk; exact ⟨_,rfl,q⟩)
  . wp_walk using walk
    exact ⟨_,rfl,q⟩
end
end L2
namespace L2
open PySem PySem.Spec PyProof.Rows
theorem JX {P:Program} {w:World} {K:PySem.W.Frag} {es:List Expr} {k0:Nat} {pos:Pos} (a e it:Addr) (xs:List V) (hei:e ≠ it) (hea:e ≠ a) (hai:a ≠ it) :
    Hl P w K (.Tuple es k0 pos) (ItP K xs.length (ET xs) fun K H=>SqT K H a xs) [e,it] e (fun i h=>(∃ old,IsEnum h e it i old) /\ h.IsTupleIter it a i):=by
  refine FZ (ι:=List Value) (fp:=[e,it,a]) (Mid:=fun its i T h=>(∃ x,IsEnumOut h e it ((i:Int) + 1) x T) /\ (h.IsTupleIter it a (i + 1) /\ h.IsTuple a its.toArray) /\ T ≠ e /\ T ≠ it) (good:=fun its=>Vals xs its) (Pt:=fun its i vals=>∃ t x,its.toArray[i]? = some x /\ vals = #[.int i t,x]) (Sw:=fun its i h=>(∃ old,IsEnum h e it i old) /\ h.IsTupleIter it a i /\ h.IsTuple a its.toArray)
    (fun A hA its r=>?walk) List.mem_cons_self (fun its i vals r h=>Jv r h) (fun i=>(by show 2 <= sizeLine; decide)) (fun i h st=>?obj) (fun i h h' st k=>?keep) (fun X pins σ H s i hP hw hK I hc st=>?into) (fun z i h st=>⟨st.1,st.2.1⟩) (fun A i s Q E st h=>?self)
  case walk=>
    have hl:xs.length=its.toArray.size:=by rw [List.size_toArray]; exact r.length
    have D:=Ep (prog:=P) (w:=w) (A:=A.in1) hA it a hai its.toArray
    rw [hl]
    exact WalksT.enumerateD D e hei (by simp [hei,hea]) (by simp)
  case obj=>
    obtain ⟨o,ho,_,hd⟩:=st.2
    exact SB st.1 ho ⟨_,hd⟩
  case keep=>
    obtain ⟨⟨old,q⟩,o,ho,r⟩:=st
    exact ⟨⟨old,k e (by simp) _ q⟩,o,k it (by simp) o ho,r⟩
  case into=>
    subst hK
    obtain ⟨its,r,p,_⟩:=I.tuple hc
    exact ⟨its,r,st.1,st.2,p⟩
  case self=>exact Pk (f:=fun i h=>h.IsTupleIter it a i) A i s Q E st h
section
variable {X:Cx} {es:List Expr} {k0:Nat} {tpos:Pos}
def Rz (K:PySem.W.Frag) (ta:TA):TI:=fun σ H R=>ta σ H fun vs H1=>∃ a xs,vs=[.ref a] /\ SqT K H1 a xs /\ R (ItP K xs.length (ET xs) fun K H=>SqT K H a xs) H1
theorem Mx {a:Expr} {ta:TA} {p pos:Pos} (hg:Gl X "enumerate") (hm:X.mg "enumerate" = none) (ha:PA X [a] ta) (hs:starEach [a] X.env=[(false,eval a X.env)]:=by rfl):PI X (.Tuple es k0 tpos) (.Call (.Name "enumerate" p) [a] [] pos) (Rz X.K ta):=by
  intro pins s σ H R I h
  refine Call_ (El I hg hm Ls (PyProof.Rows.callWith_type1 (thn (ha pos pins s σ H _ I h) fun us s1 ⟨vs,H1,I1,r1,q1⟩=>?_) hs rfl))
  obtain ⟨l,xs,ev,hq,q⟩:=q1
  subst ev
  obtain ⟨u,eu,ru⟩:=IA r1
  subst eu
  cases ru
  obtain ⟨its,rv,pl,hz⟩:=I1.tuple hq
  have lt:l < s1.heap.objs.size:=by obtain ⟨o,e,_⟩:=pl; exact Heap.lt_size e
  have new:=Nf (.ref l) { cls:=.type "tuple_iterator",data:=.fields #[.ref l,.int 0 0] } (fun h=>h.IsTuple l its.toArray) (fun _ _ _ _ _ _ g z=>wpAny_pyIter_tuple g z)
  refine callType_new F.called_enumerate (by decide) (F.typeCall_enumerate_1 _) (F.newCall_enumerate_1 _) (fun obj=>F.args_object_init_2 obj _) F.entry_enumerate_new new ⟨pl,?_⟩
  generalize hG:s1.heap.push { cls:=.type "tuple_iterator",data:=.fields #[.ref l,.int 0 0] }=G
  have hsz:G.objs.size=s1.heap.objs.size + 1:=by rw [← hG]; exact Heap.size_push ..
  have at_e:(G.push (ER s1.heap.objs.size)).get? (s1.heap.objs.size + 1)=some (ER s1.heap.objs.size):=by rw [← hsz]; exact Heap.get?_push_size _ rfl
  have he:IsEnum (G.push (ER s1.heap.objs.size)) (s1.heap.objs.size + 1) s1.heap.objs.size 0 .none:=at_e
  have at_i:(G.push (ER s1.heap.objs.size)).IsTupleIter s1.heap.objs.size l 0:=⟨_,Heap.get?_push_of_some _ (hG ▸ Heap.get?_push_size _ rfl),rfl,rfl⟩
  show _ /\ _
  rw [hsz]
  refine ⟨⟨_,at_e,rfl⟩,wpAny_pyIter_enum he ?_⟩
  refine ⟨s1.heap.objs.size + 1,[s1.heap.objs.size + 1,s1.heap.objs.size],fun i h=>(∃ old,IsEnum h (s1.heap.objs.size + 1) s1.heap.objs.size i old) /\ h.IsTupleIter s1.heap.objs.size l i,_,H1,rfl,I1.kept (t':=s1.toks) fun b o x=>Heap.get?_push_of_some _ (hG ▸ Heap.get?_push_of_some _ x),?_,⟨⟨_,he⟩,at_i⟩,Qn I1,q⟩
  exact JX l _ _ xs (Nat.succ_ne_self _) (Nat.ne_of_gt (Nat.lt_succ_of_lt lt)) (Nat.ne_of_lt lt)
end
end L2
namespace Mi
open PySem L2
section
variable {X:Cx} {a:Expr} {es:List Expr} {pos:Pos}
def MF:List D->M (List D)
  | [.tup ds]=>ret ds
  | _=>BC
def F3 (m:Sl->M (List D)):Sl->M (List D):=fun τ=>bnd (m τ) fun as=>bnd (MF as) fun ds=>ret (DN 0 ds)
theorem IQ {p tpos:Pos} {k0:Nat} {m:Sl->M (List D)} (hm:X.mg "enumerate" = none) (ha:RA X [a] m) (hg:Gl X "enumerate" := by rfl) (hs:starEach [a] X.env=[(false,eval a X.env)]:=by exact AY rfl):RI X (.Tuple es k0 tpos) (.Call (.Name "enumerate" p) [a] [] pos) (F3 m):=
  RI.wk (Mx hg hm ha.pe hs) fun σ H R q=>by
    obtain ⟨ι,μ,τ,ds,μ',R0,S,e,q⟩:=q
    obtain ⟨xs,μ1,e1,e2⟩:=AF e
    obtain ⟨zs,μ2,e3,e4⟩:=AF e2
    cases e4
    refine ⟨ι,μ,τ,xs,μ1,R0,S,e1,fun ι1 H1 E1 R1 vs i1=>?_⟩
    unfold MF at e3
    split at e3
    . cases e3
      obtain ⟨v,rfl,i2⟩:=F5 i1
      unfold Is at i2
      obtain ⟨p,ws,rfl,h1,h2⟩:=i2
      exact ⟨p,ws,rfl,h1,q ι1 H1 E1 R1 _ (NO (fun ι' μ' H' E _=>EA E h1) h2)⟩
    . cases e3
end
end Mi
namespace L2
open PySem PySem.Spec PyProof.Rows Sem
def TwoAt (h:Heap) (T:Addr) (a b:Value):Prop:=∃ n,h.get? T=some { cls:=.type "tuple",data:=.seq #[a,b] n }
abbrev B9 (TI TO:Addr) (f0:Value):Obj:={ cls:=.type "zip",data:=.fields #[f0,.bool false,.bool false,.ref TI,.ref TO] }
theorem TwoAt.keep {h h':Heap} {T:Addr} {a b:Value} (x:TwoAt h T a b) (k:∀ o,h.get? T=some o->h'.get? T=some o):TwoAt h' T a b:=by
  obtain ⟨n,e⟩:=x
  exact ⟨n,k _ e⟩
section
variable {prog:Program} {w:World} {A:Around} {E:Value->Shared->Prop} {s:Shared}
theorem KD {T:Addr} {a b x c d:Value} {k:Nat} {Q:Unit->Shared->Prop} (t:TwoAt s.heap T a b) (sh:(#[a,b]:Array Value).setIfInBounds k x = #[c,d]) (h:∀ h',TwoAt h' T c d->Heap.SameBut T s.heap h'->Q () { s with heap:=h' }) :
    wpAny (model prog w) A (updateSeq T fun xs=>xs.setIfInBounds k x) Q E s:=by
  obtain ⟨n,e⟩:=t
  refine wpAny_updateSeq e rfl (h _ ⟨n,?_⟩ (Heap.SameBut.update ..)) (by simp [sizeLine]) (by simp [sizeLine])
  rw [Heap.get?_update_self _ e rfl]
  show some ({ cls:=.type "tuple",data:=.seq ((#[a,b]:Array Value).setIfInBounds k x) (if (((#[a,b]:Array Value).setIfInBounds k x).size == (#[a,b]:Array Value).size)=true then n else n + 1) }:Obj)=_
  rw [sh]
  rfl
structure GQ (z TI TO i1 i2:Addr) (f1 f2:List Addr):Prop where
  zTI:z ≠ TI
  zTO:z ≠ TO
  io:TI ≠ TO
  z1:z ∉ f1
  z2:z ∉ f2
  o1:TO ∉ f1
  o2:TO ∉ f2
  n1:TI ≠ i1
  n2:TI ≠ i2
  m1:i1 ∈ f1
  m2:i2 ∈ f2
  x12:i1 ∉ f2
  x21:i2 ∉ f1
theorem Lx {z TI TO i1 i2:Addr} {n k:Nat} {a b:Value} {P1 P2:Nat->Value->Prop} {S1 S2:Nat->Heap->Prop} {f1 f2:List Addr} {Q:Value->Shared->Prop} (ap:GQ z TI TO i1 i2 f1 f2)
    (D1:Draws prog w A.in1 i1 f1 n P1 S1) (D2:Draws prog w A.in1 i2 f2 n P2 S2) (hk:k < n)
    (hz:s.heap.get? z=some (B9 TI TO .none)) (hI:TwoAt s.heap TI (.ref i1) (.ref i2)) (hO:TwoAt s.heap TO a b) (s1:S1 k s.heap) (s2:S2 k s.heap)
    (q:∀ x y T h' tk,P1 k x->P2 k y->s.heap.objs.size <= T->h'.IsTuple T #[x,y]->h'.get? z=some (B9 TI TO (rawInt T))->TwoAt h' TI (.ref i1) (.ref i2)->TwoAt h' TO x y->S1 (k + 1) h'->S2 (k + 1) h'->(∀ c o,c ≠ z->c ≠ TO->c ≠ i1->c ≠ i2->s.heap.get? c=some o->h'.get? c=some o)->Q (.ref T) { s with heap:=h',toks:=tk }) :
    wpAny (model prog w) A.in1 (Builtin.«zip.__next__» ⟨[.ref z],[]⟩) (fun fin s'=>∃ v,fin=.done (.ret v) /\ Q v s') E s:=by
  obtain ⟨nI,eI⟩:=id hI
  refine wpAny_bind (m:=field (.ref z) 2) (wpAny_field hz rfl (x:=.bool false) rfl ?_)
  refine wpAny_bind (m:=field (.ref z) 3) (wpAny_field hz rfl (x:=.ref TI) rfl ?_)
  refine wpAny_bind (m:=seqItems? (.ref TI)) (wpAny_seqItems eI rfl ?_)
  refine Bn (by simp) ?_
  refine wpAny_bind (m:=Builtin.SmallTypes.ownedTupleIsFree (.ref z)) ?_
  unfold Builtin.SmallTypes.ownedTupleIsFree
  refine wpAny_bind (m:=field (.ref z) 0) (wpAny_field hz rfl (x:=.none) rfl (wpAny_pure ?_))
  rw [if_pos rfl]
  refine wpAny_bind (wpAny_rule ?_)
  refine wpAny_bind (m:=field (.ref z) 4) (wpAny_field hz rfl (x:=.ref TO) rfl ?_)
  refine wpAny_bind (wpAny_setField_rec hz (by simp) fun h1 z1 b1=>?_)
  have k1:∀ c o,c ≠ z->s.heap.get? c=some o->h1.get? c=some o:=fun c o hc e=>(b1.2 c hc).trans e
  have z1':h1.get? z=some (B9 TI TO .ellipsis):=z1
  have hI1:=hI.keep (h':=h1) fun o e=>k1 TI o ap.zTI.symm e
  have hO1:=hO.keep (h':=h1) fun o e=>k1 TO o ap.zTO.symm e
  have s11:=D1.frame _ _ h1 s1 fun c hc o e=>k1 c o (fun y=>ap.z1 (y ▸ hc)) e
  have s21:=D2.frame _ _ h1 s2 fun c hc o e=>k1 c o (fun y=>ap.z2 (y ▸ hc)) e
  refine wpAny_bind (m:=forIn [(Value.ref i1,0),(Value.ref i2,1)] _ _) ?_
  rw [List.forIn_cons]
  refine wpAny_bind (wpAny_bind (wpAny_onRaise (wpAny_bind (D1.item k { s with heap:=h1 } _ _ hk s11 fun x h2 t2 px s12 b2=>wpAny_pure ?_))))
  have k2:∀ c o,c ≠ i1->h1.get? c=some o->h2.get? c=some o:=fun c o hc e=>(b2.2 c hc).trans e
  have ne1:∀ {c:Addr},c ∉ f1->c ≠ i1:=fun hc y=>hc (y ▸ ap.m1)
  have ne2:∀ {c:Addr},c ∉ f2->c ≠ i2:=fun hc y=>hc (y ▸ ap.m2)
  have hO2:=hO1.keep (h':=h2) fun o e=>k2 TO o (ne1 ap.o1) e
  have hI2:=hI1.keep (h':=h2) fun o e=>k2 TI o ap.n1 e
  have z2:=k2 z _ (ne1 ap.z1) z1'
  have s22:=D2.frame _ _ h2 s21 fun c hc o e=>k2 c o (fun y=>ap.x12 (y ▸ hc)) e
  obtain ⟨nO,eO⟩:=id hO2
  refine wpAny_bind (m:=seqItems? (.ref TO)) (wpAny_seqItems eO rfl ?_)
  refine wpAny_bind (KD (s:={ s with heap:=h2,toks:=t2 }) (c:=x) (d:=b) hO2 rfl fun h3 hO3 b3=>wpAny_bind (wpAny_letGo (wpAny_pure ?_)))
  have k3:∀ c o,c ≠ TO->h2.get? c=some o->h3.get? c=some o:=fun c o hc e=>(b3.2 c hc).trans e
  have hI3:=hI2.keep (h':=h3) fun o e=>k3 TI o ap.io e
  have z3:=k3 z _ ap.zTO z2
  have s13:=D1.frame _ _ h3 s12 fun c hc o e=>k3 c o (fun y=>ap.o1 (y ▸ hc)) e
  have s23:=D2.frame _ _ h3 s22 fun c hc o e=>k3 c o (fun y=>ap.o2 (y ▸ hc)) e
  show wpAny _ _ (forIn [(Value.ref i2,1)] _ _) _ _ _
  rw [List.forIn_cons]
  refine wpAny_bind (wpAny_bind (wpAny_onRaise (wpAny_bind (D2.item k { s with heap:=h3,toks:=t2 } _ _ hk s23 fun y h4 t4 py s24 b4=>wpAny_pure ?_))))
  have k4:∀ c o,c ≠ i2->h3.get? c=some o->h4.get? c=some o:=fun c o hc e=>(b4.2 c hc).trans e
  have hO4:=hO3.keep (h':=h4) fun o e=>k4 TO o (ne2 ap.o2) e
  have hI4:=hI3.keep (h':=h4) fun o e=>k4 TI o ap.n2 e
  have z4:=k4 z _ (ne2 ap.z2) z3
  have s14:=D1.frame _ _ h4 s13 fun c hc o e=>k4 c o (fun y=>ap.x21 (y ▸ hc)) e
  obtain ⟨nO4,eO4⟩:=id hO4
  refine wpAny_bind (m:=seqItems? (.ref TO)) (wpAny_seqItems eO4 rfl ?_)
  refine wpAny_bind (KD (s:={ s with heap:=h4,toks:=t4 }) (c:=x) (d:=y) hO4 rfl fun h5 hO5 b5=>wpAny_bind (wpAny_letGo (wpAny_pure ?_)))
  have k5:∀ c o,c ≠ TO->h4.get? c=some o->h5.get? c=some o:=fun c o hc e=>(b5.2 c hc).trans e
  have hI5:=hI4.keep (h':=h5) fun o e=>k5 TI o ap.io e
  have z5:=k5 z _ ap.zTO z4
  have s15:=D1.frame _ _ h5 s14 fun c hc o e=>k5 c o (fun y=>ap.o1 (y ▸ hc)) e
  have s25:=D2.frame _ _ h5 s24 fun c hc o e=>k5 c o (fun y=>ap.o2 (y ▸ hc)) e
  show wpAny _ _ (forIn [] _ _) _ _ _
  rw [List.forIn_nil]
  refine wpAny_pure ?_
  obtain ⟨nO5,eO5⟩:=id hO5
  refine wpAny_bind (m:=seqItems? (.ref TO)) (wpAny_seqItems eO5 rfl ?_)
  refine wpAny_bind (wpAny_newTuple ?_ (by simp [sizeLine]))
  have kp:∀ c o,h5.get? c=some o->(h5.push { cls:=.type "tuple",data:=.seq #[x,y] }).get? c=some o:=fun c o e=>Heap.get?_push_of_some _ e
  unfold Builtin.SmallTypes.ownedTupleHandOut
  refine wpAny_bind (wpAny_bind (wpAny_setField_rec (s:={ s with heap:=h5.push { cls:=.type "tuple",data:=.seq #[x,y] },toks:=t4 }) (kp z _ z5) (by simp) fun h6 z6 b6=>wpAny_setField_rec (s:={ s with heap:=h6,toks:=t4 }) z6 (by simp) fun h7 z7 b7=>wpAny_pure ⟨_,rfl,?_⟩))
  have sz:h5.objs.size=s.heap.objs.size:=by rw [b5.1,b4.1,b3.1,b2.1,b1.1]
  have zlt:z < h5.objs.size:=Heap.lt_size z5
  have k7:∀ c o,c ≠ z->h5.get? c=some o->h7.get? c=some o:=fun c o hc e=>(b7.2 c hc).trans ((b6.2 c hc).trans (kp c o e))
  refine q x y h5.objs.size h7 t4 px py (by rw [sz]; exact Nat.le_refl _) ?_ z7 (hI5.keep fun o e=>k7 TI o ap.zTI.symm e) (hO5.keep fun o e=>k7 TO o ap.zTO.symm e) (D1.frame _ _ h7 s15 fun c hc o e=>k7 c o (fun y=>ap.z1 (y ▸ hc)) e) (D2.frame _ _ h7 s25 fun c hc o e=>k7 c o (fun y=>ap.z2 (y ▸ hc)) e) ?_
  . refine ⟨{ cls:=.type "tuple",data:=.seq #[x,y] },?_,rfl,0,rfl⟩
    have ne:h5.objs.size ≠ z:=Nat.ne_of_gt zlt
    exact (b7.2 _ ne).trans ((b6.2 _ ne).trans (Heap.get?_push_size _ rfl))
  . intro c o c1 c2 c3 c4 e
    exact k7 c o c1 (k5 c o c2 (k4 c o c4 (k3 c o c2 (k2 c o c3 (k1 c o c1 e)))))
theorem Lw {z TI TO i1 i2:Addr} {n:Nat} {a b:Value} {P1:Nat->Value->Prop} {S1:Nat->Heap->Prop} {f1 f2:List Addr} {Q:PySem.Fin->Shared->Prop} (ap:GQ z TI TO i1 i2 f1 f2) (D1:Draws prog w A.in1 i1 f1 n P1 S1)
    (hz:s.heap.get? z=some (B9 TI TO .none)) (hI:TwoAt s.heap TI (.ref i1) (.ref i2)) (hO:TwoAt s.heap TO a b) (s1:S1 n s.heap)
    (q:∀ h' e,(∀ c o,c ≠ z->c ≠ i1->s.heap.get? c=some o->h'.get? c=some o)->(∃ o,h'.get? e=some o /\ o.cls=.type "StopIteration")->E (.ref e) { s with heap:=h' }) :
    wpAny (model prog w) A.in1 (Builtin.«zip.__next__» ⟨[.ref z],[]⟩) Q E s:=by
  obtain ⟨nI,eI⟩:=id hI
  refine wpAny_bind (m:=field (.ref z) 2) (wpAny_field hz rfl (x:=.bool false) rfl (wpAny_bind (m:=field (.ref z) 3) (wpAny_field hz rfl (x:=.ref TI) rfl (wpAny_bind (m:=seqItems? (.ref TI)) (wpAny_seqItems eI rfl ?_)))))
  refine Bn (by simp) (wpAny_bind (m:=Builtin.SmallTypes.ownedTupleIsFree (.ref z)) ?_)
  unfold Builtin.SmallTypes.ownedTupleIsFree
  refine wpAny_bind (m:=field (.ref z) 0) (wpAny_field hz rfl (x:=.none) rfl (wpAny_pure ?_))
  rw [if_pos rfl]
  refine wpAny_bind (wpAny_rule (wpAny_bind (m:=field (.ref z) 4) (wpAny_field hz rfl (x:=.ref TO) rfl (wpAny_bind (wpAny_setField_rec hz (by simp) fun h1 z1 b1=>?_)))))
  have s11:=D1.frame _ _ h1 s1 fun c hc o e=>(b1.2 c (fun y=>ap.z1 (y ▸ hc))).trans e
  refine wpAny_bind (m:=forIn [(Value.ref i1,0),(Value.ref i2,1)] _ _) ?_
  rw [List.forIn_cons]
  refine wpAny_bind (wpAny_bind (wpAny_onRaise (wpAny_bind (D1.done { s with heap:=h1 } _ _ s11 fun h2 e eb so=>?_))))
  have zne:z ≠ i1:=fun y=>ap.z1 (y ▸ ap.m1)
  have z2:h2.get? z=some (B9 TI TO .ellipsis):=eb z _ zne z1
  obtain ⟨oe,he,hce⟩:=so
  refine wpAny_setField_rec (s:={ s with heap:=h2 }) z2 (by simp) fun h3 z3 b3=>q h3 e (fun c o c1 c2 x=>(b3.2 c c1).trans (eb c o c2 ((b1.2 c c1).trans x))) ⟨oe,?_,hce⟩
  have ez:e ≠ z:=fun y=>by
    rw [y,z2] at he
    cases he
    exact absurd (Value.type.inj (show Value.type "zip" = Value.type "StopIteration" from hce)) (by decide)
  exact (b3.2 e ez).trans he
theorem FS {z TI TO:Addr} {f0:Value} {Q:Value->Shared->Prop} (hz:s.heap.get? z=some (B9 TI TO f0)) (h:Q (.ref z) s):wpAny (model prog w) A (pyIter (.ref z)) Q E s:=wpAny_pyIter_zip hz h
theorem K6 (hh:A.handled=none) {z TI TO i1 i2:Addr} {n:Nat} {P1 P2:Nat->Value->Prop} {S1 S2:Nat->Heap->Prop} {f1 f2:List Addr} (ap:GQ z TI TO i1 i2 f1 f2)
    (D1:Draws prog w A.in1 i1 f1 n P1 S1) (D2:Draws prog w A.in1 i2 f2 n P2 S2) :
    WalksT prog w A z (z :: TI :: TO :: (f1 ++ f2)) [z,TI,TO,i1,i2] n (fun k vals=>∃ x y,P1 k x /\ P2 k y /\ vals = #[x,y])
      (fun k h=>h.get? z=some (B9 TI TO .none) /\ TwoAt h TI (.ref i1) (.ref i2) /\ (∃ a b,TwoAt h TO a b) /\ S1 k h /\ S2 k h)
      (fun k T h=>h.get? z=some (B9 TI TO (rawInt T)) /\ TwoAt h TI (.ref i1) (.ref i2) /\ (∃ a b,TwoAt h TO a b) /\ S1 (k + 1) h /\ S2 (k + 1) h /\ T ≠ z /\ T ≠ TI /\ T ≠ TO /\ T ≠ i1 /\ T ≠ i2) where
  sub:=fun c hc=>by
    have hc':c=z ∨ c=TI ∨ c=TO ∨ c=i1 ∨ c=i2:=by simpa using hc
    rcases hc' with e | e | e | e | e <;> subst e
    . simp
    . simp
    . simp
    . simp [ap.m1]
    . simp [ap.m2]
  frame:=fun k h h' st kp=>by
    obtain ⟨a1,a2,⟨a,b,a3⟩,a4,a5⟩:=st
    exact ⟨kp z (by simp) _ a1,a2.keep fun o e=>kp TI (by simp) o e,⟨a,b,a3.keep fun o e=>kp TO (by simp) o e⟩,D1.frame _ _ _ a4 fun c hc o e=>kp c (by simp [hc]) o e,D2.frame _ _ _ a5 fun c hc o e=>kp c (by simp [hc]) o e⟩
  item:=fun k s Q E hk st q=>by
    obtain ⟨a1,a2,⟨a,b,a3⟩,a4,a5⟩:=st
    have ty:s.TypeIs (.ref z) "zip" := ⟨_,a1,rfl⟩
    unfold pyNext
    refine wpAny_bind (wpAny_attempt (wpAny_callSpecial?_slot (name:=Str.ofString "__next__") ty F.slot_zip_next (wpAny_call_entry F.slot_zip_next ty F.entry_zip_next (Lx ap D1 D2 hk a1 a2 a3 a4 a5 fun x y T h' tk px py hT tup b1 b2 b3 b4 b5 kp=>?_) (F.args_zip_next_1 _))))
    have lt:∀ {c:Addr} {o:Obj},s.heap.get? c=some o->T ≠ c:=fun e=>Nat.ne_of_gt (Nat.lt_of_lt_of_le (Heap.lt_size e) hT)
    obtain ⟨o1,e1⟩:=D1.live _ _ a4
    obtain ⟨o2,e2⟩:=D2.live _ _ a5
    obtain ⟨n3,e3⟩:=a3
    obtain ⟨n4,e4⟩:=id a2
    refine wpAny_pure (q T #[x,y] h' tk ⟨x,y,px,py,rfl⟩ hT tup ⟨b1,b2,⟨x,y,b3⟩,b4,b5,lt a1,lt e4,lt e3,lt e1,lt e2⟩ fun c o hc e=>?_)
    exact kp c o (fun z=>hc (by simp [z])) (fun z=>hc (by simp [z])) (fun z=>hc (by simp [z])) (fun z=>hc (by simp [z])) e
  go:=fun es k0 pos k T s Q E st q=>by
    obtain ⟨a1,a2,a3,a4,a5,t1,t5,t2,t3,t4⟩:=st
    refine wpAny_letOwnedTupleGo_zip a1 fun h' hz' sb=>?_
    have kp:∀ c o,c ≠ z->s.heap.get? c=some o->h'.get? c=some o:=fun c o hc e=>(sb.2 c hc).trans e
    obtain ⟨a,b,a3⟩:=a3
    refine q h' ⟨hz',a2.keep fun o e=>kp TI o ap.zTI.symm e,⟨a,b,a3.keep fun o e=>kp TO o ap.zTO.symm e⟩,D1.frame _ _ _ a4 fun c hc o e=>kp c o (fun y=>ap.z1 (y ▸ hc)) e,D2.frame _ _ _ a5 fun c hc o e=>kp c o (fun y=>ap.z2 (y ▸ hc)) e⟩ fun c o hc e=>kp c o (fun y=>hc (by simp [y])) e
  apart:=fun k T h st hT=>by
    obtain ⟨_,_,_,_,_,t1,t5,t2,t3,t4⟩:=st
    have hT':T=z ∨ T=TI ∨ T=TO ∨ T=i1 ∨ T=i2:=by simpa using hT
    rcases hT' with e | e | e | e | e
    . exact t1 e
    . exact t5 e
    . exact t2 e
    . exact t3 e
    . exact t4 e
  done:=fun s Q E st q=>by
    obtain ⟨a1,a2,⟨a,b,a3⟩,a4,a5⟩:=st
    have ty:s.TypeIs (.ref z) "zip" := ⟨_,a1,rfl⟩
    unfold pyNext
    refine wpAny_bind (wpAny_attempt (wpAny_callSpecial?_slot (name:=Str.ofString "__next__") ty F.slot_zip_next (wpAny_call_entry F.slot_zip_next ty F.entry_zip_next (Lw ap D1 a1 a2 a3 a4 fun h' e kp so=>?_) (F.args_zip_next_1 _))))
    obtain ⟨o,ho,hc⟩:=so
    refine wpAny_bind (wpAny_isInstance (T := "StopIteration") (b:=true) ⟨o,ho,hc⟩ isSubtype_stop (wpAny_pure (q h' s.toks fun c o hc e=>?_)))
    exact kp c o (fun y=>hc (by simp [y])) (fun y=>hc (by simp [y])) e
  self:=fun k s Q E st h=>FS st.1 h
end
end L2
namespace L2
open PySem PySem.Spec PyProof.Rows
abbrev Ea (a b:Value):Obj:={ cls:=.type "tuple",data:=.seq #[a,b] }
abbrev zh2 (h:Heap) (o1 o2:Obj):Heap:=(h.push o1).push o2
abbrev zh4 (h:Heap) (o1 o2:Obj):Heap:=((zh2 h o1 o2).push (Ea (.ref h.objs.size) (.ref (h.push o1).objs.size))).push (Ea .none .none)
abbrev zh5 (h:Heap) (o1 o2:Obj):Heap:=(zh4 h o1 o2).push (B9 (zh2 h o1 o2).objs.size ((zh2 h o1 o2).push (Ea (.ref h.objs.size) (.ref (h.push o1).objs.size))).objs.size .none)
theorem Nt (v1 v2:Value) (o1 o2:Obj) (g1 g2:Heap->Prop) (g2p:∀ h,g2 h->g2 (h.push o1))
    (w1:∀ (prog:Program) (w:World) (A:Around) (E:Value->Shared->Prop) (s:Shared) (Q:Value->Shared->Prop),g1 s.heap->Q (.ref s.heap.objs.size) { s with heap:=s.heap.push o1 }->wpAny (model prog w) A (pyIter v1) Q E s)
    (w2:∀ (prog:Program) (w:World) (A:Around) (E:Value->Shared->Prop) (s:Shared) (Q:Value->Shared->Prop),g2 s.heap->Q (.ref s.heap.objs.size) { s with heap:=s.heap.push o2 }->wpAny (model prog w) A (pyIter v2) Q E s) :
    Meets (Builtin.«zip.__new__» ⟨[.type "zip",v1,v2],[]⟩) (fun _ R s=>g1 s.heap /\ g2 s.heap /\ R (.ok (.ret (.ref (zh4 s.heap o1 o2).objs.size))) { s with heap:=zh5 s.heap o1 o2 }):=by
  refine .of_wp fun prog w A R s ⟨x1,x2,q⟩=>?_
  have own:=sub_zip
  have walk1:∀ (A:Around) (E:Value->Shared->Prop) (Q:Value->Shared->Prop),Q (.ref s.heap.objs.size) { s with heap:=s.heap.push o1 }->wpAny (model prog w) A (pyIter v1) Q E s:=fun A E Q z=>w1 prog w A E s Q x1 z
  have walk2:∀ (A:Around) (E:Value->Shared->Prop) (Q:Value->Shared->Prop),Q (.ref (s.heap.push o1).objs.size) { s with heap:=zh2 s.heap o1 o2 }->wpAny (model prog w) A (pyIter v2) Q E { s with heap:=s.heap.push o1 }:=fun A E Q z=>w2 prog w A E { s with heap:=s.heap.push o1 } Q (g2p _ x2) z
  obtain ⟨hp,gs,dr,tk,os⟩:=s
  wp_walk using walk1,walk2
  exact ⟨_,rfl,q⟩
def G6 (xs ys:List V) (i:Nat):List V:=[xs.getD i .non,ys.getD i .non]
theorem K0 {xs ys:List V} {its jts:List Value} (r:Vals xs its) (r2:Vals ys jts) {i:Nat} {vals:Array Value} (h:∃ x y,its.toArray[i]? = some x /\ jts.toArray[i]? = some y /\ vals = #[x,y]):Vals (G6 xs ys i) vals.toList:=by
  obtain ⟨x,y,hx,hy,rfl⟩:=h
  have one:∀ {zs:List V} {us:List Value} {u:Value},Vals zs us->us.toArray[i]? = some u->RelV (zs.getD i .non) u:=fun {zs us u} rz hu=>by
    have hu':us[i]? = some u:=by simpa using hu
    have hl:=rz.length
    have lt:i < zs.length:=by have:=(List.getElem?_eq_some_iff.mp hu').1; omega
    obtain ⟨u',e1,e2⟩:=rz.get (show zs[i]? = some zs[i] by simp [lt])
    rw [hu'] at e1; cases e1
    simpa [List.getD,lt] using e2
  exact .cons (one r hx) (.cons (one r2 hy) .nil)
theorem K8 {P:Program} {w:World} {K:PySem.W.Frag} {es:List Expr} {k0:Nat} {pos:Pos} (a b z TI TO i1 i2:Addr) (xs ys:List V) (hl:ys.length=xs.length) (ap:GQ z TI TO i1 i2 [i1,a] [i2,b]) (h1:a ≠ i1) (h2:b ≠ i2) :
    Hl P w K (.Tuple es k0 pos) (ItP K xs.length (G6 xs ys) fun K H=>SqT K H a xs /\ SqT K H b ys) [z,TI,TO,i1,i2] z (fun i h=>h.get? z=some (B9 TI TO .none) /\ TwoAt h TI (.ref i1) (.ref i2) /\ (∃ c d,TwoAt h TO c d) /\ h.IsTupleIter i1 a i /\ h.IsTupleIter i2 b i):=by
  refine FZ (ι:=List Value × List Value) (good:=fun p=>Vals xs p.1 /\ Vals ys p.2) (Pt:=fun p i vals=>∃ x y,p.1.toArray[i]? = some x /\ p.2.toArray[i]? = some y /\ vals = #[x,y])
    (Sw:=fun p i h=>h.get? z=some (B9 TI TO .none) /\ TwoAt h TI (.ref i1) (.ref i2) /\ (∃ c d,TwoAt h TO c d) /\ (h.IsTupleIter i1 a i /\ h.IsTuple a p.1.toArray) /\ (h.IsTupleIter i2 b i /\ h.IsTuple b p.2.toArray))
    (Mid:=fun p i T h=>h.get? z=some (B9 TI TO (rawInt T)) /\ TwoAt h TI (.ref i1) (.ref i2) /\ (∃ c d,TwoAt h TO c d) /\ (h.IsTupleIter i1 a (i + 1) /\ h.IsTuple a p.1.toArray) /\ (h.IsTupleIter i2 b (i + 1) /\ h.IsTuple b p.2.toArray) /\ T ≠ z /\ T ≠ TI /\ T ≠ TO /\ T ≠ i1 /\ T ≠ i2)
    (fp:=z :: TI :: TO :: ([i1,a] ++ [i2,b]))
    (fun A hA p r=>?walk) List.mem_cons_self (fun p i vals r h=>K0 r.1 r.2 h) (fun i=>(by show 2 <= sizeLine; decide)) (fun i h st=>?obj) (fun i h h' st k=>?keep) (fun X pins σ H s i hP hw hK I hc st=>?into) (fun p i h st=>⟨st.1,st.2.1,st.2.2.1,st.2.2.2.1.1,st.2.2.2.2.1⟩) (fun A i s Q E st h=>FS st.1 h)
  case walk=>
    have l1:p.1.toArray.size=xs.length:=by rw [List.size_toArray]; exact r.1.length.symm
    have l2:p.2.toArray.size=xs.length:=by rw [List.size_toArray,← hl]; exact r.2.length.symm
    have D1:=Ep (prog:=P) (w:=w) (A:=A.in1) hA i1 a h1 p.1.toArray
    have D2:=Ep (prog:=P) (w:=w) (A:=A.in1) hA i2 b h2 p.2.toArray
    rw [l1] at D1
    rw [l2] at D2
    exact K6 hA ap D1 D2
  case obj=>
    intro c hc
    obtain ⟨a1,⟨n1,a2⟩,⟨c0,d0,n2,a3⟩,⟨o4,a4,_,d4⟩,⟨o5,a5,_,d5⟩⟩:=st
    have hc':c=z ∨ c=TI ∨ c=TO ∨ c=i1 ∨ c=i2:=by simpa using hc
    rcases hc' with e | e | e | e | e <;> subst e
    . exact ⟨_,a1,fun v q=>by cases q⟩
    . exact ⟨_,a2,fun v q=>by cases q⟩
    . exact ⟨_,a3,fun v q=>by cases q⟩
    . exact ⟨_,a4,fun v q=>by rw [d4] at q; cases q⟩
    . exact ⟨_,a5,fun v q=>by rw [d5] at q; cases q⟩
  case keep=>
    obtain ⟨a1,a2,⟨c0,d0,a3⟩,⟨o4,a4,r4⟩,⟨o5,a5,r5⟩⟩:=st
    exact ⟨k z (by simp) _ a1,a2.keep fun o e=>k TI (by simp) o e,⟨c0,d0,a3.keep fun o e=>k TO (by simp) o e⟩,⟨o4,k i1 (by simp) o4 a4,r4⟩,⟨o5,k i2 (by simp) o5 a5,r5⟩⟩
  case into=>
    subst hK
    obtain ⟨c1,c2⟩:=hc
    obtain ⟨a1,a2,a3,a4,a5⟩:=st
    obtain ⟨its,r,p,_⟩:=I.tuple c1
    obtain ⟨jts,r2,p2,_⟩:=I.tuple c2
    exact ⟨(its,jts),⟨r,r2⟩,a1,a2,a3,⟨a4,p⟩,⟨a5,p2⟩⟩
section
variable {X:Cx} {es:List Expr} {k0:Nat} {tpos:Pos}
theorem Np:bootBuiltins "zip" = some (.type "zip"):=by decide +kernel
def Tb (K:PySem.W.Frag) (ta:TA):TI:=fun σ H R=>ta σ H fun vs H1=>∃ a b xs ys,vs=[.ref a,.ref b] /\ SqT K H1 a xs /\ SqT K H1 b ys /\ ys.length=xs.length /\ R (ItP K xs.length (G6 xs ys) fun K H=>SqT K H a xs /\ SqT K H b ys) H1
end
end L2
namespace L2
open PySem PySem.Spec PyProof.Rows
section
variable {X:Cx} {es:List Expr} {k0:Nat} {tpos:Pos}
theorem nin {n l c:Nat} (h1:c ≠ n) (h2:c ≠ l):c ∉ ([n,l]:List Nat):=fun h=>by
  have h':c=n ∨ c=l:=by simpa using h
  exact h'.elim h1 h2
theorem zap (n l m:Nat) (hl:l < n) (hm:m < n):GQ (n + 4) (n + 2) (n + 3) n (n + 1) [n,l] [n + 1,m] where
  zTI:=(by omega : ¬ (n + 4:Nat)=n + 2)
  zTO:=(by omega : ¬ (n + 4:Nat)=n + 3)
  io:=(by omega : ¬ (n + 2:Nat)=n + 3)
  z1:=nin (by omega) (by omega)
  z2:=nin (by omega) (by omega)
  o1:=nin (by omega) (by omega)
  o2:=nin (by omega) (by omega)
  n1:=(by omega : ¬ (n + 2:Nat)=n)
  n2:=(by omega : ¬ (n + 2:Nat)=n + 1)
  m1:=List.mem_cons_self
  m2:=List.mem_cons_self
  x12:=nin (by omega) (by omega)
  x21:=nin (by omega) (by omega)
theorem Pj {pins:List (Addr × Obj)} {σ:St} {H:Hp} {s:Shared} (I:Inv X pins σ H s) (c:Addr) (hc:s.heap.objs.size <= c):DP X pins H c:=I.fpOk hc (I.hok.fresh hc)
theorem O7 {a b:Expr} {ta:TA} {p pos:Pos} (hg:Gl X "zip") (hm:X.mg "zip" = none) (ha:PA X [a,b] ta) (hs:starEach [a,b] X.env=(false,eval a X.env) :: starEach [b] X.env) (hpl:(backTo pos (starEach [b] X.env)).any (·.1)=false) :
    PI X (.Tuple es k0 tpos) (.Call (.Name "zip" p) [a,b] [] pos) (Tb X.K ta):=by
  intro pins s σ H R I h
  refine Call_ (El I hg hm Np (PyProof.Rows.callWith_type1 (thn (ha pos pins s σ H _ I h) fun us s1 ⟨vs,H1,I1,r1,q1⟩=>?_) hs hpl))
  obtain ⟨l,m,xs,ys,ev,hx,hy,hl,q⟩:=q1
  subst ev
  obtain ⟨u1,u2,eu,ru1,ru2⟩:=Vals.two r1
  subst eu
  cases ru1
  cases ru2
  obtain ⟨its,rx,px,_⟩:=I1.tuple hx
  obtain ⟨jts,ry,py,_⟩:=I1.tuple hy
  have ltl:l < s1.heap.objs.size:=by obtain ⟨o,e,_⟩:=px; exact Heap.lt_size e
  have ltm:m < s1.heap.objs.size:=by obtain ⟨o,e,_⟩:=py; exact Heap.lt_size e
  have new:=Nt (.ref l) (.ref m) { cls:=.type "tuple_iterator",data:=.fields #[.ref l,.int 0 0] } { cls:=.type "tuple_iterator",data:=.fields #[.ref m,.int 0 0] } (fun h=>h.IsTuple l its.toArray) (fun h=>h.IsTuple m jts.toArray) (fun h x=>x.push _) (fun _ _ _ _ _ _ g z=>wpAny_pyIter_tuple g z) (fun _ _ _ _ _ _ g z=>wpAny_pyIter_tuple g z)
  refine callType_new F.called_zip (by decide) (F.typeCall_zip_2 _ _) (F.newCall_zip_2 _ _) (fun obj=>F.args_object_init_3 obj _ _) F.entry_zip_new new ⟨px,py,?_⟩
  generalize ho1:({ cls:=.type "tuple_iterator",data:=.fields #[.ref l,.int 0 0] }:Obj)=o1
  generalize ho2:({ cls:=.type "tuple_iterator",data:=.fields #[.ref m,.int 0 0] }:Obj)=o2
  have n1:(s1.heap.push o1).objs.size=s1.heap.objs.size + 1:=Heap.size_push ..
  have n2:(zh2 s1.heap o1 o2).objs.size=s1.heap.objs.size + 2:=by rw [Heap.size_push,n1]
  have n3:((zh2 s1.heap o1 o2).push (Ea (.ref s1.heap.objs.size) (.ref (s1.heap.push o1).objs.size))).objs.size=s1.heap.objs.size + 3:=by rw [Heap.size_push,n2]
  have n4:(zh4 s1.heap o1 o2).objs.size=s1.heap.objs.size + 4:=by rw [Heap.size_push,n3]
  have kp:∀ c o,s1.heap.get? c=some o->(zh5 s1.heap o1 o2).get? c=some o:=fun c o e=>Heap.get?_push_of_some _ (Heap.get?_push_of_some _ (Heap.get?_push_of_some _ (Heap.get?_push_of_some _ (Heap.get?_push_of_some _ e))))
  have f1:o1.isFreed=false:=by rw [← ho1]; rfl
  have f2:o2.isFreed=false:=by rw [← ho2]; rfl
  have a1:(zh5 s1.heap o1 o2).get? s1.heap.objs.size=some o1:=Heap.get?_push_of_some _ (Heap.get?_push_of_some _ (Heap.get?_push_of_some _ (Heap.get?_push_of_some _ (Heap.get?_push_size _ f1))))
  have a2:(zh5 s1.heap o1 o2).get? (s1.heap.objs.size + 1)=some o2:=by rw [← n1]; exact Heap.get?_push_of_some _ (Heap.get?_push_of_some _ (Heap.get?_push_of_some _ (Heap.get?_push_size _ f2)))
  have a3:(zh5 s1.heap o1 o2).get? (s1.heap.objs.size + 2)=some (Ea (.ref s1.heap.objs.size) (.ref (s1.heap.objs.size + 1))):=by
    rw [← n1,← n2]
    exact Heap.get?_push_of_some _ (Heap.get?_push_of_some _ (Heap.get?_push_size _ rfl))
  have a4:(zh5 s1.heap o1 o2).get? (s1.heap.objs.size + 3)=some (Ea .none .none):=by
    rw [← n3]
    exact Heap.get?_push_of_some _ (Heap.get?_push_size _ rfl)
  have a5:(zh5 s1.heap o1 o2).get? (s1.heap.objs.size + 4)=some (B9 (s1.heap.objs.size + 2) (s1.heap.objs.size + 3) .none):=by
    rw [← n4,← n2,← n3]
    exact Heap.get?_push_size _ rfl
  show _ /\ _
  rw [n4]
  refine ⟨⟨_,a5,rfl⟩,FS a5 ?_⟩
  refine ⟨s1.heap.objs.size + 4,[s1.heap.objs.size + 4,s1.heap.objs.size + 2,s1.heap.objs.size + 3,s1.heap.objs.size,s1.heap.objs.size + 1],_,_,H1,rfl,I1.kept (t':=s1.toks) kp,
    K8 l m (s1.heap.objs.size + 4) (s1.heap.objs.size + 2) (s1.heap.objs.size + 3) s1.heap.objs.size (s1.heap.objs.size + 1) xs ys hl (zap _ l m ltl ltm) (Nat.ne_of_lt ltl) (Nat.ne_of_lt (Nat.lt_succ_of_lt ltm)),⟨a5,⟨_,a3⟩,⟨_,_,_,a4⟩,⟨o1,a1,by rw [← ho1],by rw [← ho1]; rfl⟩,⟨o2,a2,by rw [← ho2],by rw [← ho2]; rfl⟩⟩,fun c hc=>Pj I1 c ?_,q⟩
  have hc':c=s1.heap.objs.size + 4 ∨ c=s1.heap.objs.size + 2 ∨ c=s1.heap.objs.size + 3 ∨ c=s1.heap.objs.size ∨ c=s1.heap.objs.size + 1:=by simpa using hc
  rcases hc' with e | e | e | e | e <;> subst e <;> first | exact Nat.le_refl _ | exact Nat.le_add_right _ _
end
end L2
namespace Mi
open PySem L2
section
variable {X:Cx} {a b:Expr} {es:List Expr} {pos:Pos}
def FB:List D->List D->List D
  | x :: xs,y :: ys=>.tup [x,y] :: FB xs ys
  | _,_=>[]
def J6:List D->M (List D)
  | [.tup xs,.tup ys]=>fun μ=>if ys.length=xs.length then some (FB xs ys,μ) else none
  | _=>BC
def Rp (m:Sl->M (List D)):Sl->M (List D):=fun τ=>bnd (m τ) J6
theorem Hm:∀ {xs ys:List D},ys.length=xs.length->(FB xs ys).length=xs.length
  | [],[],_=>rfl
  | x :: xs,y :: ys,h=>by unfold FB; simp at h ⊢; exact Hm h
  | [],_ :: _,h=>by simp at h
  | _ :: _,[],h=>by simp at h
theorem Hn:∀ {xs ys:List D} {j:Nat} {d:D},(FB xs ys)[j]? = some d->∃ x y,xs[j]? = some x /\ ys[j]? = some y /\ d=.tup [x,y]
  | [],_,j,d,h=>by simp [FB] at h
  | _ :: _,[],j,d,h=>by simp [FB] at h
  | x :: xs,y :: ys,0,d,h=>by simp [FB] at h; exact ⟨x,y,rfl,rfl,h.symm⟩
  | x :: xs,y :: ys,j + 1,d,h=>by
    obtain ⟨x',y',h1,h2,h3⟩:=Hn (xs:=xs) (ys:=ys) (j:=j) (d:=d) (by simpa [FB] using h)
    exact ⟨x',y',by simpa using h1,by simpa using h2,h3⟩
theorem Pa {K:PySem.W.Frag} {ι:Nat->Addr} {μ:Mh} {H:Hp} {vs ws:List V} {ds es:List D} {Cond:PySem.W.Frag->Hp->Prop} (st:∀ ι' (μ':Mh) H',Ext ι μ.length H ι' μ'.length H'->RelH K ι' μ' H'->Cond K H') (i:IsL K ι μ.length H ds vs) (j:IsL K ι μ.length H es ws) (hl:es.length=ds.length) :
    ItM K (ItP K vs.length (G6 vs ws) Cond) (FB ds es) ι μ H:=by
  intro ι' μ' H' E R
  have h:=st ι' μ' H' E R
  rw [Hm hl,← i.length]
  refine ⟨fun j hj=>⟨hj,h⟩,⟨rfl,h⟩,fun k x H2 d hd y=>?_⟩
  obtain ⟨T,hT,rfl,rfl⟩:=y
  obtain ⟨E2,R2⟩:=R.laid (.tup (G6 vs ws k)) hT
  refine ⟨E2,R2,?_⟩
  obtain ⟨x,y,h1,h2,rfl⟩:=Hn hd
  obtain ⟨v,ev,iv⟩:=(i.ext E).get h1
  obtain ⟨u,eu,iu⟩:=(j.ext E).get h2
  have es':G6 vs ws k=[v,u]:=by unfold G6; simp [List.getD,ev,eu]
  have key:IsL K ι' (List.length μ') (upd H' T (.tup (G6 vs ws k))) [x,y] [v,u]:=.cons (iv.ext E2) (.one (iu.ext E2))
  unfold Is
  exact ⟨T,_,rfl,SqT.of At,(congrArg (IsL K ι' (List.length μ') (upd H' T (.tup (G6 vs ws k))) [x,y]) es').mpr key⟩
theorem Og {p tpos:Pos} {k0:Nat} {m:Sl->M (List D)} (hm:X.mg "zip" = none) (ha:RA X [a,b] m) (hg:Gl X "zip" := by rfl) (hs:starEach [a,b] X.env=(false,eval a X.env) :: starEach [b] X.env:=by exact AY rfl) (hpl:(backTo pos (starEach [b] X.env)).any (·.1)=false:=by exact BQ rfl) :
    RI X (.Tuple es k0 tpos) (.Call (.Name "zip" p) [a,b] [] pos) (Rp m):=
  RI.wk (O7 hg hm ha.pe hs hpl) fun σ H R q=>by
    obtain ⟨ι,μ,τ,ds,μ',R0,S,e,q⟩:=q
    obtain ⟨xs,μ1,e1,e2⟩:=AF e
    refine ⟨ι,μ,τ,xs,μ1,R0,S,e1,fun ι1 H1 E1 R1 vs i1=>?_⟩
    unfold J6 at e2
    split at e2
    . rename_i xs ys
      split at e2
      . rename_i hl
        cases e2
        obtain ⟨v,u,rfl,i2,i3⟩:=TZ i1
        unfold Is at i2 i3
        obtain ⟨p,ws,rfl,h1,h2⟩:=i2
        obtain ⟨p',ws',rfl,h1',h2'⟩:=i3
        exact ⟨p,p',ws,ws',rfl,h1,h1',by rw [h2.length,h2'.length]; exact hl,q ι1 H1 E1 R1 _ (Pa (fun ι' μ' H' E _=>⟨EA E h1,EA E h1'⟩) h2 h2' hl)⟩
      . cases e2
    . cases e2
end
end Mi
namespace L2
open PySem PySem.Spec PyProof.Rows Sem
def Av (xs:List Str):List Str:=xs.foldl (fun ys x=>if x ∈ ys then ys else ys ++ [x]) []
theorem Ej (xs:List Str) (x:Str):Av (xs ++ [x])=if x ∈ Av xs then Av xs else Av xs ++ [x]:=by
  unfold Av
  rw [List.foldl_append]
  rfl
theorem Gp:∀ (xs ys:List Str),(xs.foldl (fun ys x=>if x ∈ ys then ys else ys ++ [x]) ys).length <= ys.length + xs.length
  | [],ys=>Nat.le_refl _
  | x :: xs,ys=>by
    rw [List.foldl_cons]
    have:=Gp xs (if x ∈ ys then ys else ys ++ [x])
    split at this <;> simp at this ⊢ <;> (try split) <;> simp_all <;> omega
theorem HX (xs:List Str):(Av xs).length <= xs.length:=by
  have:=Gp xs []
  simpa [Av] using this
section
variable {prog:Program} {w:World} {A:Around} {E:Value->Shared->Prop} {s:Shared}
theorem MS {S:Addr} {xs:List Str} {x:Str} {t:Tok} {Q:Bool->Shared->Prop} (hS:s.heap.SetOf (strKind prog w) S (fun k=>decide (k ∈ Av xs)) (Av xs).length) (room:xs.length + 2 < scanBound)
    (q:∀ b h' tk,Heap.SameBut S s.heap h'->h'.SetOf (strKind prog w) S (fun k=>decide (k ∈ Av (xs ++ [x]))) (Av (xs ++ [x])).length->Q b { s with heap:=h',toks:=tk }) :
    wpAny (model prog w) A (setAdd S (.str x t)) Q E s:=by
  unfold setAdd
  refine wpAny_holding (wpAny_bind ((strKind prog w).pyHash (strKind_is prog w x t) ?_))
  have le:=HX xs
  refine wpAny_setAddHashed_of (knd:=strKind prog w) (s:={ s with toks:=s.toks + 1 }) (strKind_is prog w x t) rfl hS (by omega) fun h' sb hS'=>q _ h' _ sb ?_
  have e1:(fun k':Str=>decide (k' ∈ Av xs) || decide (k'=x))=fun k'=>decide (k' ∈ Av (xs ++ [x])):=by
    funext k'
    rw [Ej]
    split
    . rename_i hx
      by_cases e:k'=x
      . subst e; simp [hx]
      . simp [e]
    . simp
  have e2:(if decide (x ∈ Av xs)=true then (Av xs).length else (Av xs).length + 1)=(Av (xs ++ [x])).length:=by
    rw [Ej]
    by_cases hx:x ∈ Av xs <;> simp [hx]
  rw [e1,e2] at hS'
  exact hS'
theorem MT {I l S:Addr} {its:List Value} {ss:List Str} (hh:A.in1.handled=none) (hlI:l ≠ I) (hSI:S ≠ I) (hSl:S ≠ l) (rv:Vals (ss.map V.str) its) (room:ss.length + 2 < scanBound) {R:Result->Shared->Prop} :
    ∀ (m i:Nat) (s:Shared),ss.length - i=m->i <= ss.length->s.heap.IsListIter I l i->s.heap.IsList l its.toArray->s.heap.SetOf (strKind prog w) S (fun k=>decide (k ∈ Av (ss.take i))) (Av (ss.take i)).length->
      (∀ h' tk,(∀ c o,c ≠ S->c ≠ I->s.heap.get? c=some o->h'.get? c=some o)->h'.SetOf (strKind prog w) S (fun k=>decide (k ∈ Av ss)) (Av ss).length->R (.ok (.ret .none)) { s with heap:=h',toks:=tk })->
      codeAny (model prog w) A (.builtin "set.update.loop" ⟨[.ref S,.ref I],[]⟩) R s:=by
  have hl:its.length=ss.length:=by have:=rv.length; simpa using this.symm
  have W:=Walks.list (prog:=prog) (w:=w) hh I l hlI its.toArray
  intro m
  induction m with
  | zero=>
    intro i s hm hi hit hls hS q
    have ei:i=ss.length:=by omega
    subst ei
    refine codeAny_builtin PyProof.Rows.F.entry_set_update_loop ?_
    rw [Around.under_plainId PyProof.Rows.F.plain_set_update_loop _]
    refine wpAny_bind (m:=pyNext (.ref I)) (W.done s _ _ ⟨by rw [List.size_toArray,hl]; exact hit,hls⟩ fun h' tk kp=>wpAny_pure ?_)
    rw [List.take_length] at hS
    obtain ⟨o,es,ep,tb,ho,rest⟩:=hS
    exact q h' tk (fun c o _ c2 e=>kp c o (by simpa using c2) e) ⟨o,es,ep,tb,kp S o (by simpa using hSI) ho,rest⟩
  | succ m ih=>
    intro i s hm hi hit hls hS q
    have lt:i < ss.length:=by omega
    refine codeAny_builtin PyProof.Rows.F.entry_set_update_loop ?_
    rw [Around.under_plainId PyProof.Rows.F.plain_set_update_loop _]
    refine wpAny_bind (m:=pyNext (.ref I)) (W.item i s _ _ (by rw [List.size_toArray,hl]; exact lt) ⟨hit,hls⟩ fun v h' tk hv st kp=>?_)
    obtain ⟨u,eu,ru⟩:=rv.get (show (ss.map V.str)[i]? = some (V.str ss[i]) by simp [lt])
    have hv':its[i]? = some v:=by simpa using hv
    rw [eu] at hv'
    cases hv'
    obtain ⟨t,rfl⟩:=ru
    obtain ⟨o,es,ep,tb,ho,rest⟩:=hS
    have hS1:h'.SetOf (strKind prog w) S (fun k=>decide (k ∈ Av (ss.take i))) (Av (ss.take i)).length:=⟨o,es,ep,tb,kp S o (by simpa using hSI) ho,rest⟩
    refine wpAny_bind (wpAny_holding (MS (s:={ s with heap:=h',toks:=tk }) hS1 (by rw [List.length_take]; omega) fun b h2 t2 sb hS2=>?_))
    have tk1:ss.take i ++ [ss[i]]=ss.take (i + 1):=by rw [List.take_succ,List.getElem?_eq_getElem lt]; rfl
    rw [tk1] at hS2
    have k2:∀ c o,c ≠ S->h'.get? c=some o->h2.get? c=some o:=fun c o hc e=>(sb.2 c hc).trans e
    refine wpAny_pure ⟨plainId_quiet PyProof.Rows.F.plain_set_update_loop _,ih (i + 1) _ (by omega) lt (st.1.at fun o e=>k2 I o hSI.symm e) (st.2.at fun o e=>k2 l o hSl.symm e) hS2 fun h3 t3 kp3 hS3=>?_⟩
    exact q h3 t3 (fun c o c1 c2 e=>kp3 c o c1 c2 (k2 c o c1 (kp c o (by simpa using c2) e))) hS3
end
end L2
namespace L2
open PySem PySem.Spec PyProof.Rows Sem
section
variable {prog:Program} {w:World} {A:Around} {E:Value->Shared->Prop} {s:Shared}
set_option maxHeartbeats 2000000 in
theorem Kf {T nid iid:String} {args:List Value} {Q Q₁:Value->Shared->Prop} (ft:TypeCalled T nid iid) (ok:checkTypeCall T ⟨args,[]⟩=pure ())
    (new:codeAny (model prog w) A.in1 (.call (.builtin nid) ⟨.type T :: args,[]⟩) (wants Q₁ E) s)
    (init:∀ x s₁,Q₁ x s₁->s₁.TypeIs x T /\ codeAny (model prog w) A.in1 (.call (.builtin iid) ⟨x :: args,[]⟩) (wants (fun r s₂=>r=.none /\ Q x s₂) E) s₁) :
    wpAny (model prog w) A (call (.type T) args) Q E s:=by
  have a1:=ft.notType
  have a2:=ft.canCreate
  have a3:=ft.made
  have a4:=ft.sub
  obtain ⟨c,tl,a5⟩:=ft.mro
  have step:codeAny (model prog w) A (.builtin "type.__call__" ⟨.type T :: args,[]⟩) (wants Q E) s:=by
    refine codeAny_builtin F.entry_type_call ?_
    rw [Around.under_plain (weight_type_call_type T args []) rfl]
    unfold Builtin.«type.__call__»
    iterate 3 (any_goals (first | assumption | wp_step))
    first | refine wpAny_of_eq ok ?_ | refine wpAny_bind (wpAny_of_eq ok ?_)
    repeat (any_goals (first | assumption | wp_step))
    refine codeAny_mono new fun r s₁ hr=>?_
    match r,hr with
    | .error e,hr=>exact hr
    | .ok (.ret x),hr=>
      obtain ⟨ty,run⟩:=init x s₁ hr
      have b1:=ft.init.lookup
      have b2:=ft.init.bind x
      repeat (any_goals (first | assumption | wp_step))
      refine codeAny_mono run fun r₂ s₂ hr₂=>?_
      match r₂,hr₂ with
      | .error e,hr₂=>exact hr₂
      | .ok (.ret y),hr₂=>
        obtain ⟨ey,hq⟩:=hr₂
        subst ey
        repeat (any_goals (first | assumption | wp_step))
  exact wpAny_call (codeAny_of_tree (wpAny_pure ⟨Code.quiet_builtin _ (by decide +kernel),step⟩))
abbrev Ak (led:Bool):Obj:={ cls:=.type "set",data:=.set #[] 0 (.fresh 0 0 led) }
set_option maxHeartbeats 2000000 in
theorem Ln {l:Addr} {its:List Value} {ss:List Str} {Q:Value->Shared->Prop} (hh:A.handled=none) (hl:s.heap.IsList l its.toArray) (rv:Vals (ss.map V.str) its) (room:ss.length + 2 < scanBound)
    (q:∀ h' tk,(∀ c o,s.heap.get? c=some o->h'.get? c=some o)->h'.SetOf (strKind prog w) s.heap.objs.size (fun k=>decide (k ∈ Av ss)) (Av ss).length->Q (.ref s.heap.objs.size) { s with heap:=h',toks:=tk }) :
    wpAny (model prog w) A (call (.type "set") [.ref l]) Q E s:=by
  refine Kf F.called_set (F.typeCall_set_1 _) (code_set_new_1 (.ref l) (Q₁:=fun x s₁=>∃ led:Bool,x=.ref s.heap.objs.size /\ s₁={ s with heap:=s.heap.push (Ak led) }) fun led=>⟨led,rfl,rfl⟩) ?_
  rintro x s₁ ⟨led,rfl,rfl⟩
  have at_S:(s.heap.push (Ak led)).get? s.heap.objs.size=some (Ak led):=Heap.get?_push_size _ rfl
  have ty:Shared.TypeIs { s with heap:=s.heap.push (Ak led) } (.ref s.heap.objs.size) "set" := ⟨_,at_S,rfl⟩
  have lt:l < s.heap.objs.size:=by obtain ⟨o,e,_⟩:=hl; exact Heap.lt_size e
  have hl1:(s.heap.push (Ak led)).IsList l its.toArray:=hl.push _
  have tyl:Shared.TypeIs { s with heap:=s.heap.push (Ak led) } (.ref l) "list" := hl1.typeIs
  refine ⟨ty,codeAny_call_builtin F.called_set.init.plain F.entry_set_init (check_set_init_1 ty ?_)⟩
  have c1:=F.sub_list_set
  have c2:=F.sub_list_frozenset
  unfold Builtin.«set.__init__» noKeywords Builtin.Frozenset.updateFrom
  have walk:∀ (A:Around) (E:Value->Shared->Prop) (Q:Value->Shared->Prop),Q (.ref (s.heap.push (Ak led)).objs.size) { s with heap:=(s.heap.push (Ak led)).push { cls:=.type "list_iterator",data:=.fields #[.ref l,.int 0 0] } }->wpAny (model prog w) A (pyIter (.ref l)) Q E { s with heap:=s.heap.push (Ak led) }:=fun A E Q z=>wpAny_pyIter_list hl1 z
  wp_walk using walk
  have sz:(s.heap.push (Ak led)).objs.size=s.heap.objs.size + 1:=Heap.size_push ..
  refine MT (l:=l) (ss:=ss) (A:=A.in1.in1) (by simp [hh]) (by rw [sz]; exact Nat.ne_of_lt (Nat.lt_succ_of_lt lt)) (by rw [sz]; exact Nat.ne_of_lt (Nat.lt_succ_self _)) (Nat.ne_of_gt lt) rv room ss.length 0 _ (Nat.sub_zero _) (Nat.zero_le _) ⟨_,Heap.get?_push_size _ rfl,rfl,rfl⟩ (hl1.push _) ?start fun h' tk kp hS=>?fin
  case start=>
    exact (setObjOf_fresh (knd:=strKind prog w) led).setOf (Heap.get?_push_of_some _ at_S) (by decide)
  case fin=>
    have ltS:∀ {c:Addr} {o:Obj},s.heap.get? c=some o->c < s.heap.objs.size:=fun e=>Heap.lt_size e
    exact wpAny_pure (wpAny_pure ⟨rfl,q h' tk (fun c o e=>kp c o (Nat.ne_of_lt (ltS e)) (by rw [sz]; exact Nat.ne_of_lt (Nat.lt_succ_of_lt (ltS e))) (Heap.get?_push_of_some _ (Heap.get?_push_of_some _ e))) hS⟩)
end
def Oa (P:Program) (w:World) (p:Addr) (ss:List Str):HO:=.ext fun h=>h.SetOf (strKind P w) p (fun k=>decide (k ∈ Av ss)) (Av ss).length
section
variable {X:Cx}
theorem Lm (hc:X.calm=true):B7 X (.type "set") (fun xs H Q=>∃ a ss,xs=[.ref a] /\ SqL X.K H a (ss.map V.str) /\ ss.length + 2 < scanBound /\ ∀ p,H p=none->Q (.ref p) (upd H p (Oa X.prog X.w p ss))):=by
  intro pins s σ H xs us Q I r h
  obtain ⟨a,ss,rfl,ha,room,q⟩:=h
  obtain ⟨u,rfl,ru⟩:=Vals.one r
  cases ru
  obtain ⟨its,rv,pl,hz⟩:=I.list ha
  refine Ln (I.ok.hd hc) pl.isList rv room fun h' tk kp hS=>?_
  refine ⟨.ref s.heap.objs.size,_,I.laid (o:=Oa X.prog X.w s.heap.objs.size ss) kp (Nat.le_refl _) ?_,rfl,q _ (I.hok.fresh (Nat.le_refl _))⟩
  obtain ⟨o,es,ep,t,e,rest⟩:=id hS
  refine ⟨hS,⟨o,e⟩,fun h1 h2 z k=>?_⟩
  obtain ⟨o,es,ep,t,e,rest⟩:=z
  exact ⟨o,es,ep,t,k o e,rest⟩
theorem Lp:B7 X (.builtin "len") (fun xs H Q=>∃ p ss,xs=[.ref p] /\ H p=some (Oa X.prog X.w p ss) /\ Q (.int (Av ss).length) H):=by
  intro pins s σ H xs us Q I r h
  obtain ⟨p,ss,rfl,hp,q⟩:=h
  obtain ⟨u,rfl,ru⟩:=Vals.one r
  cases ru
  obtain ⟨hS,_⟩:=I.hok p _ hp
  obtain ⟨o,es,ep,t,e,ex,hd,_,_,hb,hf,hn⟩:=hS
  refine call_len_set e ex hd hf (by unfold scanBound at hb; omega) ?_
  rw [hn]
  exact ⟨.int (Av ss).length,H,I.tok _,⟨_,rfl⟩,q⟩
end
end L2
namespace Mi
open PySem L2
def DR:List D->Option (List Str)
  | []=>some []
  | .str x :: ds=>(DR ds).map (x :: ·)
  | _=>none
theorem Fe {K:PySem.W.Frag} {ι:Nat->Addr} {k:Nat} {H:Hp}:∀ {ds:List D} {vs:List V} {ss:List Str},IsL K ι k H ds vs->DR ds=some ss->vs=ss.map V.str
  | [],_,_,h,e=>by cases e; unfold IsL at h; exact h
  | d :: ds,_,_,h,e=>by
    cases d with
    | str x=>
      unfold IsL at h
      obtain ⟨v,vs',rfl,h1,h2⟩:=h
      have e':(DR ds).map (x :: ·)=some _:=e
      cases q:DR ds with
      | none=>rw [q] at e'; cases e'
      | some ss=>
        rw [q] at e'; cases e'
        unfold Is at h1
        rw [h1,Fe h2 q]; rfl
    | _=>cases e
def FQ (d:D):M D:=bnd (A6 d) fun ds=>fun μ=>match DR ds with
  | some ss=>if ss.length + 2 < scanBound then some (.int (Av ss).length,μ) else none
  | none=>none
section
variable {X:Cx} {e:Expr} {pos p p2 pos2:Pos}
theorem LK {m:Sl->M D} (yl:X.mg "len" = none) (ys:X.mg "set" = none) (he:RE X e m) (hc:X.calm=true:=by rfl) (hgl:Gl X "len" := by rfl) (hgs:Gl X "set" := by rfl) (hst:D4 e=false:=by rfl) :
    RE X (.Call (.Name "len" p) [.Call (.Name "set" p2) [e] [] pos2] [] pos) (mUn FQ m):=by
  have hs:PE X (.Call (.Name "set" p2) [e] [] pos2) _:=C0 (Lm hc) hgs ys Mi.JJ (DC he.pe Dv (AY hst)) (by decide) (by decide) (AY hst) rfl
  refine RE.wk (Fv Lp hgl yl Mi.B5 (DC hs Dv (AY rfl)) (by decide) (by decide) (AY rfl) rfl) fun σ H Q h=>?_
  obtain ⟨ι,μ,τ,d,μ',R,S,ev,q⟩:=h
  obtain ⟨x,μ1,e1,e2⟩:=AF ev
  obtain ⟨ds,μ2,e3,e4⟩:=AF e2
  refine ⟨ι,μ,τ,x,μ1,R,S,e1,fun ι1 H1 E1 R1 v1 i1=>?_⟩
  obtain ⟨hm,a,vs,rfl,h1,h2⟩:=BZ R1 i1 e3
  subst hm
  cases hx:DR ds with
  | none=>rw [hx] at e4; cases e4
  | some ss=>
    rw [hx] at e4
    have e5:(if ss.length + 2 < scanBound then some (D.int (Av ss).length,μ2) else none)=some (d,μ'):=e4
    split at e5
    . rename_i room
      cases e5
      refine ⟨a,ss,rfl,by rw [← Fe h2 hx]; exact h1,room,fun p hp=>?_⟩
      obtain ⟨E2,R2⟩:=R1.laid (Oa X.prog X.w p ss) hp
      exact ⟨p,ss,rfl,At,q ι1 _ (E1.trans E2) R2 _ (ofI _)⟩
    . cases e5
end
end Mi
namespace Mi
open PySem L2
inductive How where
  | all | drop | frz
def M4 (μ2:Mh):How->D->D
  | .frz,.ref n=>match μ2[n]? with
    | some (.lst ds)=>.lst ds
    | _=>.ref n
  | _,d=>d
def IU (μ μ2:Mh):How->Mh
  | .all=>μ2
  | _=>μ2.take μ.length
open Classical in
noncomputable def Az (hw:How) (n ps:Nat) (mb:Sl->M (Fl × Sl)):List D->M D:=fun ds μ=>match mb (Ba n ds) μ with
  | some ((fl,_),μ2)=>if ds.length=ps /\ (fl=.next ∨ ∃ d,fl=.rt d) /\ GR μ μ2 (IU μ μ2 hw) (Fm fl) (M4 μ2 hw (Fm fl)) then some (M4 μ2 hw (Fm fl),IU μ μ2 hw) else none
  | none=>none
theorem DJ {hw:How} {n ps:Nat} {mb:Sl->M (Fl × Sl)} {ds:List D} {μ μ':Mh} {d:D} (h:Az hw n ps mb ds μ=some (d,μ')) :
    ds.length=ps /\ ∃ fl τ2 μ2,mb (Ba n ds) μ=some ((fl,τ2),μ2) /\ (fl=.next ∨ ∃ d,fl=.rt d) /\ GR μ μ2 μ' (Fm fl) d:=by
  unfold Az at h
  split at h
  . rename_i fl τ2 μ2 e
    split at h
    . rename_i c
      cases h
      exact ⟨c.1,fl,τ2,μ2,e,c.2.1,c.2.2⟩
    . cases h
  . cases h
theorem C5 {hw:How} {n ps:Nat} {mb:Sl->M (Fl × Sl)} {ds:List D} {μ μ2:Mh} {fl:Fl} {τ2:Sl} (e:mb (Ba n ds) μ=some ((fl,τ2),μ2)) (hl:ds.length=ps) (hf:fl=.next ∨ ∃ d,fl=.rt d) (t:GR μ μ2 (IU μ μ2 hw) (Fm fl) (M4 μ2 hw (Fm fl))) :
    Az hw n ps mb ds μ=some (M4 μ2 hw (Fm fl),IU μ μ2 hw):=by
  unfold Az
  rw [e]
  exact if_pos ⟨hl,hf,t⟩
theorem Jy {n ps:Nat} {mb:Sl->M (Fl × Sl)} {ds:List D} {μ g:Mh} {d:D} {τ2:Sl} (e:mb (Ba n ds) μ=some ((.rt d,τ2),μ ++ g)) (hl:ds.length=ps) (c:Cl μ.length d):Az .drop n ps mb ds μ=some (d,μ):=by
  have t:IU μ (μ ++ g) .drop=μ:=by show (μ ++ g).take μ.length=μ; rw [List.take_left]
  have h:=C5 (hw:=.drop) e hl (.inr ⟨d,rfl⟩) (by rw [t]; exact Fc c)
  rw [t] at h
  exact h
theorem Lr {n ps:Nat} {mb:Sl->M (Fl × Sl)} {ds es:List D} {μ g:Mh} {k:Nat} {τ2:Sl} (e:mb (Ba n ds) μ=some ((.rt (.ref k),τ2),μ ++ g)) (hl:ds.length=ps) (hk:μ.length <= k) (hg:(μ ++ g)[k]? = some (.lst es)) (c:ClL μ.length es):Az .frz n ps mb ds μ=some (.lst es,μ):=by
  have t:IU μ (μ ++ g) .frz=μ:=by show (μ ++ g).take μ.length=μ; rw [List.take_left]
  have o:M4 (μ ++ g) .frz (Fm (.rt (.ref k)))=.lst es:=by
    show (match (μ ++ g)[k]? with | some (.lst ds)=>D.lst ds | _=>.ref k)=_
    rw [hg]
  have h:=C5 (hw:=.frz) e hl (.inr ⟨_,rfl⟩) (by rw [t,o]; exact ⟨⟨g,rfl⟩,Nat.le_refl _,fun _ _ z=>.inl z,.inr ⟨k,es,rfl,hg,hk,rfl,c⟩⟩)
  rw [t,o] at h
  exact h
theorem Jz {n ps:Nat} {mb:Sl->M (Fl × Sl)} {ds es:List D} {μ g:Mh} {τ2:Sl} (e:mb (Ba n ds) μ=some ((.rt (.lst es),τ2),μ ++ g)) (hl:ds.length=ps) (c:ClL μ.length es):Az .frz n ps mb ds μ=some (.lst es,μ):=by
  have t:IU μ (μ ++ g) .frz=μ:=by show (μ ++ g).take μ.length=μ; rw [List.take_left]
  have h:=C5 (hw:=.frz) e hl (.inr ⟨_,rfl⟩) (by rw [t]; exact Fc (by show Cl _ (D.lst es); unfold Cl; exact c))
  rw [t] at h
  exact h
theorem A9 (hw:How) {P:Program} {w:World} {K:PySem.W.Frag} {mg:Str->Option Value} {base:Heap} {x qual:Str} {st:Stmt} {f:Addr} {fd:FuncData} {N ps:List Str} {k:Nat} {mb:Sl->M (Fl × Sl)} (F:Fun K x qual st f fd) (S:Ai N ps (AH st)) (hm:mg x=some (.ref f)) (hb:Binds K fd ps [])
    (body:∀ (cdv:Value) (A:Around) (outer:List Env) (s:Shared) (H:Hp) (E:XK),Room k (A.deeper (PyProof.Rows.envOfC qual (AH st) s.heap.objs.size f cdv))->RSs (Bv CX0 P w K mg base N qual (AH st) f cdv A outer s H E).nox (AZ st) mb) :
    Fn P w K mg base x ps (k + 1) (Az hw N.length ps.length mb):=
  R8 F S hm hb body (fun ds μ r h=>(DJ (d:=r.1) (μ':=r.2) h).1) (fun ds μ d μ' h=>(DJ h).2)
theorem Fn.mono {P:Program} {w:World} {K:PySem.W.Frag} {mg:Str->Option Value} {base:Heap} {x:Str} {ps:List Str} {j k:Nat} {φ:List D->M D} (F:Fn P w K mg base x ps j φ) (h:j <= k):Fn P w K mg base x ps k φ:=by
  obtain ⟨len,f,fd,F,hm,hk,hb⟩:=F
  exact ⟨len,f,fd,F.mono h,hm,hk,hb⟩
theorem F9 {P:Program} {w:World} {K:PySem.W.Frag} {mg:Str->Option Value} {base:Heap} {x qual:Str} {st:Stmt} {f:Addr} {fd:FuncData} {ps:List Str} {k:Nat} (F:Fun K x qual st f fd) (hm:mg x=some (.ref f)) (hb:Binds K fd ps []):Fn P w K mg base x ps k (fun _=>BC):=by
  refine ⟨(fun ds μ r h=>absurd (show (none:Option (D × Mh))=some r from h) (by simp)),⟨f,fd,⟨fun vs H Q E h=>?_,fun A outer s H args us vs Q E _ _ _ _ h=>?_⟩,hm,F.kp,hb⟩⟩
  . obtain ⟨_,ι,μ,as,d,μ',_,_,e,_⟩:=h
    cases e
  . obtain ⟨_,ι,μ,as,d,μ',_,_,e,_⟩:=h
    cases e
end Mi
namespace Mi
open PySem L2
section
variable {P:Program} {w:World} {K:PySem.W.Frag} {mg:Str->Option Value} {base h:Heap} {x:Str}
def Ec:List Value->Option (List Str)
  | []=>some []
  | .str s _ :: r=>(Ec r).map (s :: ·)
  | _ :: _=>none
theorem Ev:∀ {us:List Value} {xs:List Str},Ec us=some xs->Vals (xs.map V.str) us
  | [],xs,e=>by cases e; exact .nil
  | u :: r,xs,e=>by
    cases u with
    | str s t=>
      have e:(Ec r).map (s :: ·)=some xs:=e
      cases q:Ec r with
      | none=>rw [q] at e; cases e
      | some ys=>rw [q] at e; cases e; exact .cons ⟨t,rfl⟩ (Ev q)
    | _=>cases e
def TupLit (K:PySem.W.Frag) (p:Addr) (xs:List Str):Prop:=∃ od its n sl,K.lookup p=some ⟨.type "tuple",od,.seq its n,sl⟩ /\ Ec its.toList=some xs
theorem SW {p:Addr} {xs:List Str} {od:Option Addr} {its:Array Value} {n:Nat} {sl:Array (Option Value)} (l:K.lookup p=some ⟨.type "tuple",od,.seq its n,sl⟩) (e:Ec its.toList=some xs):TupLit K p xs:=⟨od,its,n,sl,l,e⟩
theorem Ij {ι:Nat->Addr} {k:Nat} {H:Hp}:∀ xs:List Str,IsL K ι k H (xs.map D.str) (xs.map V.str)
  | []=>.nil
  | _ :: r=>.cons (by unfold Is; rfl) (Ij r)
theorem TupLit.is {p:Addr} {xs:List Str} (h:TupLit K p xs) (hl:xs.length <= 1000) {ι:Nat->Addr} {k:Nat} {H:Hp}:Is K ι k H (.tup (xs.map D.str)) (.ref p):=by
  obtain ⟨od,its,n,sl,l,e⟩:=h
  have v:=Ev e
  unfold Is
  refine ⟨p,_,rfl,.inr ⟨_,its,n,l,rfl,rfl,?_,v⟩,Ij xs⟩
  have:=v.length
  rw [List.length_map] at this
  have z:its.size=xs.length:=by rw [this]; simp
  rw [z]
  exact Nat.le_of_lt (LE hl)
theorem Ko {i:Int} {t:Tok} (X:K.In h) (G:h.Ns mainGlobals mg) (a:PySem.W.nsIn K mainGlobals x=some (some (.int i t))):Glo K mg x (.int i):=
  ⟨_,.int i,PySem.W.mg_of X G a,⟨t,rfl⟩,fun _ _ _=>by unfold Is; rfl⟩
def TabIs (K:PySem.W.Frag):List DictEntry->List (Str × List Str)->Prop
  | [],t=>t=[]
  | e :: es,t=>∃ x ys t' tok p,t=(x,ys) :: t' /\ e.key=.str x tok /\ e.val=.ref p /\ TupLit K p ys /\ ys.length <= 1000 /\ TabIs K es t'
theorem TabIs.noref:∀ {es:List DictEntry} {t:List (Str × List Str)},TabIs K es t->es.any (·.refKey)=false
  | [],_,_=>rfl
  | e :: es,t,h=>by
    obtain ⟨x,ys,t',tok,p,rfl,hk,_,_,_,r⟩:=h
    rw [List.any_cons,r.noref,Bool.or_false]
    show DictEntry.refKey e=false
    unfold DictEntry.refKey
    rw [hk]
def IG (t:List (Str × List Str)) (y:Str):Option D:=(t.find? (·.1 == y)).map fun p=>.tup (p.2.map D.str)
theorem TabIs.find:∀ {es:List DictEntry} {t:List (Str × List Str)} (y:Str),TabIs K es t->(es.find? (·.key.isStr y)=none /\ IG t y=none) ∨ ∃ e p ys,es.find? (·.key.isStr y)=some e /\ e.val=.ref p /\ TupLit K p ys /\ ys.length <= 1000 /\ IG t y=some (.tup (ys.map D.str))
  | [],t,y,h=>by cases (show t=[] from h); exact .inl ⟨rfl,rfl⟩
  | e :: es,t,y,h=>by
    obtain ⟨x,ys,t',tok,p,rfl,hk,hv,l,hl,r⟩:=h
    have q:e.key.isStr y=(x == y):=by rw [hk]; rfl
    cases b:(x == y) with
    | true=>
      right
      refine ⟨e,p,ys,?_,hv,l,hl,?_⟩
      . rw [List.find?_cons]; simp only [q,b]
      . unfold IG; rw [List.find?_cons]; simp only [b]; rfl
    | false=>
      have z1:(e :: es).find? (·.key.isStr y)=es.find? (·.key.isStr y):=by rw [List.find?_cons]; simp only [q,b]
      have z2:IG ((x,ys) :: t') y=IG t' y:=by unfold IG; rw [List.find?_cons]; simp only [b]
      rw [z1,z2]
      exact r.find y
theorem PX {ad:Addr} {es:Array DictEntry} {n:Nat} {t:List (Str × List Str)} (X:K.In h) (G:h.Ns mainGlobals mg) (a:PySem.W.nsIn K mainGlobals x=some (some (.ref ad))) (l:K.lookup ad=some ⟨.type "dict",none,.dict es n,#[]⟩) (kl:PySem.W.KeysLit w.params es.toList)
    (hs:(ad == sysModules)=false) (T:TabIs K es.toList t):Ps w K mg x (IG t):=by
  refine ⟨ad,PySem.W.mg_of X G a,fun y=>?_⟩
  have nr:=T.noref
  rcases T.find y with ⟨f,g⟩ | ⟨e,p,ys,f,hv,tl,hl,g⟩
  . refine ⟨none,⟨y,es,n,none,rfl,l,kl,?_,trivial,hs⟩,.inl ⟨g,rfl⟩⟩
    unfold PySem.W.nsIn
    rw [l]
    simp only [f,nr]
    rfl
  . refine ⟨some (.ref p),⟨y,es,n,some (.ref p),rfl,l,kl,?_,rfl,hs⟩,.inr ⟨_,.ref p,g,rfl,fun _ _ _=>tl.is hl⟩⟩
    unfold PySem.W.nsIn
    rw [l]
    simp only [f,hv]
structure Df (K:PySem.W.Frag) (x:Str) (st:Stmt) (f:Addr) (fd:FuncData):Prop where
  a:PySem.W.nsIn K mainGlobals x=some (some (.ref f))
  F:Fun K x x st f fd
theorem Tn {st:Stmt} {f:Addr} {oc:Value} {od an:Option Addr} {osl:Array (Option Value)} {kV doc pm cdv ct:Value} (a:PySem.W.nsIn K mainGlobals x=some (some (.ref f))) (l:K.lookup f=some ⟨oc,od,.func (PySem.W.fnOf x x (Do st) (AZ st) (AH st) .none kV doc pm an cdv ct),osl⟩)
    (c:PySem.W.codeIn K cdv x=true) (k:PySem.W.keepIn K (.ref f)=true):∃ f fd,Df K x st f fd:=⟨f,_,a,Na l c k⟩
theorem Ir (hw:How) {qual:Str} {st:Stmt} {f:Addr} {fd:FuncData} {N ps:List Str} {k:Nat} {mb:Sl->M (Fl × Sl)} (F:Fun K x qual st f fd) (S:Ai N ps (AH st))
    (body:∀ (cdv:Value) (A:Around) (outer:List Env) (s:Shared) (H:Hp) (E:XK),Room k (A.deeper (PyProof.Rows.envOfC qual (AH st) s.heap.objs.size f cdv))->RSs (Bv CX0 P w K mg base N qual (AH st) f cdv A outer s H E).nox (AZ st) mb) :
    FnOk P w K mg base CX0 (k + 1) f fd ps (spM K ps.length (Az hw N.length ps.length mb)):=
  Gw F S rfl body (fun ds μ d μ' h=>(DJ h).2)
def KL (K:PySem.W.Frag):Sp:=fun vs H Q _=>∃ (a:Addr) (ns:List Int),vs=[.ref a] /\ ScrAt K H a (ns.map V.int) /\ ns.length <= 63 /\ ∀ H',Q (.bl true) H'
theorem Qp {k:Nat} {f:Addr} {fd:FuncData} {φ:List D->M D} (F:FnOk P w K mg base CX0 k f fd ["_law_script"] (spM K 1 φ)) (hφ:∀ ns:List Int,ns.length <= 63->∃ μ',φ [.scr ns] []=some (.bl true,μ')):FnOk P w K mg base CX0 k f fd ["_law_script"] (KL K):=
  F.imp fun vs H Q E q=>by
    obtain ⟨a,ns,rfl,s,hl,q⟩:=q
    obtain ⟨μ',e⟩:=hφ ns hl
    refine ⟨rfl,fun _=>a,[],[.scr ns],.bl true,μ',⟨fun i j h=>absurd h (Nat.not_lt_zero _),fun n o e=>by simp at e⟩,.one (by unfold Is; exact ⟨a,rfl,s⟩),e,fun ι2 H2 E2 R2 v i=>?_⟩
    unfold Is at i
    rw [i]
    exact q H2
theorem IL {H:Hp} {a:Addr} {xs:List V} (o:Pr H) (s:SqL K H a xs):ScrAt K H a xs:=by
  rcases s with z | z
  . rcases z with z | ⟨p,z⟩
    . rcases o a with q | ⟨p,ys,q⟩
      . rw [q] at z; cases z
      . rw [q] at z; cases z
    . exact .inl ⟨p,z⟩
  . exact .inr z
end
theorem SU {l:PySem.W.OpenLaw} {q:Program} {loose:List Str} {XP:(Str->Option Value)->Heap->Prop} {YP:World->Heap->Prop} {d:DefRec} {K:Params->PySem.W.Frag} {k:Nat} (hn:l.most=some 63) (hdf:d.params.defaults=[]) (hk:k <= 60)
    (hY:∀ (w:World) (h:Heap),YP w h->(K w.params).In h)
    (F:∀ (w:World) (mg:Str->Option Value) (fa:Addr) (h:Heap),(K w.params).In h->h.Ns mainGlobals mg->mg d.name=some (.ref fa)->
      ∃ fd:FuncData,(∀ (s:Shared) (u:Value),BindsTo s fd ⟨[u],[]⟩ [("_law_script",u)]) /\ ∀ base:Heap,(K w.params).In base->base.Ns mainGlobals mg->FnOk l.prog w (K w.params) mg base CX0 k fa fd ["_law_script"] (KL (K w.params))) :
    PySem.W.WalkO q loose XP YP l.row.toRowW d [] (fun f vs=>PySem.call f vs):=
  L2.OL (n:=63) (k:=k) (x := "_law_script") (CX:=fun _=>CX0) (sp:=fun w=>KL (K w.params)) hn (by decide) hdf (Room.mono (j:=k) (k:=60) ⟨rfl,by decide,by decide⟩ hk) hY F (fun _ _ a ns hl o hS=>⟨a,ns,rfl,IL o hS,hl,fun _=>rfl⟩) fun _ _ _ _ _ z=>z
end Mi
namespace Mi
open PySem L2
def Pu {α:Type} (m:Sl->M α):Prop:=∀ τ μ a μ',m τ μ=some (a,μ')->μ'=μ
def Pu2 (g:D->D->M D):Prop:=∀ x y μ a μ',g x y μ=some (a,μ')->μ'=μ
theorem Oy {i:Nat}:Pu (AC i):=fun τ μ a μ' e=>by
  unfold AC at e
  split at e
  . cases e; rfl
  . cases e
theorem UE {d:D}:Pu (mC d):=fun τ μ a μ' e=>by cases e; rfl
theorem Ow:Pu Ci:=fun τ μ a μ' e=>by cases e; rfl
theorem S8 {g:D->D->M D} {ma mb:Sl->M D} (hg:Pu2 g) (ha:Pu ma) (hb:Pu mb):Pu (mOp g ma mb):=fun τ μ a μ' e=>by
  obtain ⟨x,μ1,e1,e2⟩:=AF e
  obtain ⟨y,μ2,e3,e4⟩:=AF e2
  rw [hg _ _ _ _ _ e4,hb _ _ _ _ e3,ha _ _ _ _ e1]
theorem Ox {m:Sl->M D} (h:Pu m):Pu (Ag m):=fun τ μ a μ' e=>by
  obtain ⟨x,μ1,e1,e2⟩:=AF e
  have z:=h _ _ _ _ e1
  cases x with
  | bl b=>cases e2; exact z
  | _=>cases e2
theorem RB {n:Bool}:Pu2 (DT n):=fun x y μ a μ' e=>by
  unfold DT at e
  split at e
  . split at e
    . cases e; rfl
    . cases e
  . cases e
theorem Lv {d:D} {μ μ':Mh} {ds:List D} (e:A6 d μ=some (ds,μ')):μ'=μ:=by
  cases d with
  | lst _=>cases e; rfl
  | scr _=>cases e; rfl
  | ref n=>
    have e:(match μ[n]? with | some (.lst ds)=>some (ds,μ) | _=>none)=some (ds,μ'):=e
    split at e
    . cases e; rfl
    . cases e
  | _=>cases e
theorem Lu {d:D} {μ μ':Mh} {ds:List D} (e:B6 d μ=some (ds,μ')):μ'=μ:=by
  cases d with
  | tup _=>cases e; rfl
  | _=>exact Lv (by unfold B6 at e; exact e)
theorem S9:Pu2 Ab:=fun x y μ a μ' e=>by
  unfold Ab at e
  split at e
  . split at e
    . rename_i z i hl
      cases q:atI z.cps.toList i with
      | none=>rw [q] at e; cases e
      | some c=>rw [q] at e; cases e; rfl
    . cases e
  . obtain ⟨ds,μ1,e1,e2⟩:=AF e
    have z:=Lu e1
    unfold ixD at e2
    rename_i i _
    cases q:atI ds i with
    | none=>rw [q] at e2; cases e2
    | some c=>rw [q] at e2; cases e2; exact z
  . cases e
section
variable {X:Cx} {scope:Scope} {tgs:List Str} {ix:List Nat} {e elt tg iter:Expr} {pos:Pos}
def QR:D->M (List D)
  | .ref n=>fun μ=>match μ[n]? with
    | some (.lst ds)=>some (ds,μ)
    | _=>none
  | _=>BC
def Kg (m:Sl->M D):Sl->M (List D):=fun τ=>bnd (m τ) QR
def ItP (K:PySem.W.Frag) (J:It) (ds:List D) (ι:Nat->Addr) (μ:Mh) (H:Hp):Prop:=∀ ι' H',Ext ι μ.length H ι' μ.length H'->RelH K ι' μ H'->
  (∀ i,i < ds.length->J.go i H') /\ J.stop ds.length H' /\ ∀ (i:Nat) x H2 d,ds[i]? = some d->J.yld i H' x H2->Ext ι' μ.length H' ι' μ.length H2 /\ RelH K ι' μ H2 /\ Is K ι' μ.length H2 d x
theorem ItP.ext {K:PySem.W.Frag} {J:It} {ds:List D} {ι ι':Nat->Addr} {μ:Mh} {H H':Hp} (h:ItP K J ds ι μ H) (E:Ext ι μ.length H ι' μ.length H'):ItP K J ds ι' μ H':=fun ι2 H2 E2 R2=>h ι2 H2 (E.trans E2) R2
def tIP (K:PySem.W.Frag) (m:Sl->M (List D)):TI:=fun σ H R=>∃ ι μ τ ds μ',RelH K ι μ H /\ RelS K ι μ.length H τ σ /\ m τ μ=some (ds,μ') /\
  Aft K ι μ H μ' fun ι' H'=>∀ J,ItP K J ds ι' μ' H'->R J H'
structure RIP (X:Cx) (tg iter:Expr) (m:Sl->M (List D)):Prop where
  pe:PI X tg iter (tIP X.K m)
theorem Me {m:Sl->M D} (h:RE X e m):RIP X tg e (Kg m):=⟨PI.wk (KW h.pe) fun σ H Q q=>by
  obtain ⟨ι,μ,τ,ds,μ',R0,S,e,q⟩:=q
  obtain ⟨x,μ1,e1,e⟩:=AF e
  cases x with
  | ref n=>
    have e:(match μ1[n]? with | some (.lst ds)=>some (ds,μ1) | _=>none)=some (ds,μ'):=e
    split at e
    . rename_i es hn
      cases e
      refine ⟨ι,μ,τ,_,_,R0,S,e1,fun ι1 H1 E1 R1 v i1=>?_⟩
      unfold Is at i1
      obtain ⟨hk,rfl⟩:=i1
      obtain ⟨u,hu,o⟩:=R1.obj n _ hn
      obtain ⟨vs,rfl,iv⟩:=o
      refine ⟨_,rfl,⟨vs,SqL.of hu⟩,q ι1 H1 E1 R1 _ ?_⟩
      intro ι2 H2 E2 R2
      obtain ⟨u2,hu2,o2⟩:=R2.obj n _ hn
      obtain ⟨vs2,rfl,iv2⟩:=o2
      rw [E2.agree n hk] at hu2
      have hl:=iv2.length
      refine ⟨fun j hj=>⟨vs2,vs2[j],SqL.of hu2,by simp⟩,⟨vs2,SqL.of hu2,by omega⟩,fun j x H3 d hd y=>?_⟩
      obtain ⟨z,y⟩:=y
      subst z
      obtain ⟨v,ev,iv3⟩:=iv2.get hd
      have:=y vs2 (SqL.of hu2)
      rw [ev] at this; cases this
      exact ⟨R2.ext0,R2,iv3⟩
    . cases e
  | _=>cases e⟩
theorem MM {K:PySem.W.Frag} {n:Nat} {src:Sl->M (List D)} {i:Nat} {mc:Sl->M Bool} {me:Sl->M D} {fin:List D->M D} {σ:St} {H:Hp} {Q:VK} (pc:Pu mc) (pm:Pu me) (hn:tgs.length=n) (hf:∀ ι μ μ' H ds vs d (Q:VK),RelH K ι μ H->IsL K ι μ.length H ds vs->fin ds μ=some (d,μ')->(Aft K ι μ H μ' fun ι' H'=>∀ v,Is K ι' μ'.length H' d v->Q v H')->
      vs.length <= sizeLine /\ ∀ p,H p=none->Q (.ref p) (upd H p (.lst vs)))
    (h:tE K (Bj n ix src (AQ i) mc me fin) σ H Q):Gh tgs ix (tIP K src) (DL i) (tT K mc) (tE K me) σ H Q:=by
  subst hn
  obtain ⟨ι,μ,τ,d,μ',R,S,e,q⟩:=h
  obtain ⟨ds,ν,e1,e5⟩:=AF e
  obtain ⟨u,μ2,e2,e6⟩:=AF e5
  obtain ⟨zs,μ3,e3,e7⟩:=AF e6
  obtain ⟨hl,e4⟩:=CK e2
  clear e e5 e6
  subst e4
  refine ⟨ι,μ,τ,ds,_,R,S,e1,fun ι1 H1 E1 R1 J it=>?_⟩
  refine ⟨fun i' m ys H=>m=ds.length - i' /\ i' <= ds.length /\ ys.length <= i' /\ ∃ (ι:Nat->Addr) (as:List D),RelH K ι μ2 H /\ RelS K ι μ2.length H τ σ /\ ItP K J ds ι μ2 H /\ IsL K ι μ2.length H as ys /\ Bs (AQ i) mc me (Bz tgs.length ix τ) (ds.drop i') as μ2=some (zs,μ3) /\
    Aft K ι μ2 H μ' fun ι' H'=>∀ v,Is K ι' μ'.length H' d v->Q v H',⟨ds.length,by simp,Nat.zero_le _,Nat.le_refl _,ι1,[],R1,S.ext E1,it,.nil,e3,fun ι2 H2 E2 R2=>q ι2 H2 (E1.trans E2) R2⟩,?_⟩
  rintro i' m ys H ⟨hm,hil,hyl,ι,as,R,S,it,ia,e3,q⟩
  obtain ⟨go,stop,yl⟩:=it ι H R.ext0 R
  by_cases hlt:i' < ds.length
  . refine .inr ⟨go i' hlt,by omega,fun ys' H'=>ys'.length <= i' + 1 /\ ∃ (ι:Nat->Addr) (as:List D),RelH K ι μ2 H' /\ RelS K ι μ2.length H' τ σ /\ ItP K J ds ι μ2 H' /\ IsL K ι μ2.length H' as ys' /\ Bs (AQ i) mc me (Bz tgs.length ix τ) (ds.drop (i' + 1)) as μ2=some (zs,μ3) /\
      Aft K ι μ2 H' μ' fun ι' H'=>∀ v,Is K ι' μ'.length H' d v->Q v H',fun ys' H' z=>⟨_,(by omega:ds.length - (i' + 1) < m),rfl,hlt,z⟩,fun x H2 y=>?_⟩
    have hd:ds[i']? = some ds[i']:=by simp [hlt]
    obtain ⟨E2,R2,ix2⟩:=yl i' x H2 _ hd y
    rw [List.drop_eq_getElem_cons hlt] at e3
    obtain ⟨τ1,μ1,e1,e3⟩:=AF e3
    cases e1
    obtain ⟨cc,μ5,e2,e3⟩:=AF e3
    have z5:=pc _ _ _ _ e2
    subst z5
    have S2:=(S.ext E2).block (tgs:=tgs) (ix:=ix)
    show tT K mc _ H2 _
    refine ⟨ι,_,_,cc,_,R2,S2.set i ix2,e2,fun ι3 H3 E3 R3=>?_⟩
    have E13:=E2.trans E3
    cases cc with
    | false=>
      exact ⟨by omega,ι3,as,R3,S.ext E13,it.ext E13,ia.ext E13,e3,fun ι5 H5 E5 R5=>q ι5 H5 (E13.trans E5) R5⟩
    | true=>
      obtain ⟨y',μ4,e4,e8⟩:=AF e3
      clear e3
      have z4:=pm _ _ _ _ e4
      subst z4
      refine ⟨ι3,_,_,y',_,R3,(S2.set i ix2).ext E3,e4,fun ι4 H4 E4 R4 v iv=>?_⟩
      have E14:=E13.trans E4
      exact ⟨by simp; omega,ι4,as ++ [y'],R4,S.ext E14,it.ext E14,(ia.ext E14).append (.one iv),e8,fun ι5 H5 E5 R5=>q ι5 H5 (E14.trans E5) R5⟩
  . have hi':i'=ds.length:=by omega
    subst hi'
    rw [List.drop_length] at e3
    cases e3
    obtain ⟨z1,z2⟩:=hf ι _ μ' H _ ys d Q R ia e7 q
    exact .inl ⟨stop,z1,z2⟩
theorem Ew (k:Nat) {n:Nat} {y:Str} {py spos:Pos} {ifs:List Expr} {src:Sl->M (List D)} {i:Nat} {mc:Sl->M Bool} {me:Sl->M D} {fin:List D->M D} (pc:Pu mc) (pm:Pu me) (hN:X.N.Nodup) (S:BScope X scope tgs ix) (hc:X.calm=true) (hi:RIP X tg iter src) (hg:∀ fp C s H,PG (cxB X scope tgs fp C s H) tg (DL i)) (hif:∀ fp C s H,Ge (cxB X scope tgs fp C s H) ifs (tT X.K mc)) (he:∀ fp C s H,RE (cxB X scope tgs fp C s H) elt me)
    (hfin:∀ ι μ μ' H ds vs d (Q:VK),RelH X.K ι μ H->IsL X.K ι μ.length H ds vs->fin ds μ=some (d,μ')->(Aft X.K ι μ H μ' fun ι' H'=>∀ v,Is X.K ι' μ'.length H' d v->Q v H')->vs.length <= sizeLine /\ ∀ p,H p=none->Q (.ref p) (upd H p (.lst vs)))
    (hiN:X.N[k]? = some y:=by rfl) (hy:X.env.scope.names.lookup y=some .local:=by rfl) (hin:i < tgs.length:=by decide) (hn:tgs.length=n:=by rfl)
    (hsw:swapsWith (.ListComp elt [⟨tg,iter,ifs,0⟩] scope pos) (some (.Name y py)) spos.line X.env=pure true:=by rfl) (hs:∀ x,foldedSetIterable iter X.env x=pure x:=by intro _; rfl) (ht:∀ o v,letOwnedTupleGo tg o v=pure ():=by intro _ _; rfl) :
    RS X (.Assign [.Name y py] (.ListComp elt [⟨tg,iter,ifs,0⟩] scope pos) spos) (As (Bj n ix src (AQ i) mc me fin) (AQ k)):=
  RS.wk (Fu (te:=tE X.K me) hN hiN hy S hc hi.pe hg (Hf hin) hif (fun fp C s H=>(he fp C s H).pe) hsw hs ht) fun Dn σ H h=>by
    obtain ⟨ι,μ,τ,f,τ',μ',R,S,e,q⟩:=h
    obtain ⟨x,μ1,e1,e⟩:=AF e
    obtain ⟨τ1,μ2,e2,e⟩:=AF e
    cases e2
    cases e
    refine MM pc pm hn hfin ⟨ι,μ,τ,x,_,R,S,e1,fun ι1 H1 E1 R1 v i1=>?_⟩
    exact q ι1 H1 E1 R1 _ ((S.ext E1).set k i1)
end
end Mi
namespace Mi
open PySem L2 PyProof.Rows
section
variable {X:Cx} {e a b c o:Expr} {es:List Expr} {pos apos cpos:Pos}
theorem M6:OpR X (binaryOp .Add) (fun x y H Q=>∃ a b ys,x=.ref a /\ y=.ref b /\ SqT X.K H a [] /\ SqT X.K H b ys /\ Q (.ref b) H):=by
  intro pins s σ H x y v u Q I rx ry h
  obtain ⟨a,b,ys,rfl,rfl,ha,hb,q⟩:=h
  cases rx
  cases ry
  obtain ⟨its,r1,p1,_⟩:=I.tuple ha
  obtain ⟨its2,r2,p2,_⟩:=I.tuple hb
  cases r1
  obtain ⟨⟨cls,dd,data,sl⟩,ho,hc,n,hd⟩:=p1
  obtain ⟨⟨cls2,dd2,data2,sl2⟩,ho2,hc2,n2,hd2⟩:=p2
  simp only at hc hd hc2 hd2
  subst hc hd hc2 hd2
  exact concat_meets ⟨_,ho,rfl⟩ ⟨_,ho2,rfl⟩ noFill_tuple_add seq_tuple_add PySem.F.slot_tuple_add PySem.F.entry_tuple_add (PySem.F.args_tuple_add_2 _ _) (tuple_addW0 a b _ _ n n2 dd dd2 sl sl2 rfl) ⟨ho,ho2,⟨.ref b,H,I,rfl,q⟩⟩
def BE (a b:D):M D:=match a,b with
  | .tup [],.tup ds=>ret (.tup ds)
  | a,b=>Mp a b
theorem Bb:OpR X (binaryOp .Add) (rM X.K BE):=fun pins s σ H x y v u Q I rx ry h=>by
  obtain ⟨ι,μ,a,b,d,μ',R,ia,ib,e,q⟩:=h
  unfold BE at e
  split at e
  . rename_i ds
    cases e
    unfold Is at ia
    obtain ⟨p,vs,rfl,h1,h2⟩:=ia
    unfold IsL at h2
    subst h2
    have ib2:=ib
    unfold Is at ib
    obtain ⟨p',vs',rfl,h1',h2'⟩:=ib
    exact M6 pins s σ H _ _ v u Q I rx ry ⟨p,p',vs',rfl,rfl,h1,h1',q ι H R.ext0 R _ ib2⟩
  . exact TV pins s σ H x y v u Q I rx ry ⟨ι,μ,_,_,d,μ',R,ia,ib,e,q⟩
theorem Ga {prog:Program} {w:World} {A:Around} {E:Value->Shared->Prop} {s:Shared} {t sl:Addr} {items:Array Value} {vl vu:Value} {lo hi:Option Int} {Q:Value->Shared->Prop} (ht:IsTup s.heap t items) (hs:s.heap.IsSliceOf sl vl vu .none) (pl:IsPart vl lo) (pu:IsPart vu hi)
    (h1:HT.sIx items.size 0 lo=0) (h2:HT.sIx items.size items.size hi=items.size) (h:Q (.ref t) s):wpAny (model prog w) A (getItem (.ref t) (.ref sl)) Q E s:=by
  obtain ⟨os,hos,hcs,hds⟩:=id hs
  have hTs:s.TypeIs (.ref sl) "slice" := ⟨os,hos,hcs⟩
  unfold getItem
  try with_reducible refine wpAny_holding ?_
  first | refine wpAny_bind (wpAny_pure ?_) | skip
  refine wpAny_bind (wpAny_sequenceKey ht.typeIs (by decide) ?_)
  refine wpAny_bind (wpAny_callSpecial?_slot (name:=Str.ofString "__getitem__") ht.typeIs PyProof.Rows.slot_tuple_getitem
    (wpAny_call_entry PyProof.Rows.slot_tuple_getitem ht.typeIs entry_tuple_getitem ?_ (args_tuple_getitem _ _)))
  show wpAny _ _ (Builtin.Tuple.tupleItemsOf (.ref t) >>= _) _ _ s
  refine wpAny_bind (tupleItemsOf_ ht ?_)
  refine wpAny_bind (wpAny_typeOf hTs ?_)
  rw [if_pos (by decide)]
  refine wpAny_bind (HT.Cv hs pl pu ?_)
  have hyes:((((HT.sIx items.size 0 lo:Nat):Int) == 0 && (1:Int) == 1 && (HT.sIx items.size items.size hi - HT.sIx items.size 0 lo) == items.size)=true):=by rw [h1,h2]; simp
  show wpAny _ _ (if (((HT.sIx items.size 0 lo:Nat):Int) == 0 && (1:Int) == 1 && (HT.sIx items.size items.size hi - HT.sIx items.size 0 lo) == items.size)=true then _ else _) _ _ s
  rw [if_pos hyes]
  refine wpAny_bind (m:=Builtin.Tuple.tupleIsExact (.ref t)) ?_
  unfold Builtin.Tuple.tupleIsExact
  refine wpAny_bind (wpAny_typeOf ht.typeIs (wpAny_pure ?_))
  rw [if_pos (by decide)]
  refine wpAny_bind (wpAny_rule ?_)
  exact wpAny_pure ⟨_,rfl,wpAny_pure h⟩
theorem OU:SlR X (fun x lo hi H Q=>∃ a xs,x=.ref a /\ SqT X.K H a xs /\ HT.sIx xs.length 0 lo=0 /\ HT.sIx xs.length xs.length hi=xs.length /\ Q (.ref a) H):=by
  intro pins s σ H x v vl vu lo hi sl Q I rx hs pl pu h
  obtain ⟨a,xs,rfl,hx,h1,h2,q⟩:=h
  cases rx
  obtain ⟨its,r,ht,hz⟩:=I.tuple hx
  have hlen:its.toArray.size=xs.length:=by rw [List.size_toArray]; exact r.length.symm
  refine ⟨"tuple",_,PyProof.Rows.slot_tuple_getitem.lookup,ht.typeIs,?_⟩
  exact Ga ht hs pl pu (by rw [hlen]; exact h1) (by rw [hlen]; exact h2) ⟨.ref a,H,I,rfl,q⟩
theorem Ni {ds:List D} {lo hi:Option Int} (h1:HT.sIx ds.length 0 lo=0) (h2:HT.sIx ds.length ds.length hi=ds.length):Gc ds lo hi=ds:=by
  unfold Gc
  rw [h1,h2]; simp
def Mn (lo hi:Option Int):D->M D
  | .tup ds=>ret (.tup (Gc ds lo hi))
  | d=>bnd (A6 d) fun ds=>ret (.lst (Gc ds lo hi))
def UC (K:PySem.W.Frag):V->Option Int->Option Int->Hp->VK->Prop:=fun x lo hi H Q=>∃ ι μ a d μ',RelH K ι μ H /\ Is K ι μ.length H a x /\ Mn lo hi a μ=some (d,μ') /\
  Aft K ι μ H μ' fun ι' H'=>∀ v,Is K ι' μ'.length H' d v->Q v H'
theorem TR:SlR X (UC X.K):=fun pins s σ H x v vl vu lo hi sl Q I rx hs pl pu h=>by
  obtain ⟨ι,μ,a,d,μ',R,ia,e,q⟩:=h
  by_cases c:∃ ds,a=.tup ds /\ HT.sIx ds.length 0 lo=0 /\ HT.sIx ds.length ds.length hi=ds.length
  . obtain ⟨ds,rfl,h1,h2⟩:=c
    have e:some (D.tup (Gc ds lo hi),μ)=some (d,μ'):=e
    rw [Ni h1 h2] at e
    cases e
    have ia2:=ia
    unfold Is at ia
    obtain ⟨p,vs,rfl,g1,g2⟩:=ia
    exact OU pins s σ H _ v vl vu lo hi sl Q I rx hs pl pu ⟨p,vs,rfl,g1,by rw [g2.length]; exact h1,by rw [g2.length]; exact h2,q ι H R.ext0 R _ ia2⟩
  . refine UG pins s σ H x v vl vu lo hi sl Q I rx hs pl pu ⟨ι,μ,a,d,μ',R,ia,?_,q⟩
    cases a with
    | tup ds=>
      show (if HT.sIx ds.length 0 lo=0 /\ HT.sIx ds.length ds.length hi=ds.length then (BC:M D) else ret (D.tup (Gc ds lo hi))) μ=_
      rw [if_neg (fun z=>c ⟨ds,rfl,z.1,z.2⟩)]; exact e
    | _=>exact e
def NH (me:Sl->M D) (ml mh:Sl->M (Option Int)):Sl->M D:=fun τ=>bnd (me τ) fun x=>bnd (ml τ) fun l=>bnd (mh τ) fun h=>Mn l h x
theorem Je {e:Expr} {lo hi:Option Expr} {me:Sl->M D} {ml mh:Sl->M (Option Int)} {pos p2:Pos} (he:RE X e me) (hl:RO X lo ml) (hh:RO X hi mh):RE X (.Subscript e (.Slice lo hi none p2) pos) (NH me ml mh):=RE.wk (Mz TR he.pe hl.pe hh.pe) fun σ H Q h=>by
  obtain ⟨ι,μ,τ,z,μ',R,S,e,q⟩:=h
  obtain ⟨x,μ1,e1,e⟩:=AF e
  obtain ⟨l,μ2,e2,e⟩:=AF e
  obtain ⟨u,μ3,e3,e⟩:=AF e
  refine ⟨ι,μ,τ,x,μ1,R,S,e1,fun ι1 H1 E1 R1 v i1=>⟨ι1,μ1,τ,l,μ2,R1,S.ext E1,e2,fun ι2 H2 E2 R2=>⟨ι2,μ2,τ,u,μ3,R2,S.ext (E1.trans E2),e3,fun ι3 H3 E3 R3=>?_⟩⟩⟩
  have E23:=E2.trans E3
  exact ⟨ι3,μ3,x,z,μ',R3,i1.ext E23,e,fun ι4 H4 E4 R4=>q ι4 H4 ((E1.trans E23).trans E4) R4⟩
end
end Mi
namespace Mi
open PySem L2
open PyProof.Rows hiding St
section
variable {X:Cx} {e a b c o tg iter elt:Expr} {es:List Expr} {pos apos cpos:Pos} {scope:Scope} {tgs:List Str} {ix:List Nat}
def AS (g:D->List D->M D) (mo:Sl->M D):Sl->M D:=fun τ=>bnd (mo τ) fun x=>bnd (CO x) fun _=>g x []
theorem LC {K:PySem.W.Frag} {g:D->List D->M D} {mo:Sl->M D} {σ:St} {H:Hp} {Q:VK} (h:tE K (AS g mo) σ H Q):Sh K "list" (rMM K g) (tE K mo) σ H Q:=by
  obtain ⟨ι,μ,τ,d,μ',R,S,e,q⟩:=h
  obtain ⟨x,μ1,e1,ee1⟩:=AF e
  obtain ⟨u,μ2,e2,ee2⟩:=AF ee1
  have hm:=Gs e2
  subst hm
  refine ⟨ι,μ,τ,x,_,R,S,e1,fun ι1 H1 E1 R1 v1 i1=>⟨(E8 R1 i1 e2).2,?_⟩⟩
  exact ⟨ι1,_,x,[],d,μ',R1,i1,IsL.nil,ee2,fun ι3 H3 E3 R3=>q ι3 H3 (E1.trans E3) R3⟩
theorem AU {name:Str} {id:String} {g:D->List D->M D} {mo:Sl->M D} (slot:Slot "list" name id) (hty:typeOf (.builtin id)=pure (.type "method_descriptor")) (hm:MtR X id (rMM X.K g)) (ho:RE X o mo)
    (hbase:attributeBase o name X.env (eval o X.env)=eval o X.env:=by rfl) (hline:(apos.endLine == cpos.line)=true:=by rfl) :
    RE X (.Call (.Attribute o name apos) [] [] cpos) (AS g mo):=RE.wk (Ra PySem.F.plainAttrs_list slot hty hm ho.pe hbase hline) fun _ _ _ h=>LC h
def Pm:D->List D->M D
  | .ref n,[]=>D9 n fun _=>some (.non,[])
  | _,_=>BC
theorem PU:MtR X "list.clear" (rMM X.K Pm):=fun pins s σ H x xs v us Q I rx rs h=>by
  obtain ⟨ι,μ,a,as,d,μ',R,ia,ib,e,q⟩:=h
  unfold Pm at e
  split at e
  . rename_i n
    obtain ⟨ds,es,h1,h2,rfl⟩:=Dd e
    cases h2
    unfold IsL at ib
    subst ib
    cases rs
    unfold Is at ia
    obtain ⟨_,rfl⟩:=ia
    obtain ⟨u,g1,vs,rfl,g2⟩:=R.obj n _ h1
    cases rx
    obtain ⟨z,its,nn,r,hl2,e2⟩:=I.lstM g1
    refine call_meets PySem.F.slot_list_clear ⟨_,e2,rfl⟩ PySem.F.entry_list_clear (PySem.F.args_list_clear_1 _) (PySem.AutoSeq1.list_clear_list_0 _ its.toArray nn (by rw [List.size_toArray,← hl2]; exact z)) ⟨e2,?_⟩
    exact ⟨.non,_,I.lset (its':=[]) (ys:=[]) g1 e2 rfl .nil (by simp),rfl,FK R h1 IsL.nil ofN q⟩
  . cases e
end
end Mi
namespace Mi
open PySem L2
open PyProof.Rows hiding St
section
variable {X:Cx} {e a b c o:Expr} {es:List Expr} {pos apos cpos:Pos}
end
end Mi
namespace Mi
open PySem L2
open PyProof.Rows hiding St
section
variable {X:Cx} {e a b c o:Expr} {es:List Expr} {pos apos cpos:Pos}
end
end Mi
namespace Mi
open PySem L2
end Mi
local macro_rules | `(tactic| wtm_at "own qpu")=>`(tactic| repeat first | exact Mi.Oy | exact Mi.UE | exact Mi.Ow | exact Mi.S9 | exact Mi.RB | exact Mi.pu_nil | exact Mi.pu_inst | exact Mi.pu_len | apply Mi.Ox | apply Mi.S8 | apply Mi.pu_cons | apply Mi.pu_disp | apply Mi.pu_or | apply Mi.pu_and | apply Mi.pu_not)
namespace Ht
open PySem PySem.SetTable
abbrev Ris (l:List Nat):Prop:=l.Pairwise (· < ·)
theorem Mc {xs:Array Nat} (r:Ris xs.toList) {i k:Nat} (hk:k < xs.size) (h:i < k):xs[i]'(Nat.lt_trans h hk) < xs[k]:=by
  have:=List.pairwise_iff_getElem.mp r i k (by simpa using Nat.lt_trans h hk) (by simpa using hk) h
  simpa using this
theorem Md {xs:Array Nat} (r:Ris xs.toList) {i k:Nat} (hk:k < xs.size) (h:i <= k):xs[i]'(Nat.lt_of_le_of_lt h hk) <= xs[k]:=by
  rcases Nat.lt_or_eq_of_le h with z | z
  . exact Nat.le_of_lt (Mc r hk z)
  . subst z; exact Nat.le_refl _
structure Bel (xs:Array Nat) (j b:Nat):Prop where
  le:b <= xs.size
  lo:∀ i (h:i < xs.size),i < b->xs[i] < j
  hi:∀ i (h:i < xs.size),b <= i->j <= xs[i]
theorem GL {xs:Array Nat} {j:Nat} (r:Ris xs.toList):∀ fuel lo hi,lo <= hi->hi <= xs.size->hi - lo <= fuel->(∀ i (h:i < xs.size),i < lo->xs[i] < j)->(∀ i (h:i < xs.size),hi <= i->j <= xs[i])->Bel xs j (below.go xs j fuel lo hi)
  | 0,lo,hi,h1,h2,h3,h4,h5=>by
    have:lo=hi:=by omega
    subst this
    exact ⟨h2,h4,h5⟩
  | fuel + 1,lo,hi,h1,h2,h3,h4,h5=>by
    unfold below.go
    by_cases z:lo < hi
    . rw [if_pos z]
      have hm:(lo + hi) / 2 < hi:=by omega
      have hm2:lo <= (lo + hi) / 2:=by omega
      have hs:(lo + hi) / 2 < xs.size:=by omega
      have e:xs.getD ((lo + hi) / 2) j=xs[(lo + hi) / 2]:=by simp [Array.getD,hs]
      dsimp only
      rw [e]
      by_cases q:xs[(lo + hi) / 2] < j
      . rw [if_pos q]
        exact GL r fuel _ hi (by omega) h2 (by omega) (fun i h hi'=>Nat.lt_of_le_of_lt (Md r hs (by omega)) q) h5
      . rw [if_neg q]
        exact GL r fuel lo _ hm2 (by omega) (by omega) h4 (fun i h hi'=>Nat.le_trans (Nat.le_of_not_lt q) (Md r h hi'))
    . rw [if_neg z]
      have:lo=hi:=by omega
      subst this
      exact ⟨h2,h4,h5⟩
theorem GJ {xs:Array Nat} (r:Ris xs.toList) (j:Nat):Bel xs j (below xs j):=
  GL r _ 0 _ (Nat.zero_le _) (Nat.le_refl _) (by omega) (fun i _ h=>absurd h (by omega)) (fun i h h2=>absurd h2 (by omega))
theorem J3 {xs:Array Nat} (r:Ris xs.toList) {k:Nat} (hk:k < xs.size):below xs (xs[k] + 1)=k + 1:=by
  have b:=GJ r (xs[k] + 1)
  rcases Nat.lt_trichotomy (below xs (xs[k] + 1)) (k + 1) with z | z | z
  . have h1:=b.hi k hk (by omega)
    omega
  . exact z
  . have h1:=b.lo (k + 1) (by have:=b.le; omega) z
    have h2:=Mc r (k:=k + 1) (i:=k) (by have:=b.le; omega) (by omega)
    omega
theorem J2 {xs:Array Nat} (r:Ris xs.toList):below xs 0=0:=by
  have b:=GJ r 0
  rcases Nat.eq_zero_or_pos (below xs 0) with z | z
  . exact z
  . have:=b.lo 0 (by have:=b.le; omega) z
    omega
end Ht
namespace Ht
open PySem PySem.SetTable
structure Tab (t:SetTable) (n:Nat):Prop where
  ris:Ris t.place.toList
  sz:t.place.size=n
  dm:t.dummies = #[]
  mks:(t.mask=7 /\ n <= 4) ∨ (t.mask=31 /\ n <= 18) ∨ (t.mask=127 /\ 19 <= n /\ n <= 75)
  pl:t.plain=true
theorem LA (led:Bool):Tab (.fresh 0 0 led) 0:=⟨List.Pairwise.nil,rfl,rfl,.inl ⟨rfl,by omega⟩,rfl⟩
theorem Tab.fits {t:SetTable} {n:Nat} (h:Tab t n):t.fits n=true:=by
  unfold SetTable.fits fill
  rw [h.sz,h.dm]
  rcases h.mks with ⟨a,b⟩ | ⟨a,b⟩ | ⟨a,b⟩ <;> simp [a] <;> omega
end Ht
namespace Ht
open PySem PySem.SetTable
open PyProof.Rows
section
variable {prog:Program} {w:World} {A:Around} {E:Value->Shared->Prop} {s:Shared}
theorem Kp {h:Heap} {a:Addr} {o:Obj} {es:Array (Int × Value)} {ep:Nat} {t:SetTable} (ho:h.get? a=some o) (hd:o.data=.set es ep t) (es':Array (Int × Value)) (t':SetTable) :
    (h.update a (Obj.putSet es' t')).get? a=some { o with data:=.set es' (ep + 1) t' }:=by
  have:=Heap.get?_update_self (Obj.putSet es' t') ho (by rw [putSet_of es' t' hd]; rfl)
  rw [putSet_of es' t' hd] at this
  exact this
end
end Ht
namespace Ht
open PySem PySem.Spec PyProof.Rows Sem L2
section
variable {prog:Program} {w:World} {A:Around} {E:Value->Shared->Prop} {s:Shared}
theorem OW (a:Value) {Q:Value->Shared->Prop} (h:Q (.ref s.heap.objs.size) { s with heap:=s.heap.push (Ak !(w.params.followText "set-order")) }) :
    codeAny (model prog w) A (.call (.builtin "set.__new__") ⟨[.type "set",a],[]⟩) (wants Q E) s:=by
  refine codeAny_call_builtin (b:=Builtin.«set.__new__») PySem.F.plain_set_new PySem.F.entry_set_new (wpAny_of_eq (PySem.F.newCall_set_1 a) ?_)
  unfold Builtin.«set.__new__» Builtin.Frozenset.newClass
  have z:=sub_set_self
  wp_walk
  refine wpAny_askSetting (wpAny_pure ?_)
  have e:∀ {Q:Value->Shared->Prop} {E:Value->Shared->Prop} (t:SetTable),Q (.ref s.heap.objs.size) { s with heap:=s.heap.push { cls:=.type "set",data:=.set #[] 0 t } }->wpAny (model prog w) A.in1 (newObj (.type "set") (.set #[] 0 t)) Q E s:=fun t z=>by
    unfold newObj
    wp_walk
    first | exact z | exact wpAny_bind (wpAny_alloc (wpAny_pure z)) | trace_state
  exact e _ (wpAny_pure h)
end
end Ht
namespace Ht
open PySem PySem.Spec PyProof.Rows Sem L2 PySem.SetTable
theorem D5 {α:Type}:∀ (l:List α) (i:Nat) (x:α),l[i]? = some x->(x :: l.eraseIdx i).Perm l
  | [],_,_,e=>by cases e
  | a :: l,0,x,e=>by
    simp at e
    subst e
    exact .refl _
  | a :: l,i + 1,x,e=>by
    have e':l[i]? = some x:=by simpa using e
    exact (List.Perm.swap a x _).trans ((D5 l i x e').cons a)
theorem KU {α:Type} (f:Nat->Nat):∀ (fuel k:Nat) (left:List α) (out:Array α),left.length <= fuel->(pickOrder.go f fuel k left out).toList.Perm (out.toList ++ left)
  | 0,k,left,out,h=>by
    have:left=[]:=List.length_eq_zero_iff.mp (by omega)
    subst this
    unfold pickOrder.go
    rw [List.append_nil]
  | fuel + 1,k,left,out,h=>by
    unfold pickOrder.go
    cases e:left[f k % left.length]? with
    | none=>
      simp only []
      have:left=[]:=by
        cases left with
        | nil=>rfl
        | cons a l=>
          exfalso
          have:=List.getElem?_eq_none_iff.mp e
          have:=Nat.mod_lt (f k) (show 0 < (a :: l).length by simp)
          omega
      rw [this,List.append_nil]
    | some x=>
      simp only []
      have hp:=D5 left _ x e
      have hl:=hp.length_eq
      rw [List.length_cons] at hl
      refine (KU f fuel (k + 1) _ (out.push x) (by omega)).trans ?_
      rw [Array.toList_push,List.append_assoc]
      exact hp.append_left _
theorem LT {α:Type} (f:Nat->Nat) (xs:Array α):(pickOrder f xs).toList.Perm xs.toList:=by
  have:=KU f xs.size 0 xs.toList #[] (by simp)
  simpa [pickOrder] using this
def wv (w:World) (S:Addr) (ep:Nat) (es:Array (Int × Value)):Array (Int × Value):=if w.params.followText "set-order" = true then pickOrder (w.params.setOrder S ep) es else es
theorem J7 (w:World) (S:Addr) (ep:Nat) (es:Array (Int × Value)):(wv w S ep es).toList.Perm es.toList:=by
  unfold wv
  split
  . exact LT _ _
  . exact .refl _
theorem FG (w:World) (S:Addr) (ep:Nat) (es:Array (Int × Value)):(wv w S ep es).size=es.size:=by
  have:=(J7 w S ep es).length_eq
  simpa using this
structure Wt (w:World) (t:SetTable) (n:Nat):Prop where
  fits:t.fits n=true
  nd:w.params.followText "set-order" = false->Ris t.place.toList /\ (!t.plain && decide (n > 1))=false
theorem Wt.sz {w:World} {t:SetTable} {n:Nat} (T:Wt w t n):t.place.size=n:=by
  have:=T.fits
  unfold SetTable.fits at this
  simp only [Bool.and_eq_true,beq_iff_eq] at this
  exact this.1
section
variable {prog:Program} {w:World} {A:Around} {E:Value->Shared->Prop} {s:Shared}
theorem IJ {S:Addr} {sl i ep:Nat} {es:Array (Int × Value)} {t:SetTable} {o:Obj} {Q:Option (Value × Nat)->Shared->Prop} (ho:s.heap.get? S=some o) (hd:o.data=.set es ep t) (T:Wt w t es.size) (hled:t.led = !(w.params.followText "set-order"))
    (hsl:w.params.followText "set-order" = false->below t.place sl=i)
    (h1:∀ e sl',(wv w S ep es)[i]? = some e->(w.params.followText "set-order" = false->below t.place sl'=i + 1)->Q (some (e.2,sl')) s)
    (h2:(wv w S ep es)[i]? = none->Q none s):wpAny (model prog w) A (setNext S sl i ep) Q E s:=by
  unfold setNext
  refine wpAny_bind (wpAny_setState_of ho hd T.fits ?_)
  dsimp only
  unfold setsByText
  refine wpAny_bind (wpAny_bind (wpAny_askSetting (wpAny_pure ?_)))
  dsimp only [model]
  by_cases hb:w.params.followText "set-order" = true
  . rw [if_pos hb]
    have e0:(ep != ep)=false:=by simp
    rw [e0,if_neg Bool.false_ne_true]
    unfold setWalk setsByText
    refine wpAny_bind (wpAny_bind (wpAny_setState_of ho hd T.fits ?_))
    dsimp only
    refine wpAny_bind (wpAny_bind (wpAny_askSetting (wpAny_pure ?_)))
    dsimp only [model]
    rw [if_pos hb]
    refine wpAny_bind (wpAny_askSetting (wpAny_pure (wpAny_pure ?_)))
    dsimp only
    have ew:wv w S ep es=pickOrder (w.params.setOrder S ep) es:=by unfold wv; rw [if_pos hb]
    rw [ew] at h1 h2
    cases q:(pickOrder (w.params.setOrder S ep) es)[i]? with
    | none=>exact h2 q
    | some e=>exact h1 e sl q fun z=>by rw [hb] at z; cases z
  . have hb':w.params.followText "set-order" = false:=by simpa using hb
    rw [if_neg hb]
    have hl:t.led=true:=by rw [hled,hb']; rfl
    have ew:wv w S ep es=es:=by unfold wv; rw [if_neg hb]
    rw [ew] at h1 h2
    have hs:=hsl hb'
    split
    . rename_i z
      have z':(!t.plain && decide (es.size > 1))=true:=z
      rw [(T.nd hb').2] at z'
      cases z'
    . refine wpAny_bind ?_
      show wpAny _ _ (if (!t.led && !es.isEmpty)=true then PySem.unsupported "set:maker-not-led" else Pure.pure ()) _ _ _
      rw [hl]
      rw [if_neg (by simp)]
      refine wpAny_pure ?_
      refine wpAny_pure ?_
      rw [hs]
      have hsz:=T.sz
      by_cases hi:i < es.size
      . have e1:es[i]? = some es[i]:=by simp [hi]
        have e2:t.place[i]? = some (t.place[i]'(by omega)):=by simp [hsz,hi]
        rw [e1,e2]
        exact h1 es[i] _ e1 fun _=>J3 (T.nd hb').1 (by omega)
      . have e1:es[i]? = none:=by simp; omega
        rw [e1]
        exact h2 e1
end
end Ht
namespace Ht
open PySem PySem.Spec PyProof.Rows Sem L2 PySem.SetTable
theorem si_next:Slot "set_iterator" "__next__" "set_iterator.__next__" :=
  Slot.of (owner := "set_iterator") (n := "__next__") (by rw [typeLookup_type,builtinLookup_eq_fast]; kernel_rfl) (by decide +kernel) (by decide +kernel) (by decide +kernel) (.inl (by decide +kernel)) (by rw [isSubtype_type]; kernel_rfl)
theorem FL:Slot "set_iterator" "__iter__" "set_iterator.__iter__" :=
  Slot.of (owner := "set_iterator") (n := "__iter__") (by rw [typeLookup_type,builtinLookup_eq_fast]; kernel_rfl) (by decide +kernel) (by decide +kernel) (by decide +kernel) (.inl (by decide +kernel)) (by rw [isSubtype_type]; kernel_rfl)
theorem ES:entryFor table "set_iterator.__next__" = some Builtin.«set_iterator.__next__»:=entryFor_of_tree (by kernel_rfl)
theorem Iy:entryFor table "set_iterator.__iter__" = some Builtin.«dict_keyiterator.__iter__»:=entryFor_alias (id' := "dict_keyiterator.__iter__") (by kernel_rfl) rfl (by decide +kernel) (by kernel_rfl)
theorem Iz:entryFor table "set.__iter__" = some Builtin.«frozenset.__iter__»:=entryFor_alias (id' := "frozenset.__iter__") (by kernel_rfl) rfl (by decide +kernel) (by kernel_rfl)
theorem EW (a:Value):argsOk "set_iterator.__next__" ⟨[a],[]⟩:=by unfold argsOk; kernel_rfl
theorem JQ (a:Value):argsOk "set_iterator.__iter__" ⟨[a],[]⟩:=by unfold argsOk; kernel_rfl
def itO (S:Addr) (sl i n ep:Nat):Obj:={ cls:=.type "set_iterator",data:=.fields #[.int sl 0,.int i 0,.ref S,.int n 0,.int ep 0] }
section
variable {prog:Program} {w:World} {A:Around} {E:Value->Shared->Prop} {s:Shared}
theorem Fo {α:Type} {Q:α->Shared->Prop} (hh:A.handled=none) (h:∀ a h',(∀ b o,s.heap.get? b=some o->h'.get? b=some o)->Shared.TypeIs { s with heap:=h' } (.ref a) "StopIteration" -> E (.ref a) { s with heap:=h' }) :
    wpAny (model prog w) A (newExc (.type "StopIteration") [] >>= fun e=>(raiseNew e:Sem α)) Q E s:=by
  unfold newExc newTuple
  refine wpAny_bind (wpAny_bind (wpAny_newObj_type ?_ (by size_fits)))
  refine wpAny_bind (m:=firstArgMember _ _) (wpAny_of_eq (a:=Value.none) (by kernel_rfl) ?_)
  refine wpAny_newObj_type ?_ (by size_fits)
  unfold raiseNew
  refine wpAny_bind (wpAny_handled ?_)
  rw [hh]
  refine wpAny_bind (wpAny_pure (wpAny_throw (h _ _ (fun b o e=>Heap.get?_push_of_some _ (Heap.get?_push_of_some _ e)) ⟨_,Heap.get?_push_size _ rfl,rfl⟩)))
theorem Pe {I S:Addr} {sl i ep:Nat} {es:Array (Int × Value)} {t:SetTable} {o:Obj} {Q:Option Value->Shared->Prop} {x:Int × Value} (hne:S ≠ I) (hI:s.heap.get? I=some (itO S sl i es.size ep)) (ho:s.heap.get? S=some o) (hd:o.data=.set es ep t) (T:Wt w t es.size) (hled:t.led = !(w.params.followText "set-order"))
    (hsl:w.params.followText "set-order" = false->below t.place sl=i) (hx:(wv w S ep es)[i]? = some x)
    (q:∀ h' sl',h'.get? I=some (itO S sl' (i + 1) es.size ep)->(w.params.followText "set-order" = false->below t.place sl'=i + 1)->Heap.SameBut I s.heap h'->Q (some x.2) { s with heap:=h' }) :
    wpAny (model prog w) A (pyNext (.ref I)) Q E s:=by
  have hT:s.TypeIs (.ref I) "set_iterator" := ⟨_,hI,rfl⟩
  unfold pyNext
  refine wpAny_bind (wpAny_attempt (wpAny_callSpecial?_slot (name:=Str.ofString "__next__") hT si_next (wpAny_call_entry si_next hT ES ?_ (EW _))))
  unfold Builtin.«set_iterator.__next__»
  refine wpAny_bind (wpAny_of_eq (a:=(Value.ref I,[])) rfl ?_)
  refine wpAny_bind (wpAny_fieldsOf hI rfl ?_)
  dsimp only
  unfold setEntries
  refine wpAny_bind (wpAny_bind (wpAny_setState_of ho hd T.fits (wpAny_pure ?_)))
  dsimp only
  have e0:((es.size:Int) != (es.size:Int))=false:=by simp
  rw [e0,if_neg Bool.false_ne_true]
  simp only [Int.toNat_natCast]
  refine wpAny_bind (IJ ho hd T hled hsl (fun e sl' h1 h2=>?_) fun z=>by rw [hx] at z; cases z)
  rw [hx] at h1
  cases h1
  dsimp only
  refine wpAny_bind (wpAny_setField_rec hI (by simp) fun h1 g1 s1=>?_)
  refine wpAny_bind (wpAny_setField_rec g1 (by simp) fun h2' g2 s2=>?_)
  refine wpAny_pure ⟨_,rfl,wpAny_pure (q h2' sl' ?_ h2 (s1.trans s2))⟩
  rw [g2]
  simp [itO,rawInt]
theorem Ry {I S:Addr} {sl i ep:Nat} {es:Array (Int × Value)} {t:SetTable} {o:Obj} {Q:Option Value->Shared->Prop} (hh:A.handled=none) (hI:s.heap.get? I=some (itO S sl i es.size ep)) (ho:s.heap.get? S=some o) (hd:o.data=.set es ep t) (T:Wt w t es.size) (hled:t.led = !(w.params.followText "set-order"))
    (hsl:w.params.followText "set-order" = false->below t.place sl=i) (hx:(wv w S ep es)[i]? = none)
    (q:∀ h',(∀ b o,b ≠ I->s.heap.get? b=some o->h'.get? b=some o)->Q none { s with heap:=h' }) :
    wpAny (model prog w) A (pyNext (.ref I)) Q E s:=by
  have hT:s.TypeIs (.ref I) "set_iterator" := ⟨_,hI,rfl⟩
  unfold pyNext
  refine wpAny_bind (wpAny_attempt (wpAny_callSpecial?_slot (name:=Str.ofString "__next__") hT si_next (wpAny_call_entry si_next hT ES ?_ (EW _))))
  unfold Builtin.«set_iterator.__next__»
  refine wpAny_bind (wpAny_of_eq (a:=(Value.ref I,[])) rfl ?_)
  refine wpAny_bind (wpAny_fieldsOf hI rfl ?_)
  dsimp only
  unfold setEntries
  refine wpAny_bind (wpAny_bind (wpAny_setState_of ho hd T.fits (wpAny_pure ?_)))
  dsimp only
  have e0:((es.size:Int) != (es.size:Int))=false:=by simp
  rw [e0,if_neg Bool.false_ne_true]
  simp only [Int.toNat_natCast]
  refine wpAny_bind (IJ ho hd T hled hsl (fun e sl' h1 h2=>by rw [hx] at h1; cases h1) fun _=>?_)
  dsimp only
  refine wpAny_bind (wpAny_setField_rec hI (by simp) fun h1 g1 s1=>?_)
  refine Fo (A:=A.in1) (s:={ s with heap:=h1 }) hh fun a h' k ty=>?_
  refine wpAny_bind (wpAny_isInstance (T := "StopIteration") (b:=true) ty isSubtype_stop ?_)
  exact wpAny_pure (q h' fun b o hb e=>k b o (s1.extBut b o hb e))
theorem Pd {I S:Addr} {sl i n ep:Nat} {Q:Value->Shared->Prop} (hI:s.heap.get? I=some (itO S sl i n ep)) (h:Q (.ref I) s):wpAny (model prog w) A (pyIter (.ref I)) Q E s:=by
  have hT:s.TypeIs (.ref I) "set_iterator" := ⟨_,hI,rfl⟩
  refine wpAny_pyIter_slot hT FL (wpAny_call_entry FL hT Iy ?_ (JQ _))
  exact wpAny_pure ⟨_,rfl, "set_iterator",_,hT,si_next.lookup,h⟩
theorem Rx {S:Addr} {ep:Nat} {es:Array (Int × Value)} {t:SetTable} {o:Obj} {Q:Value->Shared->Prop} (ho:s.heap.get? S=some o) (hex:o.ExactSet) (hd:o.data=.set es ep t) (T:Wt w t es.size)
    (h:Q (.ref s.heap.objs.size) { s with heap:=s.heap.push (itO S 0 0 es.size ep) }):wpAny (model prog w) A (pyIter (.ref S)) Q E s:=by
  have hT:s.TypeIs (.ref S) "set" := ⟨_,ho,hex.1⟩
  refine wpAny_pyIter_slot hT PySem.F.slot_set_iter (wpAny_call_entry PySem.F.slot_set_iter hT Iz ?_ (PySem.F.args_set_iter_1 _))
  unfold Builtin.«frozenset.__iter__» Builtin.Frozenset.slot0 Builtin.Frozenset.sizeOf setEntries setDrawn setsByText
  refine wpAny_bind (wpAny_bind (wpAny_of_eq (a:=(Value.ref S,[])) rfl (wpAny_pure ?_)))
  refine wpAny_bind (wpAny_bind (wpAny_bind (wpAny_setState_of ho hd T.fits (wpAny_pure (wpAny_pure ?_)))))
  refine wpAny_bind (wpAny_bind (wpAny_setState_of ho hd T.fits ?_))
  dsimp only
  refine wpAny_bind (wpAny_bind (wpAny_askSetting (wpAny_pure (wpAny_pure ?_))))
  dsimp only
  have e0:(!(w.params.followText "set-order") && (!t.plain && decide (es.size > 1)))=false:=by
    cases b:w.params.followText "set-order" with
    | true=>rfl
    | false=>rw [(T.nd b).2]; rfl
  split
  . rename_i z
    have z':=e0.symm.trans z
    cases z'
  . refine wpAny_bind (wpAny_pure ?_)
    refine wpAny_bind (wpAny_setEpoch_of ho hd T.fits ?_)
    unfold newFields
    exact wpAny_bind (wpAny_newObj_type (wpAny_pure ⟨_,rfl, "set_iterator",_,⟨_,Heap.get?_push_size _ rfl,rfl⟩,si_next.lookup,h⟩))
end
end Ht
namespace Ht
open PySem PySem.Spec PyProof.Rows Sem L2 PySem.SetTable
section
variable {prog:Program} {w:World} {A:Around} {E:Value->Shared->Prop} {s:Shared}
theorem Qt:splitId "set.__len__" = some ("set", "__len__"):=by decide +kernel
theorem IK {S:Addr} {Q:Bool->Shared->Prop} (hT:s.TypeIs (.ref S) "set") (h:Q false s):wpAny (model prog w) A (Builtin.List.listLengthHint (.ref S)) Q E s:=by
  obtain ⟨id,hid⟩:∃ id,id = "set.__len__" := ⟨_,rfl⟩
  have l:=PySem.F.slot_set_len.lookup
  have z:=sub_set_self
  have sp:=Qt
  rw [← hid] at l sp
  unfold Builtin.List.listLengthHint
  wp_walk
  rw [sp]
  wp_walk
  split
  . wp_walk
    exact h
  . rename_i no
    exact absurd (by rw [hid]; decide +kernel) no
theorem K7 {I S:Addr} {ep:Nat} {es:Array (Int × Value)} {t:SetTable} {o:Obj} (hh:A.handled=none) (hne:S ≠ I) (hd:o.data=.set es ep t) (T:Wt w t es.size) (hled:t.led = !(w.params.followText "set-order")) :
    Walks prog w A I [I,S] [I] es.size (fun i v=>∃ e,(wv w S ep es)[i]? = some e /\ v=e.2)
      (fun i h=>(∃ sl:Nat,h.get? I=some (itO S sl i es.size ep) /\ (w.params.followText "set-order" = false->below t.place sl=i)) /\ h.get? S=some o) where
  sub:=fun b hb=>by simp at hb; simp [hb]
  frame:=fun i h h' st k=>by
    obtain ⟨⟨sl,h1,h2⟩,h3⟩:=st
    exact ⟨⟨sl,k I (by simp) _ h1,h2⟩,k S (by simp) _ h3⟩
  item:=fun i s Q E hi st q=>by
    obtain ⟨⟨sl,h1,h2⟩,h3⟩:=st
    obtain ⟨x,hx⟩:∃ x,(wv w S ep es)[i]? = some x:=⟨(wv w S ep es)[i]'(by rw [FG]; exact hi),by simp [FG,hi]⟩
    refine Pe hne h1 h3 hd T hled h2 hx fun h' sl' g1 g2 sb=>?_
    exact q x.2 h' s.toks ⟨x,hx,rfl⟩ ⟨⟨sl',g1,g2⟩,(sb.2 S hne).trans h3⟩ fun b o hb e=>(sb.2 b (by simpa using hb)).trans e
  done:=fun s Q E st q=>by
    obtain ⟨⟨sl,h1,h2⟩,h3⟩:=st
    refine Ry hh h1 h3 hd T hled h2 (by simp [FG]) fun h' k=>?_
    exact q h' s.toks fun b o hb e=>k b o (by simpa using hb) e
  self:=fun i s Q E st h=>by
    obtain ⟨⟨sl,h1,h2⟩,h3⟩:=st
    exact Pd h1 h
theorem OT {S:Addr} {ep:Nat} {es:Array (Int × Value)} {t:SetTable} {o:Obj} (hex:o.ExactSet) (hd:o.data=.set es ep t) (T:Wt w t es.size) (hled:t.led = !(w.params.followText "set-order")) :
    PySem.W.KdlSrc prog w "set" S S es.size (fun i v=>∃ e,(wv w S ep es)[i]? = some e /\ v=e.2) (fun h=>h.get? S=some o) where
  type:=fun s h=>⟨_,h,hex.1⟩
  there:=fun h e=>⟨Heap.lt_size e,Heap.lt_size e⟩
  keep:=fun h h' e k=>k S (.inl rfl) _ e
  notList:=by decide
  notTuple:=by decide
  hint:=fun A E s Q e h=>IK ⟨_,e,hex.1⟩ h
  iter:=fun A s hh e=>⟨itO S 0 0 es.size ep,_,fun E Q h=>Rx e hex hd T h,K7 hh (Nat.ne_of_lt (Heap.lt_size e)) hd T hled,⟨0,Heap.get?_push_size _ rfl,fun b=>J2 (T.nd b).1⟩,Heap.get?_push_of_some _ e⟩
end
end Ht
namespace Ht
end Ht
namespace L2
open PySem PySem.Spec PyProof.Rows Sem Ht
section
variable {X:Cx}
end
end L2
namespace Mi
open PySem L2 Ht
theorem Il {K:PySem.W.Frag} {ι:Nat->Addr} {k:Nat} {H:Hp}:∀ ns:List Int,IsL K ι k H (ns.map D.int) (ns.map V.int)
  | []=>IsL.nil
  | n :: r=>by
    rw [List.map_cons,List.map_cons]
    unfold IsL
    exact ⟨_,_,rfl,ofI _,Il r⟩
section
variable {X:Cx} {e:Expr} {pos p p2 pos2:Pos}
end
end Mi
namespace L2
open PySem PySem.Spec PyProof.Rows Sem Ht
section
variable {prog:Program} {w:World} {A:Around} {E:Value->Shared->Prop} {s:Shared}
theorem MQ {n:Nat}:Builtin.Range.rangeSize 0 n 1=(n:Int):=by rw [rangeSize_one]; split <;> omega
theorem LD {n:Nat} (h:n <= 1000):Builtin.Range.small 0 n 1=true:=small_one (by omega) (by omega) (by omega) (by omega)
theorem JD {r:Addr} {n:Nat} {t u v:Tok} {Q:List Value->Shared->Prop} (hh:A.handled=none) (hr:IsRange s.heap r 0 n 1 t u v) (hn:n <= 1000)
    (q:∀ h' tk (acc:List Value),(∀ b o,s.heap.get? b=some o->h'.get? b=some o)->IntsAre acc ((List.range n).map Int.ofNat)->Q acc { s with heap:=h',toks:=tk }) :
    wpAny (model prog w) A (collect (.ref r)) Q E s:=by
  unfold collect
  refine wpAny_bind (wpAny_runValue (codeAny_builtin entry_proto_collect' ?_))
  rw [Around.under_plainId PySem.F.plain_proto_collect _]
  unfold Builtin.«proto.collect»
  refine wpAny_bind (wpAny_newList ?_)
  refine wpAny_pure ⟨plainId_quiet PySem.F.plain_list_iadd _,codeAny_builtin entry_list_iadd' ?_⟩
  rw [Around.under_plainId PySem.F.plain_list_iadd _]
  have got:∀ (acc:Array Value) (c:Nat) (h':Heap) (tk:Nat),(∀ b o,s.heap.get? b=some o->h'.get? b=some o)->h'.get? s.heap.objs.size=some { cls:=.type "list",dict:=none,data:=.seq acc c,slots:=#[] }->ItemsOf (fun i v=>∃ t,v=.int (0 + (i:Int) * 1) t) acc n->
      wpAny (model prog w) A (load s.heap.objs.size >>= fun o=>match o.data with | .seq xs _=>Pure.pure xs.toList | _=>PySem.unsupported "internal:collect") Q E { s with heap:=h',toks:=tk }:=fun acc c h' tk k e it=>by
    refine wpAny_bind (wpAny_load e (wpAny_pure (q h' tk acc.toList k ?_)))
    have im:=intsAre_map acc.toList fun v hv=>by
      obtain ⟨i,hi,rfl⟩:=List.getElem_of_mem hv
      obtain ⟨t,e⟩:=it.2 i _ (Array.getElem?_eq_getElem (by simpa using hi))
      exact ⟨_,t,by simpa using e⟩
    have en:acc.toList.map numOf=(List.range n).map Int.ofNat:=by
      refine List.ext_getElem? fun i=>?_
      rw [List.getElem?_map,List.getElem?_map]
      by_cases hi:i < n
      . have hi':i < acc.size:=by rw [it.1]; exact hi
        obtain ⟨t,e⟩:=it.2 i _ (Array.getElem?_eq_getElem hi')
        rw [Array.getElem?_toList,Array.getElem?_eq_getElem hi',e,List.getElem?_range hi]
        simp [numOf]
      . rw [List.getElem?_eq_none (by rw [Array.length_toList,it.1]; omega),List.getElem?_eq_none (by simp; omega)]
        rfl
    rwa [en] at im
  have key:=wpAny_extend_range (prog:=prog) (w:=w) (A:=A) (s:={ s with heap:=s.heap.push { cls:=.type "list",data:=.seq ([]:List Value).toArray } })
    (R:=fun (z:Result) (s':Shared)=>∃ (h':Heap) (tk:Nat) (acc:Array Value) (c:Nat),z=.ok (.ret (.ref s.heap.objs.size)) /\ s'={ s with heap:=h',toks:=tk } /\
      (∀ b o,s.heap.get? b=some o->h'.get? b=some o) /\ h'.get? s.heap.objs.size=some { cls:=.type "list",dict:=none,data:=.seq acc c,slots:=#[] } /\ ItemsOf (fun i v=>∃ t,v=.int (0 + (i:Int) * 1) t) acc n)
    (n:=n) hh (Heap.get?_push_of_some _ hr) (LD hn) MQ (by omega) s.heap.objs.size (.ref s.heap.objs.size) 0 (Heap.get?_push_size _ rfl)
    (fun h' tk acc c k e it=>⟨h',tk,acc,c,rfl,rfl,fun b o z=>k b o (Nat.ne_of_lt (Heap.lt_size z)) (Heap.get?_push_of_some _ z),e,it⟩)
  refine wpAny_mono key (fun fin s' z=>?_) fun e s' z=>by obtain ⟨_,_,_,_,y,_⟩:=z; cases y
  cases fin with
  | done f=>
    obtain ⟨h',tk,acc,c,y,rfl,k,e,it⟩:=z
    cases y
    exact got acc c h' tk k e it
  | again c=>
    refine ⟨z.1,codeAny_mono z.2 fun f s2 y=>?_⟩
    obtain ⟨h',tk,acc,c,rfl,rfl,k,e,it⟩:=y
    exact got acc c h' tk k e it
end
section
variable {X:Cx}
theorem Lo:B7 X (.type "range") (fun xs H Q=>∃ n:Nat,xs=[.int n] /\ ∀ p,H p=none->Q (.ref p) (upd H p (.rng 0 n))):=by
  intro pins s σ H xs us Q I r h
  obtain ⟨n,rfl,q⟩:=h
  obtain ⟨u,rfl,t,rfl⟩:=Vals.one r
  refine call_range_1 ⟨.ref s.heap.objs.size,_,I.laid (o:=.rng 0 n) (fun b o e=>Heap.get?_push_of_some _ e) (Nat.le_refl _) ⟨_,_,_,Heap.get?_push_size _ rfl⟩,rfl,q _ (I.hok.fresh (Nat.le_refl _))⟩
abbrev Ke (n:Nat):List V:=((List.range n).map Int.ofNat).map V.int
theorem LZ (n:Nat):(Ke n).length=n:=by simp
theorem JH (hc:X.calm=true):B7 X (.type "tuple") (fun xs H Q=>∃ p n,xs=[.ref p] /\ H p=some (.rng 0 (n:Nat)) /\ n <= 1000 /\ ∀ l,H l=none->Q (.ref l) (upd H l (.tup (Ke n)))):=by
  intro pins s σ H xs us Q I r h
  obtain ⟨p,n,rfl,hp,hn,q⟩:=h
  obtain ⟨u,rfl,ru⟩:=Vals.one r
  cases ru
  obtain ⟨t,u,v,e⟩:=I.hok p _ hp
  refine callType_codes PySem.F.called_tuple (PySem.F.typeCall_tuple_1 (.ref p)) PySem.F.entry_object_init (Q₁:=fun x s₁=>s₁.TypeIs x "tuple" /\ EP X pins σ Q x s₁) ?_ (fun x s₁ z=>And.intro z.1 (And.intro (PySem.F.args_object_init_2 x (.ref p)) ?_))
  . refine codeAny_call_builtin PySem.F.plain_tuple_new PySem.F.entry_tuple_new (wpAny_of_eq (PySem.F.newCall_tuple_1 _) ?_)
    have a1:=sub_tuple_self
    have a2:=init_tuple_lookup
    have a3:=madeHere_tuple
    have a4:s.TypeIs (.ref p) "range" := ⟨_,e,rfl⟩
    unfold Builtin.«tuple.__new__»
    have go:∀ (A:Around) (Q:List Value->Shared->Prop) (E:Value->Shared->Prop),A.handled=none->(∀ h' tk (acc:List Value),(∀ b o,s.heap.get? b=some o->h'.get? b=some o)->IntsAre acc ((List.range n).map Int.ofNat)->Q acc { s with heap:=h',toks:=tk })->wpAny (model X.prog X.w) A (collect (.ref p)) Q E s:=fun A Q E hh z=>JD hh e hn z
    wp_walk using go
    . exact I.ok.hd hc
    . intro h' tk acc k im
      have hl:acc.length=n:=by
        have:=congrArg List.length im.nums
        simpa using this
      refine wpAny_bind (wpAny_pure ?_)
      unfold Builtin.Tuple.tupleExact
      refine wpAny_bind (wpAny_newObj_type ?_ (by show acc.toArray.size <= sizeLine; rw [sizeLine_eq]; simp; omega))
      have I1:=I.kept (t':=tk) k
      refine wpAny_pure ⟨⟨_,Heap.get?_push_size _ rfl,rfl⟩,.ref h'.objs.size,_,I1.laid (t':=tk) (o:=.tup (Ke n)) (fun b o z=>Heap.get?_push_of_some _ z) (Nat.le_refl _) ⟨by rw [LZ,sizeLine_eq]; omega,acc,EZ im,IsTup.new _ _⟩,rfl,q _ (I1.hok.fresh (Nat.le_refl _))⟩
  . exact object_init_meets PySem.F.called_tuple.init.lookup PySem.F.called_tuple.made (by decide) X.prog X.w X.A.in1 (wants (fun r s₂=>r=.none /\ EP X pins σ Q x s₂) X.xe) s₁ (And.intro z.1 (And.intro rfl z.2))
end
end L2
namespace Mi
open PySem L2 Ht
def NE (n:Nat):List D:=((List.range n).map Int.ofNat).map D.int
def IN (how:List D->D) (d:D):M D:=match d with
  | .int j=>fun μ=>if 0 <= j /\ j <= 1000 then some (how (NE j.toNat),μ) else none
  | _=>BC
section
variable {X:Cx} {e:Expr} {pos p p2 pos2:Pos}
theorem Oi {T:String} {f:List D->D} {how:List V->HO} {m:Sl->M D} (call:X.calm=true->B7 X (.type T) (fun xs H Q=>∃ p n,xs=[.ref p] /\ H p=some (.rng 0 (n:Nat)) /\ n <= 1000 /\ ∀ l,H l=none->Q (.ref l) (upd H l (how (Ke n)))))
    (fin:∀ {ι:Nat->Addr} {μ:Mh} {H:Hp} {Q:VK} {ds:List D} {vs:List V},RelH X.K ι μ H->IsL X.K ι μ.length H ds vs->(Aft X.K ι μ H μ fun ι' H'=>∀ v,Is X.K ι' μ.length H' (f ds) v->Q v H')->∀ l,H l=none->Q (.ref l) (upd H l (how vs)))
    (yl:X.mg T=none) (ys:X.mg "range" = none) (bt:bootBuiltins T=some (.type T)) (he:RE X e m) (hc:X.calm=true:=by rfl) (hgl:Gl X T:=by rfl) (hgs:Gl X "range" := by rfl) (hst:D4 e=false:=by rfl) (n1:(T:Str) ≠ "__name__" := by decide) (n2:((T:Str) == ("__debug__" : Str))=false:=by decide) :
    RE X (.Call (.Name T p) [.Call (.Name "range" p2) [e] [] pos2] [] pos) (mUn (IN f) m):=by
  have hs:PE X (.Call (.Name "range" p2) [e] [] pos2) _:=C0 Lo hgs ys PyProof.Rows.boot_range (DC he.pe Dv (AY hst)) (by decide) (by decide) (AY hst) rfl
  refine RE.wk (C0 (call hc) hgl yl bt (DC hs Dv (AY rfl)) n1 n2 (AY rfl) rfl) fun σ H Q h=>?_
  obtain ⟨ι,μ,τ,d,μ',R,S,ev,q⟩:=h
  obtain ⟨x,μ1,e1,e2⟩:=AF ev
  refine ⟨ι,μ,τ,x,μ1,R,S,e1,fun ι1 H1 E1 R1 v1 i1=>?_⟩
  cases x with
  | int j=>
    have e3:(if 0 <= j /\ j <= 1000 then some (f (NE j.toNat),μ1) else none)=some (d,μ'):=e2
    split at e3
    . rename_i hj
      cases e3
      have z:=BV i1
      subst z
      have ej:j=((j.toNat:Nat):Int):=by omega
      refine ⟨j.toNat,by rw [← ej],fun p hp=>?_⟩
      obtain ⟨E2,R2⟩:=R1.laid (.rng 0 (j.toNat:Nat)) hp
      exact ⟨p,j.toNat,rfl,At,by omega,fun l hl=>fin R2 (Il _) (fun ι' H' E' R'=>q ι' H' ((E1.trans E2).trans E') R') l hl⟩
    . cases e3
  | _=>cases e2
theorem LJ {m:Sl->M D} (yl:X.mg "tuple" = none) (ys:X.mg "range" = none) (he:RE X e m) (hc:X.calm=true:=by rfl) (hgl:Gl X "tuple" := by rfl) (hgs:Gl X "range" := by rfl) (hst:D4 e=false:=by rfl) :
    RE X (.Call (.Name "tuple" p) [.Call (.Name "range" p2) [e] [] pos2] [] pos) (mUn (IN D.tup) m):=Oi (T := "tuple") (how:=HO.tup) JH Ih yl ys Mi.BH he hc hgl hgs hst
end
end Mi
namespace L2
open PySem PySem.Spec PyProof.Rows Sem Ht
theorem KE:fillsNumberSlot (.type "tuple") "mul" = Pure.pure false:=PySem.fillsNumberSlot_seq (id := "tuple.__mul__") (r:=some (.builtin "tuple.__rmul__")) PySem.F.slot_tuple_mul.lookup (by decide +kernel) PySem.F.slot_tuple_rmul.lookup (by decide +kernel)
theorem MH:seqRepeat? (.type "tuple")=Pure.pure (some (.builtin "tuple.__mul__")):=by
  unfold seqRepeat?
  rw [PySem.seqSlot_of (T := "tuple") (name := "__mul__") PySem.F.slot_tuple_mul.lookup (by decide +kernel),PySem.seqSlot_of (T := "tuple") (name := "__rmul__") PySem.F.slot_tuple_rmul.lookup (by decide +kernel)]
  rfl
section
variable {prog:Program} {w:World} {A:Around} {E:Value->Shared->Prop} {s:Shared}
theorem MI (a:Int) (t:Tok) (l:Addr) (items:Array Value):Meets (Builtin.«int.__rmul__» ⟨[.int a t,.ref l],[]⟩) (fun _ R s=>IsTup s.heap l items /\ R (.ok (.ret Value.notImplemented)) s):=
  .of_wp fun prog w A R s h=>by
    obtain ⟨⟨o,ho,hc,n,hd⟩,h⟩:=h
    have hT:s.TypeIs (.ref l) "tuple" := ⟨o,ho,hc⟩
    have z:=PySem.F.sub_tuple_int
    wp_walk
    rw [hd]
    wp_walk
    exact ⟨_,rfl,h⟩
theorem Qq (l:Addr) (items:Array Value) (k:Int) (t:Tok) (h0:items.isEmpty=false) (h1:1 <= k) (h2:k <= 1000) (h3:items.size <= 1000) :
    Meets (Builtin.«tuple.__mul__» ⟨[.ref l,.int k t],[]⟩) (fun _ R s=>IsTup s.heap l items /\ (k=1->R (.ok (.ret (.ref l))) s) /\ (k ≠ 1->R (.ok (.ret (.ref s.heap.objs.size))) { s with heap:=s.heap.push { cls:=.type "tuple",data:=.seq ((List.replicate k.toNat items).foldl (· ++ ·) #[]) } })):=
  .of_wp fun prog w A R s h=>by
    obtain ⟨⟨o,ho,hc,n,hd⟩,q1,q2⟩:=h
    have hT:s.TypeIs (.ref l) "tuple" := ⟨o,ho,hc⟩
    have b1:(items.size:Int) * k <= 1000000:=by
      have:=Int.mul_le_mul (show (items.size:Int) <= 1000 by omega) h2 (by omega) (by omega)
      omega
    have c1:(decide (k < -2 ^ 63) || decide (k ≥ 2 ^ 63))=false:=by simp; omega
    have c3:(decide (k <= 0) || items.isEmpty)=false:=by rw [h0]; simp; omega
    have c5:Builtin.Tuple.tupleTooMany ((items.size:Int) * k)=false:=by
      unfold Builtin.Tuple.tupleTooMany
      simp [sizeLine_eq]
      omega
    unfold Builtin.«tuple.__mul__»
    wp_walk
    rw [c1,if_neg Bool.false_ne_true]
    refine wpAny_bind ?_
    unfold Builtin.Tuple.tupleItemsOf
    refine wpAny_bind (wpAny_seqItems ho hd (wpAny_pure ?_))
    rw [h0]
    by_cases hk:k=1
    . have c2:(false || k == 1)=true:=by simp [hk]
      rw [c2]
      simp only [↓reduceIte]
      wp_walk
      exact ⟨_,rfl,q1 hk⟩
    . have c2:(false || k == 1)=false:=by simp [hk]
      rw [c2]
      simp only [Bool.false_eq_true,↓reduceIte]
      rw [Bool.or_false,decide_eq_false (show ¬ k <= 0 by omega)]
      simp only [Bool.false_eq_true,↓reduceIte]
      rw [if_neg (show ¬ (items.size:Int) * k > (2 ^ 63 - 1) / 8 by omega),c5]
      simp only [Bool.false_eq_true,↓reduceIte]
      unfold Builtin.Tuple.tupleExact
      refine wpAny_bind (wpAny_newObj_type (wpAny_pure ⟨_,rfl,q2 hk⟩) ?_)
      show ((List.replicate k.toNat items).foldl (· ++ ·) #[]).size <= sizeLine
      have sz:∀ (m:Nat) (z:Array Value),((List.replicate m items).foldl (· ++ ·) z).size=z.size + m * items.size:=by
        intro m
        induction m with
        | zero=>intro z; simp
        | succ m ih=>intro z; rw [List.replicate_succ,List.foldl_cons,ih,Array.size_append,Nat.succ_mul]; omega
      rw [sz,sizeLine_eq]
      have:((k.toNat * items.size:Nat):Int)=(items.size:Int) * k:=by
        rw [Int.natCast_mul,Int.toNat_of_nonneg (by omega),Int.mul_comm]
      simp
      omega
end
theorem F8 (its:List Value):∀ (m:Nat) (z:List Value),(List.replicate m its.toArray).foldl (· ++ ·) z.toArray=(z ++ (List.replicate m its).flatten).toArray
  | 0,z=>by simp
  | m + 1,z=>by
    rw [List.replicate_succ,List.foldl_cons,List.append_toArray,F8 its m,List.replicate_succ,List.flatten_cons,List.append_assoc]
theorem Vals.reps {vs:List V} {us:List Value} (r:Vals vs us):∀ m:Nat,Vals (List.replicate m vs).flatten (List.replicate m us).flatten
  | 0=>.nil
  | m + 1=>by
    rw [List.replicate_succ,List.flatten_cons,List.replicate_succ,List.flatten_cons]
    exact r.append (Vals.reps r m)
section
variable {X:Cx}
theorem PH:OpR X (binaryOp .Mult) (fun x y H Q=>∃ l k xs,x=.ref l /\ y=.int k /\ SqT X.K H l xs /\ xs ≠ [] /\ xs.length <= 1000 /\ 1 <= k /\ k <= 1000 /\ (k=1->Q (.ref l) H) /\ (k ≠ 1->∀ p,H p=none->Q (.ref p) (upd H p (.tup (List.replicate k.toNat xs).flatten)))):=by
  intro pins s σ H x y v u Q I rx ry h
  obtain ⟨l,k,xs,rfl,rfl,ha,hx,hz,k1,k2,q1,q2⟩:=h
  cases rx
  obtain ⟨t,rfl⟩:=ry
  obtain ⟨its,r,p,_⟩:=I.tuple ha
  have hlen:=r.length
  have hT:s.TypeIs (.ref l) "tuple" := by obtain ⟨o,e,c,_⟩:=p; exact ⟨o,e,c⟩
  have he:its.toArray.isEmpty=false:=by
    cases its with
    | nil=>exact absurd (List.length_eq_zero_iff.mp (by simpa using hlen)) hx
    | cons a b=>rfl
  refine wpAny_binaryOp_repeat_ref (T := "tuple") (U := "int") (by decide) hT (fun s'=>typeIs_int s' k t) KE PySem.F.fills_int_mul PySem.F.slot_int_rmul MH PySem.F.slot_int_index.lookup ?_
  refine call_meets PySem.F.slot_int_rmul (typeIs_int s k t) PySem.F.entry_int_rmul (PySem.F.args_int_rmul_2 _ _) (MI k t l its.toArray) ⟨p,rfl,hT,?_⟩
  refine call_meets PySem.F.slot_tuple_mul hT PySem.F.entry_tuple_mul (PySem.F.args_tuple_mul_2 _ _) (Qq l its.toArray k t he k1 k2 (by rw [List.size_toArray]; omega)) ⟨p,fun z=>⟨.ref l,H,I,rfl,q1 z⟩,fun z=>?_⟩
  have ef:=F8 its k.toNat []
  rw [List.nil_append] at ef
  rw [ef]
  refine ⟨.ref s.heap.objs.size,_,I.laid (t':=s.toks) (o:=.tup (List.replicate k.toNat xs).flatten) (fun b ob q=>Heap.get?_push_of_some _ q) (Nat.le_refl _) ⟨?_,_,r.reps _,IsTup.new _ _⟩,rfl,q2 z _ (I.hok.fresh (Nat.le_refl _))⟩
  rw [Ki,sizeLine_eq]
  have:k.toNat * xs.length <= 1000 * 1000:=Nat.mul_le_mul (by omega) hz
  omega
end
end L2
namespace Mi
open PySem L2 Ht
def HS (a b:D):M D:=match a,b with
  | .tup ds,.int k=>fun μ=>if ds ≠ [] /\ ds.length <= 1000 /\ 1 <= k /\ k <= 1000 then some (.tup (List.replicate k.toNat ds).flatten,μ) else none
  | a,b=>EG a b
section
variable {X:Cx}
theorem Rm:OpR X (binaryOp .Mult) (rM X.K HS):=fun pins s σ H x y v u Q I rx ry h=>by
  obtain ⟨ι,μ,a,b,d,μ',R,ia,ib,e,q⟩:=h
  unfold HS at e
  split at e
  . rename_i ds k
    split at e
    . rename_i hc
      obtain ⟨c1,c2,c3,c4⟩:=hc
      cases e
      have zb:=BV ib
      subst zb
      unfold Is at ia
      obtain ⟨p,vs,rfl,h1,h2⟩:=ia
      have hl:=h2.length
      refine PH pins s σ H _ _ v u Q I rx ry ⟨p,k,vs,rfl,rfl,h1,fun z=>c1 (List.length_eq_zero_iff.mp (by rw [← hl,z]; rfl)),by omega,c3,c4,fun z=>?_,fun z=>?_⟩
      . subst z
        refine q ι H R.ext0 R _ ?_
        unfold Is
        exact ⟨p,vs,rfl,h1,by simpa using h2⟩
      . exact Ih R (h2.rep _) q
    . cases e
  . exact IY pins s σ H _ _ v u Q I rx ry ⟨ι,μ,a,b,d,μ',R,ia,ib,e,q⟩
end
end Mi
namespace Mi
open PySem L2 Ht
section
variable {X:Cx} {e:Expr} {pos pos':Pos}
end
end Mi
namespace L2
open PySem PySem.Spec PyProof.Rows
section
variable {X:Cx} {scope:Scope} {tgs:List Str} {ix:List Nat}
def IF (P:Program) (w:World) (A:Around):Option Expr->Env->(Bool->Shared->Prop)->(Value->Shared->Prop)->Shared->Prop
  | none,_,Q,_,s=>Q true s
  | some c,env,Q,E,s=>wpAny (model P w) A (isTrue c env (eval c env)) Q E s
theorem MG {P:Program} {w:World} {A:Around} {env:Env} {Q Q':Bool->Shared->Prop} {E:Value->Shared->Prop} {s:Shared}:∀ {co:Option Expr},IF P w A co env Q (fun _ _=>False) s->(∀ b s,Q b s->Q' b s)->IF P w A co env Q' E s
  | none,h,k=>k _ _ h
  | some _,h,k=>Er h k
def Qo (P:Program) (w:World) (A:Around) (tg elt:Expr) (co:Option Expr) (it acc:Value) (env:Env) (R:Result->Shared->Prop) (G:Shared->Prop) (r:Option Value) (s1:Shared):Prop:=match r with
  | none=>R (.ok .next) s1
  | some v=>wpAny (model P w) A (letOwnedTupleGo tg it v) (fun _ s0=>wpAny (model P w) A (assign tg env v) (fun _ s2=>
      IF P w A co env (fun ok s3=>if ok=true then wpAny (model P w) A (eval elt env) (fun x s4=>wpAny (model P w) A (call (.builtin "list.append") [acc,x]) (fun _ s5=>G s5) (notedBy (model P w) A env fun e s'=>R (.error e) s') s4) (notedBy (model P w) A env fun e s'=>R (.error e) s') s3 else G s3)
        (notedBy (model P w) A env fun e s'=>R (.error e) s') s2) (notedBy (model P w) A env fun e s'=>R (.error e) s') s0) (notedBy (model P w) A env fun e s'=>R (.error e) s') s1
theorem NI {P:Program} {w:World} {A:Around} {tg elt iter:Expr} {pos:Pos} {it acc:Value} {env:Env} {R:Result->Shared->Prop} {s:Shared} (I:Nat->Shared->Prop):∀ (co:Option Expr),
    (∀ n s,I n s->wpAny (model P w) A (pyNext it) (Qo P w A tg elt co it acc env R fun s5=>∃ m,m < n /\ I m s5) (notedBy (model P w) A env fun e s'=>R (.error e) s') s)->∀ n,I n s->
    codeAny (model P w) A (.compLoop (.ListComp elt [⟨tg,iter,co.toList,0⟩] scope pos) 0 it acc env) R s
  | none,turn,n,h=>PySem.W.kcp_loop I (fun n s hI=>wpAny_mono (turn n s hI) (fun r s1 q=>match r,q with
      | none,q=>q
      | some v,q=>wpAny_mono q (fun _ _ q=>wpAny_mono q (fun _ _ q=>by
          have q':=q
          dsimp only [IF] at q'
          rw [if_pos rfl] at q'
          exact q') fun _ _ x=>x) fun _ _ x=>x) fun _ _ x=>x) n h
  | some c,turn,n,h=>PySem.W.kct_loop I (fun n s hI=>wpAny_mono (turn n s hI) (fun r s1 q=>match r,q with
      | none,q=>q
      | some v,q=>q) fun _ _ x=>x) n h
def Pq (X:Cx) (co:Option Expr) (tc:TT):Prop:=
  ∀ (pins:List (Addr × Obj)) (s:Shared) (σ:St) (H:Hp) (Q:Bool->Hp->Prop),Inv X pins σ H s->tc σ H Q->IF X.prog X.w X.A co X.env (TP X pins σ Q) X.xe s
theorem Iq {n:Nat}:∀ {is:List Nat},(∀ i ∈ is,i < n)->∀ vs σ H (Q:St->Hp->Prop),Mi.DZ is vs σ H Q->Mi.DZ is vs σ H fun σ2 H2=>Q σ2 H2 /\ σ2.length=σ.length /\ σ2.drop n=σ.drop n
  | [],_,vs,σ,H,Q,h=>⟨h.1,h.2,rfl,rfl⟩
  | i :: is,hi,vs,σ,H,Q,h=>by
    obtain ⟨v,vr,rfl,h⟩:=h
    refine ⟨v,vr,rfl,?_⟩
    have z:=Iq (is:=is) (fun j hj=>hi j (List.mem_cons_of_mem _ hj)) vr _ H Q h
    have e1:(σ.set i (some v)).length=σ.length:=by simp
    have e2:(σ.set i (some v)).drop n=σ.drop n:=by rw [List.drop_set_of_lt (hi i (by simp))]
    rw [e1,e2] at z
    exact z
theorem R6 {n k:Nat} {is:List Nat} {K:PySem.W.Frag} (h:∀ i ∈ is,i < n):GK n (R7 K k (Mi.DZ is)):=fun x σ H Q q=>by
  obtain ⟨a,xs,e,h1,h2,h3⟩:=q
  exact ⟨a,xs,e,h1,h2,Iq h _ _ _ _ h3⟩
theorem JC {elt tg iter:Expr} {co:Option Expr} {pos:Pos} {g:TG} {tc:TT} {te:TE} {pins:List (Addr × Obj)} {σ:St} {H2:Hp} {s2:Shared} {it:Addr} {fp:List Addr} {tn:Nat->Heap->Prop} {J:It} {Q:VK}
    (S:BScope X scope tgs ix) (hc:X.calm=true) (hg:∀ fp C s H,PG (cxB X scope tgs fp C s H) tg g) (hgk:GK tgs.length g) (hi:∀ fp C s H,Pq (cxB X scope tgs fp C s H) co tc) (he:∀ fp C s H,PE (cxB X scope tgs fp C s H) elt te)
    (I2:Inv X pins σ H2 s2) (T:Hl X.prog X.w X.K tg J fp it tn) (t0:tn 0 s2.heap) (hf:∀ b ∈ fp,DP X pins H2 b)
    (W:Nat->Nat->List V->Hp->Prop) (w0:∃ m,W 0 m [] H2)
    (turn:∀ i m ys H,W i m ys H->(J.stop i H /\ ys.length <= sizeLine /\ ∀ p,H p=none->Q (.ref p) (upd H p (.lst ys))) ∨
      (J.go i H /\ ys.length < sizeLine /\ ∃ N:List V->Hp->Prop,(∀ ys' H',N ys' H'->∃ m',m' < m /\ W (i + 1) m' ys' H') /\ ∀ x H',J.yld i H x H'->g x (Bo tgs ix σ) H' fun σ2 H2=>tc σ2 H2 fun b H3=>
        if b=true then te σ2 H3 fun v H4=>N (ys ++ [v]) H4 else N ys H3))
    {RR:Value->Addr->Result->Shared->Prop}
    (fin:∀ (D C:Addr) (s':Shared) (H':Hp) (m:Str->Option Value),Inv X pins σ H' s'->Q (.ref D) H'->s'.heap.Ns C m->DP X pins H' C->RR (.ref D) C (.ok .next) s') :
    wpAny (model X.prog X.w) X.A (newList []) (fun acc s₃=>wpAny (model X.prog X.w) X.A (newFunctionEnv scope X.env.globals (Cq X.env scope.names []) [] X.env.qual none .none (some X.env)) (fun cenv s₄=>
      codeAny (model X.prog X.w) X.A (.compStart (.ListComp elt [⟨tg,iter,co.toList,0⟩] scope pos) 0 (.ref it) acc { cenv with scope:=relabel scope X.env }) (RR acc cenv.locals) s₄) X.xe s₃) X.xe s2:=by
  refine wpAny_newObj_type (wpAny_newFunctionEnv S.nocell (by intro y hy; simp at hy) (fun h₁ hns₁ hsb₁=>?_) S.kind)
  dsimp only at hns₁ hsb₁ ⊢
  generalize hH2:s2.heap.push { cls:=.type "list",dict:=none,data:=.seq ([]:List Value).toArray }=G2 at hns₁ hsb₁ ⊢
  have hC:G2.objs.size=s2.heap.objs.size + 1:=by rw [← hH2,Heap.size_push]
  have hCle:s2.heap.objs.size <= G2.objs.size:=by rw [hC]; exact Nat.le_succ _
  have hDC:s2.heap.objs.size ≠ G2.objs.size:=by rw [hC]; exact Nat.ne_of_lt (Nat.lt_succ_self _)
  have below:∀ b,b < s2.heap.objs.size->b ≠ G2.objs.size /\ b ≠ s2.heap.objs.size:=fun b hb=>⟨by rw [hC]; exact Nat.ne_of_lt (Nat.lt_succ_of_lt hb),Nat.ne_of_lt hb⟩
  have old:∀ b o,s2.heap.get? b=some o->h₁.get? b=some o:=fun b o e=>hsb₁.extBut b o (below b (Heap.lt_size e)).1 (Heap.get?_push_of_some _ (hH2 ▸ Heap.get?_push_of_some _ e))
  have hacc:h₁.get? s2.heap.objs.size=some (DO [] 0):=hsb₁.extBut _ _ hDC (Heap.get?_push_of_some _ (hH2 ▸ Heap.get?_push_size _ rfl))
  have hfo:∀ b ∈ fp,b < s2.heap.objs.size:=fun b hb=>let ⟨o,e,_⟩:=T.obj 0 _ t0 b hb; Heap.lt_size e
  have ok:=Jw (tgs:=tgs) (ix:=ix) (C:=G2.objs.size) S I2 hf hfo hCle
  have sub:∀ x c,(Cq X.env scope.names []).lookup x=some c->X.env.cells.lookup x=some c:=C4 scope.names [] (fun _ _ z=>by simp at z)
  have nDfs:s2.heap.objs.size ∉ frs X.stack:=fun hz=>by
    rcases List.mem_cons.mp (I2.stkSub _ hz) with z | z
    . exact absurd I2.lt (by rw [← z]; exact Nat.lt_irrefl _)
    . exact I2.nofs (Nat.le_refl _) z
  have nDcell:∀ x c,(Cq X.env scope.names []).lookup x=some c->c ≠ s2.heap.objs.size:=fun x c e=>Nat.ne_of_lt (I2.cellLt (sub x c e))
  have ncell:∀ (its:List Value) (k:Nat) (v:Option Value),(DO its k).data ≠ .cell v:=fun its k v z=>by cases z
  have stat:∀ {Hx:Hp} {o:Obj},(∀ b ∈ fp,Hx b=none)->∀ b ∈ fp,DP (cxB X scope tgs fp G2.objs.size s2 H2) [(s2.heap.objs.size,o)] Hx b:=fun {Hx o} hn b hb=>
    ⟨hn b hb,(ok.exf b hb).1,ok.exfs b hb,.inl hb,(ok.exf b hb).2,fun p hp z=>by
      have e:p=(s2.heap.objs.size,o):=by simpa [cxB] using hp
      subst e
      exact absurd (hfo b hb) (by rw [← z]; exact Nat.lt_irrefl _)⟩
  have loop:∀ s₃:Shared,s₃={ s2 with heap:=h₁,toks:=s2.toks + ([]:List (Str × Value)).length }->
      codeAny (model X.prog X.w) X.A (.compLoop (.ListComp elt [⟨tg,iter,co.toList,0⟩] scope pos) 0 (.ref it) (.ref s2.heap.objs.size) (compEnvC scope (Cq X.env scope.names []) G2.objs.size X.env)) (RR (.ref s2.heap.objs.size) G2.objs.size) s₃:=by
    rintro s₃ rfl
    obtain ⟨m0,w0⟩:=w0
    refine NI (fun n s=>∃ i ys its k H,Inv (cxB X scope tgs fp G2.objs.size s2 H2) [(s2.heap.objs.size,DO its k)] (Bo tgs ix σ) H s /\ tn i s.heap /\ (∀ b ∈ fp,H b=none) /\ Vals ys its /\ W i n ys H) co ?_ m0
      ⟨0,[],[],0,H2,F6 S I2 hf hfo hCle (Nat.le_refl _) hDC hns₁ old rfl rfl hacc (ncell _ _),T.keep 0 _ _ t0 fun b _ o e=>old b o e,fun b hb=>(hf b hb).1,.nil,w0⟩
    rintro n s ⟨i,ys,its,k,H,I,st,fr,rv,w⟩
    rcases turn i n ys H w with ⟨stop,hz,q⟩ | ⟨go,hz8,N,hN,step⟩
    . refine thn (T.done (cxB X scope tgs fp G2.objs.size s2 H2) rfl rfl rfl hc i _ s _ H _ I (stat fr) st stop) fun r s1 ⟨hr,I1⟩=>?_
      subst hr
      obtain ⟨pe,pn,_⟩:=I1.pin (s2.heap.objs.size,DO its k) (List.mem_append_right _ (by simp))
      have J0:Inv X pins σ H s1:=I2.call' I1.os I1.base I1.hok I1.bare fun b hb=>⟨(hf b hb).2.2.2.1,(hf b hb).2.1,(hf b hb).2.2.2.2.1,(hf b hb).2.2.2.2.2⟩
      have J1:Inv X pins σ (upd H s2.heap.objs.size (.lst ys)) s1:=J0.track (I2.fpOk (Nat.le_refl _) pn) ⟨hz,its,k,rv,pe⟩
      obtain ⟨m,hn,_⟩:=I1.loc
      exact fin _ _ s1 _ m J1 (q _ pn) hn (I2.fpOk hCle (by rw [Al (Ne.symm hDC)]; exact I1.free))
    . refine thn (T.item (cxB X scope tgs fp G2.objs.size s2 H2) rfl rfl rfl hc i _ s _ H _ I (stat fr) st go) fun r s1 ⟨u,hr,h1⟩=>?_
      subst hr
      refine thn h1 fun _ s5 ⟨x,H5,I5,r5,y5,st5,fr5⟩=>?_
      have I5':=I5.pinned (stat fr5) (T.obj _ _ st5)
      refine Er (hg fp G2.objs.size s2 H2 _ s5 _ H5 x u _ I5' r5 (hgk _ _ _ _ (step x H5 y5))) fun _ s6 ⟨σ6,H6,I6,q6,l6,d6⟩=>?_
      refine MG (hi fp G2.objs.size s2 H2 _ s6 σ6 H6 _ I6 q6) fun okb s7 ⟨H7,I7,q7⟩=>?_
      cases okb with
      | false=>
        rw [if_neg Bool.false_ne_true] at q7 ⊢
        obtain ⟨m',hm,w7⟩:=hN _ _ q7
        refine ⟨m',hm,i + 1,ys,its,k,H7,KC I7.unpinned l6 d6,T.keep _ _ _ st5 fun b hb o e=>(I7.pin (b,o) (List.mem_append_right _ (List.mem_append_right _ (BB hb e)))).1,fun b hb=>?_,rv,w7⟩
        obtain ⟨o,e,_⟩:=T.obj _ _ st5 b hb
        exact (I7.pin (b,o) (List.mem_append_right _ (List.mem_append_right _ (BB hb e)))).2.1
      | true=>
        rw [if_pos rfl] at q7 ⊢
        refine Er (he fp G2.objs.size s2 H2 _ s7 σ6 H7 _ I7 q7) fun xv s8 ⟨v,H8,I8,rv8,q8⟩=>?_
        obtain ⟨m',hm,w8⟩:=hN _ _ q8
        obtain ⟨pe,pn,_⟩:=I8.pin (s2.heap.objs.size,DO its k) (List.mem_append_right _ (List.mem_append_left _ (by simp)))
        have hlen:=rv.length
        refine call_meets PySem.F.slot_list_append ⟨_,pe,rfl⟩ PySem.F.entry_list_append (PySem.F.args_list_append_2 _ _) (PySem.list_append s2.heap.objs.size its.toArray k xv (by rw [List.size_toArray]; omega)) ⟨pe,?_⟩
        have hp:its.toArray.push xv=(its ++ [xv]).toArray:=by simp
        have q':∃ k',(s8.heap.update s2.heap.objs.size (Obj.mapSeq (fun a=>a.push xv))).get? s2.heap.objs.size=some (DO (its ++ [xv]) k'):=⟨_,by
          unfold DO
          rw [← hp]
          exact PySem.IsL.update pe (fun a=>a.push xv)⟩
        obtain ⟨k',q'⟩:=q'
        have I9:Inv (cxB X scope tgs fp G2.objs.size s2 H2) [] σ6 H8 { s8 with heap:=s8.heap.update s2.heap.objs.size (Obj.mapSeq (fun a=>a.push xv)) }:=
          (I8.pins_of (pins':=[]) (fun p hp=>absurd hp (by simp))).turned (t':=s8.toks) (fun b o hb e=>(Heap.get?_update_other s8.heap (Obj.mapSeq (fun a=>a.push xv)) (Ne.symm hb)).trans e) pn hDC (.inr (Nat.le_refl _)) nDcell (fun p hp=>absurd hp (by simp [cxB]))
        have I10:Inv (cxB X scope tgs fp G2.objs.size s2 H2) [(s2.heap.objs.size,DO (its ++ [xv]) k')] σ6 H8 { s8 with heap:=s8.heap.update s2.heap.objs.size (Obj.mapSeq (fun a=>a.push xv)) }:=
          I9.pins_of fun p hp=>by
            have e:p=(s2.heap.objs.size,DO (its ++ [xv]) k'):=by simpa using hp
            subst e
            exact ⟨q',pn,hDC,nDfs,ncell _ _⟩
        refine ⟨m',hm,i + 1,ys ++ [v],its ++ [xv],k',H8,KC I10 l6 d6,T.keep _ _ _ st5 fun b hb o e=>?_,fun b hb=>?_,rv.append (.cons rv8 .nil),w8⟩
        . exact (Heap.get?_update_other s8.heap (Obj.mapSeq (fun a=>a.push xv)) (Ne.symm (below b (hfo b hb)).2)).trans (I8.pin (b,o) (List.mem_append_right _ (List.mem_append_right _ (BB hb e)))).1
        . obtain ⟨o,e,_⟩:=T.obj _ _ st5 b hb
          exact (I8.pin (b,o) (List.mem_append_right _ (List.mem_append_right _ (BB hb e)))).2.1
  exact codeAny_compStart_list (loop _ rfl) (T.self _ 0 _ _ _ (T.keep 0 _ _ t0 fun b _ o e=>old b o e) (loop _ rfl))
theorem M3 {elt tg iter:Expr} (co:Option Expr) {pos:Pos} {wi:TI} {g:TG} {tc:TT} {te:TE} (S:BScope X scope tgs ix) (hc:X.calm=true) (hi:PI X tg iter wi) (hg:∀ fp C s H,PG (cxB X scope tgs fp C s H) tg g) (hgk:GK tgs.length g)
    (hif:∀ fp C s H,Pq (cxB X scope tgs fp C s H) co tc) (he:∀ fp C s H,PE (cxB X scope tgs fp C s H) elt te) (hs:∀ x,foldedSetIterable iter X.env x=pure x:=by intro _; rfl) :
    PE X (.ListComp elt [⟨tg,iter,co.toList,0⟩] scope pos) (Gh tgs ix wi g tc te):=by
  intro pins s σ H Q I h
  rw [eval_ListComp]
  refine wpAny_comprehension_free (use:=none) rfl hs (CC (S.cells I.ok)) S.kind S.loc ?_
  show wpAny _ _ (eval iter X.env) _ _ s
  refine thn (hi pins s σ H _ I h) fun v s1 h1=>thn h1 fun itv s2 h2=>?_
  obtain ⟨it,fp,tn,J,H2,e,I2,T,t0,f2,W,w0,turn⟩:=h2
  subst e
  refine JC (RR:=fun acc C=>compPost (model X.prog X.w) X.A X.xe none (EP X pins σ Q) acc C) S hc hg hgk hif he I2 T t0 f2 W w0 turn ?_
  intro D C s' H' m J1 q hn fC
  obtain ⟨f0,f1,f2,f3,f4,f5⟩:=fC
  exact ⟨m,hn,fun h' sb=>⟨.ref D,H',J1.turned (t':=s'.toks) (fun b o hb e=>(sb.2 b hb).trans e) f0 f1 f3 f4 f5,rfl,q⟩⟩
end
end L2
namespace Mi
open PySem L2
section
variable {X:Cx} {scope:Scope} {tgs:List Str} {ix:List Nat} {elt tg iter:Expr} {pos:Pos}
theorem LQ {K:PySem.W.Frag}:Pq X none (tT K Ci):=fun pins s σ H Q I h=>by
  obtain ⟨ι,μ,τ,b,μ',R,S,e,q⟩:=h
  cases e
  exact ⟨H,I,q ι H R.ext0 R⟩
theorem MN {K:PySem.W.Frag} {n:Nat} {src:Sl->M (List D)} {bf:D->Sl->M Sl} {g:TG} {mc:Sl->M Bool} {me:Sl->M D} {fin:List D->M D} {σ:St} {H:Hp} {Q:VK} (hn:tgs.length=n) (hg:∀ v σ H Q,tG K bf v σ H Q->g v σ H Q) (hf:∀ ι μ μ' H ds vs d (Q:VK),RelH K ι μ H->IsL K ι μ.length H ds vs->fin ds μ=some (d,μ')->(Aft K ι μ H μ' fun ι' H'=>∀ v,Is K ι' μ'.length H' d v->Q v H')->
      vs.length <= sizeLine /\ ∀ p,H p=none->Q (.ref p) (upd H p (.lst vs)))
    (h:tE K (Bj n ix src bf mc me fin) σ H Q):Gh tgs ix (tI K src) g (tT K mc) (tE K me) σ H Q:=by
  subst hn
  obtain ⟨ι,μ,τ,d,μ',R,S,e,q⟩:=h
  obtain ⟨ds,μ1,e1,e5⟩:=AF e
  obtain ⟨u,μ2,e2,e6⟩:=AF e5
  obtain ⟨zs,μ3,e3,e7⟩:=AF e6
  obtain ⟨hl,e4⟩:=CK e2
  clear e e5 e6
  subst e4
  refine ⟨ι,μ,τ,ds,_,R,S,e1,fun ι1 H1 E1 R1 J it=>?_⟩
  refine ⟨fun i' m ys H=>m=ds.length - i' /\ i' <= ds.length /\ ys.length <= i' /\ ∃ (ι:Nat->Addr) (μ:Mh) (as:List D),RelH K ι μ H /\ RelS K ι μ.length H τ σ /\ ItM K J ds ι μ H /\ IsL K ι μ.length H as ys /\ Bs bf mc me (Bz tgs.length ix τ) (ds.drop i') as μ=some (zs,μ3) /\
    Aft K ι μ H μ' fun ι' H'=>∀ v,Is K ι' μ'.length H' d v->Q v H',⟨ds.length,by simp,Nat.zero_le _,Nat.le_refl _,ι1,_,[],R1,S.ext E1,it,.nil,e3,fun ι2 H2 E2 R2=>q ι2 H2 (E1.trans E2) R2⟩,?_⟩
  rintro i' m ys H ⟨hm,hil,hyl,ι,μ,as,R,S,it,ia,e3,q⟩
  obtain ⟨go,stop,yl⟩:=it ι μ H R.ext0 R
  by_cases hlt:i' < ds.length
  . refine .inr ⟨go i' hlt,by omega,fun ys' H'=>ys'.length <= i' + 1 /\ ∃ (ι:Nat->Addr) (μ:Mh) (as:List D),RelH K ι μ H' /\ RelS K ι μ.length H' τ σ /\ ItM K J ds ι μ H' /\ IsL K ι μ.length H' as ys' /\ Bs bf mc me (Bz tgs.length ix τ) (ds.drop (i' + 1)) as μ=some (zs,μ3) /\
      Aft K ι μ H' μ' fun ι' H'=>∀ v,Is K ι' μ'.length H' d v->Q v H',fun ys' H' z=>⟨_,(by omega:ds.length - (i' + 1) < m),rfl,hlt,z⟩,fun x H2 y=>?_⟩
    have hd:ds[i']? = some ds[i']:=by simp [hlt]
    obtain ⟨E2,R2,ix2⟩:=yl i' x H2 _ hd y
    rw [List.drop_eq_getElem_cons hlt] at e3
    obtain ⟨τ1,μ1,e1,e5⟩:=AF e3
    clear e3
    obtain ⟨cc,μ2,e2,e6⟩:=AF e5
    clear e5
    have S2:=(S.ext E2).block (tgs:=tgs) (ix:=ix)
    refine hg _ _ _ _ ⟨ι,_,_,_,τ1,μ1,R2,S2,ix2,e1,fun ι0 H0 E0 R0 σ0 S0=>?_⟩
    have E20:=E2.trans E0
    refine ⟨ι0,_,_,cc,μ2,R0,S0,e2,fun ι3 H3 E3 R3=>?_⟩
    have E13:=E20.trans E3
    cases cc with
    | false=>
      exact ⟨by omega,ι3,μ2,as,R3,S.ext E13,it.ext E13,ia.ext E13,e6,fun ι5 H5 E5 R5=>q ι5 H5 (E13.trans E5) R5⟩
    | true=>
      obtain ⟨y',μ4,e4,e8⟩:=AF e6
      refine ⟨ι3,μ2,_,y',μ4,R3,S0.ext E3,e4,fun ι4 H4 E4 R4 v iv=>?_⟩
      have E14:=E13.trans E4
      exact ⟨by simp; omega,ι4,μ4,as ++ [y'],R4,S.ext E14,it.ext E14,(ia.ext E14).append (.one iv),e8,fun ι5 H5 E5 R5=>q ι5 H5 (E14.trans E5) R5⟩
  . have hi':i'=ds.length:=by omega
    subst hi'
    rw [List.drop_length] at e3
    cases e3
    obtain ⟨z1,z2⟩:=hf ι _ μ' H _ ys d Q R ia e7 q
    exact .inl ⟨stop,z1,z2⟩
theorem Qr {K:PySem.W.Frag} {is:List Nat} {v:V} {σ:St} {H:Hp} {Q:St->Hp->Prop} (h:tG K (EV is) v σ H Q):R7 K is.length (DZ is) v σ H Q:=by
  obtain ⟨ι,μ,τ,d,τ',μ',R,S,i1,e,q⟩:=h
  cases d with
  | tup ds=>
    unfold Is at i1
    obtain ⟨p,vs,rfl,h1,h2⟩:=i1
    have e':(if ds.length=is.length then GM is ds τ else BC) μ=some (τ',μ'):=e
    by_cases hl:ds.length=is.length
    . rw [if_pos hl] at e'
      refine ⟨p,vs,rfl,h1,by rw [h2.length,hl],En R S h2 e' fun z σ' S'=>?_⟩
      subst z
      exact q ι H R.ext0 R σ' S'
    . rw [if_neg hl] at e'; cases e'
  | _=>cases e
end
end Mi
namespace L2
open PySem PySem.Spec PyProof.Rows
section
variable {X:Cx}
end
end L2
namespace Mi
open PySem L2 Ht
section
variable {X:Cx} {e tg iter:Expr} {body:List Stmt} {pos:Pos}
end
end Mi
namespace Sq
open PySem PySem.W PyProof.Rows
section
variable {N:Nat} {lt:Nat->Nat->Bool} {p:Array Nat}
end
end Sq
namespace Sq
open PySem PySem.W PyProof.Rows
section
variable {N:Nat} {lt:Nat->Nat->Bool} {p:Array Nat}
end
end Sq
namespace Nk
open PySem PySem.Spec PyProof.Rows HT
section
variable {prog:Program} {w:World} {A:Around} {E:Value->Shared->Prop} {s:Shared}
end
end Nk
namespace Nk
open PySem PySem.Spec PyProof.Rows HT
section
variable {prog:Program} {w:World} {A:Around} {E:Value->Shared->Prop} {s:Shared}
end
end Nk
namespace Hs
open PySem PySem.SetTable
end Hs
namespace Hs
open PySem PySem.SetTable Ht
end Hs
namespace Hs
open PySem PySem.SetTable Ht
end Hs
namespace Hs
open PySem PySem.SetTable Ht
end Hs
namespace Hs
open PySem PySem.SetTable Ht
end Hs
set_option maxHeartbeats 4000000
namespace Hs
open PySem PySem.Spec PyProof.Rows Nk
section
variable {prog:Program} {w:World} {A:Around} {E:Value->Shared->Prop} {s:Shared}
end
end Hs
set_option maxHeartbeats 4000000
namespace Hs
open PySem PySem.Spec PyProof.Rows Nk PySem.SetTable Ht
section
variable {prog:Program} {w:World} {A:Around} {E:Value->Shared->Prop} {s:Shared}
end
end Hs
set_option maxHeartbeats 4000000
namespace Hs
open PySem PySem.Spec PyProof.Rows Nk PySem.SetTable Ht
section
variable {prog:Program} {w:World}
end
end Hs
set_option maxHeartbeats 4000000
namespace Hs
open PySem PySem.Spec PyProof.Rows Nk PySem.SetTable Ht
section
variable {prog:Program} {w:World}
end
end Hs
set_option maxHeartbeats 4000000
namespace Hs
open PySem PySem.Spec PyProof.Rows Nk PySem.SetTable Ht
section
variable {prog:Program} {w:World} {h h':Heap} {P P':NK->Addr->Prop}
end
end Hs
set_option maxHeartbeats 4000000
namespace Hs
open PySem PySem.Spec PyProof.Rows Nk PySem.SetTable Ht
section
variable {prog:Program} {w:World} {A:Around} {E:Value->Shared->Prop} {s:Shared}
end
end Hs
set_option maxHeartbeats 4000000
namespace Hs
open PySem PySem.Spec PyProof.Rows Sem L2 Nk PySem.SetTable Ht
section
variable {α:Type} [DecidableEq α]
end
section
variable {prog:Program} {w:World} {A:Around} {E:Value->Shared->Prop} {s:Shared}
end
end Hs
namespace Hs
open PySem PySem.Spec PyProof.Rows Sem L2 Nk Ht
section
variable {prog:Program} {w:World} {A:Around} {E:Value->Shared->Prop} {s:Shared}
end
end Hs
set_option maxHeartbeats 4000000
namespace Nk
open PySem PySem.Spec PyProof.Rows Ht
section
variable {prog:Program} {w:World} {A:Around} {E:Value->Shared->Prop} {s:Shared} {d I:Addr} {o:Obj} {es:Array DictEntry} {ep:Nat}
end
end Nk
namespace Nk
open PySem PySem.Spec PyProof.Rows L2 Mi
section
variable {X:Cx} {pins:List (Addr × Obj)} {σ:L2.St} {H:Hp} {s:Shared} {ι:Nat->Addr} {k:Nat}
end
end Nk
namespace Mi
open PySem L2 Ht Nk
section
variable {X:Cx} {e o i:Expr} {pos pos':Pos}
end
end Mi
namespace Hs
open PySem PySem.Spec PyProof.Rows Sem L2 Nk Ht
section
variable {prog:Program} {w:World} {A:Around} {E:Value->Shared->Prop} {s:Shared}
end
end Hs
namespace Nk
open PySem PySem.Spec PyProof.Rows PySem.SeqAt
section
variable {prog:Program} {w:World} {A:Around} {E:Value->Shared->Prop} {s:Shared}
end
end Nk
set_option maxHeartbeats 4000000
namespace Hs
open PySem PySem.Spec PyProof.Rows PySem.SeqAt Nk Ht
section
variable {prog:Program} {w:World} {A:Around} {E:Value->Shared->Prop} {s:Shared}
end
end Hs
set_option maxHeartbeats 4000000
namespace Hs
open PySem PySem.Spec PyProof.Rows Nk PySem.SetTable Ht L2
section
variable {prog:Program} {w:World} {A:Around} {E:Value->Shared->Prop} {s:Shared}
end
end Hs
set_option maxHeartbeats 4000000
namespace Hs
open PySem PySem.Spec PyProof.Rows Nk PySem.SetTable Ht L2
section
variable {prog:Program} {w:World} {A:Around} {E:Value->Shared->Prop} {s:Shared}
end
end Hs
set_option maxHeartbeats 4000000
namespace Hs
open PySem PySem.Spec PyProof.Rows Nk PySem.SetTable Ht L2
section
variable {prog:Program} {w:World} {A:Around} {E:Value->Shared->Prop} {s:Shared}
end
end Hs
namespace Mi
open PySem L2 Ht Nk
section
variable {X:Cx} {e:Expr}
def BN:D->List D->M D
  | .ref n,[]=>D9 n fun ds=>(ds[ds.length - 1]?).map fun d=>(d,ds.dropLast)
  | _,_=>BC
theorem IsL.dropLast {K:PySem.W.Frag} {ι:Nat->Addr} {k:Nat} {H:Hp} {ds:List D} {vs:List V} (h:IsL K ι k H ds vs):IsL K ι k H ds.dropLast vs.dropLast:=by
  rw [List.dropLast_eq_take,List.dropLast_eq_take,h.length]
  exact h.take _
theorem BF:MtR X "list.pop" (rMM X.K BN):=fun pins s σ H x xs v us Q I rx rs h=>by
  obtain ⟨ι,μ,a,as,d,μ',R,ia,ib,e,q⟩:=h
  unfold BN at e
  split at e
  . rename_i n
    obtain ⟨ds,es,h1,h2,rfl⟩:=Dd e
    cases hd:ds[ds.length - 1]? with
    | none=>rw [hd] at h2; cases h2
    | some d0=>
      rw [hd] at h2
      cases h2
      unfold IsL at ib
      subst ib
      unfold Is at ia
      obtain ⟨_,rfl⟩:=ia
      obtain ⟨u,g1,vs,rfl,g2⟩:=R.obj n _ h1
      obtain ⟨w,ew,iw⟩:=g2.get hd
      refine Ro pins s σ H _ _ v us Q I rx rs ⟨_,vs,w,rfl,rfl,g1,by rw [g2.length]; exact ew,?_⟩
      exact FK R h1 g2.dropLast iw q
  . cases e
end
end Mi
namespace Mi
open PySem L2 Ht Nk PySem.SeqAt
section
variable {X:Cx} {e st:Expr} {pos p2:Pos}
def Mf (d k:D):M D:=match k with
  | .int i=>if i = -1 then bnd (A6 d) fun ds=>DW ds.reverse else BC
  | _=>BC
theorem Q1 {m ms:Sl->M D} (he:RE X e m) (hst:RE X st ms):RE X (.Subscript e (.Slice none none (some st) p2) pos) (mOp Mf m ms):=RE.wk (RV he.pe hst.pe) fun σ H Q h=>by
  obtain ⟨ι,μ,τ,d,μ',R,S,ev,q⟩:=h
  obtain ⟨x,μ1,e1,e2⟩:=AF ev
  obtain ⟨y,μ2,e3,e4⟩:=AF e2
  refine ⟨ι,μ,τ,x,μ1,R,S,e1,fun ι1 H1 E1 R1 v1 i1=>⟨ι1,μ1,τ,y,μ2,R1,S.ext E1,e3,fun ι2 H2 E2 R2 v2 i2=>?_⟩⟩
  unfold Mf at e4
  split at e4
  . rename_i i
    split at e4
    . rename_i hi
      subst hi
      obtain ⟨ds,μ3,e5,e6⟩:=AF e4
      obtain ⟨hm,a,vs,rfl,h1,h2⟩:=BZ R2 (i1.ext E2) e5
      subst hm
      unfold Is at i2
      subst i2
      exact ⟨rfl,a,vs,rfl,h1,(FP R2 h2.reverse e6 fun ι3 H3 E3 R3 v3 i3=>q ι3 H3 ((E1.trans E2).trans E3) R3 v3 i3).2⟩
    . cases e4
  . cases e4
end
section
variable {X:Cx}
end
end Mi
set_option maxHeartbeats 2000000
namespace Mi
open PySem PySem.Spec PyProof.Rows L2 Ht Nk Hs
section
variable {X:Cx}
end
end Mi
set_option maxHeartbeats 2000000
namespace Mi
open PySem PySem.Spec PyProof.Rows L2 Ht Nk Hs
section
variable {X:Cx} {e e2:Expr} {pos p p2 pos2 p3 pos3 pos4:Pos}
end
end Mi
namespace L2
open PySem PySem.Spec PyProof.Rows
section
variable {X:Cx} {scope:Scope} {tgs:List Str} {ix:List Nat}
end
end L2
namespace Mi
open PySem L2
section
variable {X:Cx} {scope:Scope} {tgs:List Str} {ix:List Nat} {elt iter:Expr} {pos:Pos}
end
end Mi
namespace Mi
open PySem L2
section
variable {K:PySem.W.Frag} {ι:Nat->Addr} {k:Nat} {H:Hp}
theorem ClsAt.eq {c:Str} {C C':Addr} (a:ClsAt K c C) (b:ClsAt K c C'):C=C':=by
  unfold ClsAt at a b
  rw [a] at b
  cases b
  rfl
theorem FVs.lookup {f:Str}:∀ {l:List (Str × D)} {r:List (Str × V)} {d:D},FVs K ι k H l r->l.lookup f=some d->∃ v,r.lookup f=some v /\ Is K ι k H d v
  | [],_,_,_,e=>by cases e
  | (y,d0) :: l,_,d,h,e=>by
    obtain ⟨v,r',rfl,h1,h2⟩:=h
    rw [List.lookup_cons] at e ⊢
    cases q:f == y with
    | true=>rw [q] at e; cases e; exact ⟨v,rfl,h1⟩
    | false=>rw [q] at e; exact FVs.lookup h2 e
theorem FVs.len:∀ {l:List (Str × D)} {r:List (Str × V)},FVs K ι k H l r->r.length=l.length
  | [],_,h=>by cases h; rfl
  | (y,d0) :: l,_,h=>by
    obtain ⟨v,r',rfl,h1,h2⟩:=h
    simp [FVs.len h2]
def DU (f:Str) (d:D):List (Str × D)->List (Str × D)
  | []=>[(f,d)]
  | (y,x) :: l=>if y=f then (y,d) :: l else (y,x) :: DU f d l
theorem FVs.put {f:Str} {d:D} {v:V} (i:Is K ι k H d v):∀ {l:List (Str × D)} {r:List (Str × V)},FVs K ι k H l r->FVs K ι k H (DU f d l) (DB f v r)
  | [],_,h=>by cases h; exact ⟨v,[],rfl,i,rfl⟩
  | (y,d0) :: l,_,h=>by
    obtain ⟨w,r',rfl,h1,h2⟩:=h
    unfold DU DB
    by_cases e:y=f
    . rw [if_pos e,if_pos e]; exact ⟨v,r',rfl,i,h2⟩
    . rw [if_neg e,if_neg e]; exact ⟨w,_,rfl,h1,FVs.put i h2⟩
end
def JO (c:Str):D->M (Nat × List (Str × D))
  | .ref n=>fun μ=>match μ[n]? with
    | some (.ins c' l)=>if c'=c then some ((n,l),μ) else none
    | _=>none
  | _=>BC
theorem GO {K:PySem.W.Frag} {ι:Nat->Addr} {H:Hp} {μ μ':Mh} {c:Str} {d:D} {v:V} {r:Nat × List (Str × D)} (R:RelH K ι μ H) (i:Is K ι μ.length H d v) (e:JO c d μ=some (r,μ')) :
    μ'=μ /\ d=.ref r.1 /\ μ[r.1]? = some (.ins c r.2) /\ v=.ref (ι r.1) /\ ∃ C dx fs,H (ι r.1)=some (.ins C dx fs) /\ ClsAt K c C /\ H dx=some (.own (ι r.1)) /\ FVs K ι μ.length H r.2 fs:=by
  cases d with
  | ref n=>
    have e1:(match μ[n]? with | some (.ins c' l)=>if c'=c then some ((n,l),μ) else none | _=>none)=some (r,μ'):=e
    clear e
    split at e1
    . rename_i c' l hq
      split at e1
      . rename_i hc
        cases e1
        rw [hc] at hq
        unfold Is at i
        obtain ⟨u,h1,C,dx,fs,rfl,h2,h3,h4⟩:=R.obj n _ hq
        exact ⟨rfl,rfl,hq,i.2,C,dx,fs,h1,h2,h3,h4⟩
      . cases e1
    . cases e1
  | _=>cases e
structure CA (K:PySem.W.Frag) (c:Str) (C:Addr):Prop where
  at_:ClsAt K c C
  cl:Cls K C
def Gb (c f:Str) (d:D):M D:=bnd (JO c d) fun r=>fun μ=>(r.2.lookup f).map fun x=>(x,μ)
def Dq (c f:Str) (mo mv:Sl->M D):Sl->M (Fl × Sl):=fun τ=>bnd (mv τ) fun y=>bnd (mo τ) fun x=>bnd (JO c x) fun r=>fun μ=>if r.2.length < 1000 then some ((.next,τ),μ.set r.1 (.ins c (DU f y r.2))) else none
def F0 (c:Str) (φ:List D->M D):List D->M D:=fun ds μ=>match φ (.ref μ.length :: ds) (μ ++ [.ins c []]) with
  | some (.non,μ')=>some (.ref μ.length,μ')
  | _=>none
structure Ini (P:Program) (w:World) (K:PySem.W.Frag) (mg:Str->Option Value) (base:Heap) (c:Str) (ps:List Str) (k:Nat) (φ:List D->M D):Prop where
  len:∀ ds μ r,φ ds μ=some r->ds.length=ps.length
  ex:∃ C f fd,ClsAt K c C /\ mg c=some (.ref C) /\ Mk K C f /\ FnOk P w K mg base CX0 k f fd ps (spM K ps.length φ) /\ Binds K fd ps []
section
variable {X:Cx} {e o value:Expr} {es:List Expr} {pos p pos' apos:Pos} {c f:Str} {C:Addr}
theorem Eg {m:Sl->M D} (ca:CA X.K c C) (na:NoAttr X.K C f) (he:RE X e m) (hb:attributeBase e f X.env (eval e X.env)=eval e X.env:=by rfl):RE X (.Attribute e f pos) (mUn (Gb c f) m):=RE.wk (RZ he.pe hb) fun σ H Q h=>by
  obtain ⟨ι,μ,τ,d,μ',R,S,ev,q⟩:=h
  obtain ⟨x,μ1,e1,e2⟩:=AF ev
  obtain ⟨r,μ2,e3,e4⟩:=AF e2
  refine ⟨ι,μ,τ,x,μ1,R,S,e1,fun ι1 H1 E1 R1 v1 i1=>?_⟩
  obtain ⟨hm,_,g1,rfl,C',dx,fs,g2,g3,g4,g5⟩:=GO R1 i1 e3
  subst hm
  cases ca.at_.eq g3
  cases hl:r.2.lookup f with
  | none=>rw [hl] at e4; cases e4
  | some x0=>
    rw [hl] at e4
    cases e4
    obtain ⟨v,hv,iv⟩:=g5.lookup hl
    exact ⟨_,C,dx,fs,v,rfl,g2,ca.cl,na,hv,q ι1 H1 E1 R1 v iv⟩
theorem Ef {mo mv:Sl->M D} (ca:CA X.K c C) (na:NoAttr X.K C f) (ho:RE X o mo) (hv:RE X value mv) (hs:swapsWith value (some (.Attribute o f pos')) pos.line X.env=pure false:=by rfl):RS X (.Assign [.Attribute o f pos'] value pos) (Dq c f mo mv):=RS.wk (RK ho.pe hv.pe hs) fun Dn σ H h=>by
  obtain ⟨ι,μ,τ,fl,τ',μ',R,S,ev,q⟩:=h
  obtain ⟨y,μ1,e1,ee1⟩:=AF ev
  obtain ⟨x,μ2,e2,ee2⟩:=AF ee1
  obtain ⟨r,μ3,e3,ee3⟩:=AF ee2
  refine ⟨ι,μ,τ,y,μ1,R,S,e1,fun ι1 H1 E1 R1 v1 i1=>⟨ι1,μ1,τ,x,μ2,R1,S.ext E1,e2,fun ι2 H2 E2 R2 v2 i2=>?_⟩⟩
  obtain ⟨hm,_,g1,rfl,C',dx,fs,g2,g3,g4,g5⟩:=GO R2 i2 e3
  subst hm
  cases ca.at_.eq g3
  have ee3:(if r.2.length < 1000 then some ((Fl.next,τ),List.set μ3 r.1 (MO.ins c (DU f y r.2))) else none)=some ((fl,τ'),μ'):=ee3
  split at ee3
  . rename_i hl
    cases ee3
    have hlt:r.1 < List.length μ3:=(List.getElem?_eq_some_iff.mp g1).1
    obtain ⟨E4,R4⟩:=R2.changed (m:=.ins c (DU f y r.2)) (o:=.ins C dx (DB f v1 fs)) hlt ⟨C,dx,_,rfl,ca.at_,g4,FVs.put (i1.ext E2) g5⟩
    exact ⟨_,C,dx,fs,rfl,g2,ca.cl,na,by rw [g5.len]; exact hl,q ι2 _ ((E1.trans E2).trans E4) R4 σ (S.ext ((E1.trans E2).trans E4))⟩
  . cases ee3
theorem KP {ps:List Str} {k j:Nat} {φ:List D->M D} {m:Sl->M (List D)} (F:Ini X.prog X.w X.K X.mg X.base c ps k φ) (hr:Room j X.A) (ha:RA X (e :: es) m) (hkj:k + 1 <= j:=by decide) (hg:Gl X c:=by rfl) (hdb:(c == ("__debug__" : Str))=false:=by decide)
    (he:starEach (e :: es) X.env=(false,eval e X.env) :: starEach es X.env:=by exact AY rfl) (hpl:(backTo pos (starEach es X.env)).any (·.1)=false:=by exact BQ rfl):RE X (.Call (.Name c p) (e :: es) [] pos) (AJ (F0 c φ) m):=by
  obtain ⟨len,C,f,fd,hc,hm,M,F,hb⟩:=F
  refine RE.wk (O8 M F (hr.mono hkj) hg hm hb .nil P5 ha.pe hdb he hpl) fun _ _ _ q=>C7 q fun ι μ μ' H ds vs d R i ev q=>?_
  intro x dx hx hdx hne
  unfold F0 at ev
  split at ev
  . rename_i μ1 hφ
    cases ev
    obtain ⟨E1,R1⟩:=R.laid (.own x) hdx
    have hx1:upd H dx (.own x) x=none:=by rw [Al (Ne.symm hne)]; exact hx
    obtain ⟨ι',E2,R2,e0⟩:=R1.grown (m:=.ins c []) (o:=.ins C dx []) hx1 ⟨C,dx,[],rfl,hc,At,rfl⟩
    have hlen:=len _ _ _ hφ
    refine ⟨by rw [List.length_cons,List.length_append,List.length_nil,Nat.add_zero,i.length,← hlen]; rfl,ι',_,_,_,_,R2,.cons (v:=.ref x) (by unfold Is; exact ⟨by simp,by rw [e0]⟩) (by rw [List.append_nil]; exact i.ext (E1.trans E2)),hφ,fun ι3 H3 E3 R3 v iv=>?_⟩
    unfold Is at iv
    refine ⟨iv,q ι3 H3 ((E1.trans E2).trans E3) R3 (.ref x) ?_⟩
    unfold Is
    have hl:μ.length < (μ ++ [MO.ins c []]).length:=by simp
    exact ⟨Nat.lt_of_lt_of_le hl E3.le,by rw [E3.agree _ hl,e0]⟩
  . cases ev
theorem Q2:RE X e (fun _=>BC):=by
  refine RE.wk (t:=fun _ _ _=>False) (fun pins s σ H Q I h=>h.elim) fun σ H Q h=>?_
  obtain ⟨ι,μ,τ,d,μ',R,S,ev,q⟩:=h
  cases ev
end
end Mi
namespace Mi
open PySem L2
def NAs (K:PySem.W.Frag) (C:Addr):List Str->Prop
  | []=>True
  | x :: r=>PySem.W.findIn K (.ref C) x=some none /\ NAs K C r
theorem NAs.all {K:PySem.W.Frag} {C:Addr}:∀ {fl:List Str},NAs K C fl->∀ x ∈ fl,NoAttr K C x
  | [],_,_,h=>nomatch h
  | y :: r,n,x,h=>by
    rcases List.mem_cons.mp h with rfl | h
    . exact n.1
    . exact NAs.all n.2 x h
structure Dc (K:PySem.W.Frag) (c:Str) (fl:List Str) (C:Addr):Prop where
  ca:CA K c C
  na:∀ x ∈ fl,NoAttr K C x
structure Di (K:PySem.W.Frag) (c qual:Str) (st:Stmt) (C f:Addr) (fd:FuncData):Prop where
  at_:ClsAt K c C
  mak:Mk K C f
  F:Fun K "__init__" qual st f fd
section
variable {K:PySem.W.Frag} {c m qual:Str} {st:Stmt} {C f:Addr} {fl:List Str} {oc:Value} {od an:Option Addr} {osl:Array (Option Value)} {kV doc pm cdv ct:Value}
theorem To (a:PySem.W.nsIn K mainGlobals c=some (some (.ref C))) (pg:PySem.W.plainGet K C Str.empty=true) (hd:PySem.W.hasDictIn K C=true) (po:PySem.W.plainOver K C=true) (sa:PySem.W.findIn K (.ref C) "__setattr__" = some (some (.builtin "object.__setattr__"))) (na:NAs K C fl):∃ C,Dc K c fl C:=
  ⟨C,⟨a,⟨pg,hd,po,sa⟩⟩,na.all⟩
theorem Tm (a:PySem.W.nsIn K mainGlobals c=some (some (.ref C))) (mk:PySem.W.makesIn K C=true) (ini:PySem.W.findIn K (.ref C) "__init__" = some (some (.ref f))) (fn:PySem.W.isFn K (.ref f)=true) (kc:PySem.W.keepIn K (.ref C)=true)
    (l:K.lookup f=some ⟨oc,od,.func (PySem.W.fnOf "__init__" qual (Do st) (AZ st) (AH st) .none kV doc pm an cdv ct),osl⟩) (cd:PySem.W.codeIn K cdv qual=true) (k:PySem.W.keepIn K (.ref f)=true):∃ C f fd,Di K c qual st C f fd:=⟨C,f,_,a,⟨mk,ini,fn,kc⟩,Na l cd k⟩
end
theorem NV (hw:How) {P:Program} {w:World} {K:PySem.W.Frag} {mg:Str->Option Value} {base:Heap} {c qual:Str} {st:Stmt} {C f:Addr} {fd:FuncData} {N ps:List Str} {k:Nat} {mb:Sl->M (Fl × Sl)} (d:Di K c qual st C f fd) (S:Ai N ps (AH st)) (hm:mg c=some (.ref C)) (hb:Binds K fd ps [])
    (body:∀ (cdv:Value) (A:Around) (outer:List Env) (s:Shared) (H:Hp) (E:XK),Room k (A.deeper (PyProof.Rows.envOfC qual (AH st) s.heap.objs.size f cdv))->RSs (Bv CX0 P w K mg base N qual (AH st) f cdv A outer s H E).nox (AZ st) mb) :
    Ini P w K mg base c ps (k + 1) (Az hw N.length ps.length mb):=⟨fun ds μ r h=>(DJ (d:=r.1) (μ':=r.2) h).1,C,f,fd,d.at_,hm,d.mak,Ir hw d.F S body,hb⟩
def Ta (st:Stmt) (j:Nat):Stmt:=match st with
  | .ClassDef _ _ _ body _ _ _ _ _ _ _=>body.getD j (.Pass ⟨0,0,0,0⟩)
  | _=>.Pass ⟨0,0,0,0⟩
end Mi
namespace L2
open PySem PySem.Spec PyProof.Rows Sem Ht
theorem OM (l:Addr) (items:Array Value) (t:Tok) (h0:items.isEmpty=false) :
    Meets (Builtin.«tuple.__mul__» ⟨[.ref l,.int 0 t],[]⟩) (fun _ R s=>IsTup s.heap l items /\ R (.ok (.ret (.ref s.heap.objs.size))) { s with heap:=s.heap.push { cls:=.type "tuple",data:=.seq #[] } }):=
  .of_wp fun prog w A R s h=>by
    obtain ⟨⟨o,ho,hc,n,hd⟩,q⟩:=h
    have hT:s.TypeIs (.ref l) "tuple" := ⟨o,ho,hc⟩
    unfold Builtin.«tuple.__mul__»
    wp_walk
    rw [hd]
    refine wpAny_pure (wpAny_pure ?_)
    dsimp only
    rw [h0]
    have c2:(false || (0:Int) == 1)=false:=by decide
    rw [c2]
    simp only [Bool.false_eq_true,↓reduceIte]
    have c3:(decide ((0:Int) <= 0) || false)=true:=by decide
    rw [c3]
    simp only [↓reduceIte]
    unfold Builtin.Tuple.tupleExact
    exact wpAny_bind (wpAny_newObj_type (wpAny_pure ⟨_,rfl,q⟩))
section
variable {X:Cx}
theorem M5:OpR X (binaryOp .Mult) (fun x y H Q=>∃ l xs,x=.ref l /\ y=.int 0 /\ SqT X.K H l xs /\ xs ≠ [] /\ ∀ p,H p=none->Q (.ref p) (upd H p (.tup []))):=by
  intro pins s σ H x y v u Q I rx ry h
  obtain ⟨l,xs,rfl,rfl,ha,hx,q⟩:=h
  cases rx
  obtain ⟨t,rfl⟩:=ry
  obtain ⟨its,r,p,_⟩:=I.tuple ha
  have hlen:=r.length
  have hT:s.TypeIs (.ref l) "tuple" := by
    obtain ⟨o,e,c,_⟩:=p
    exact ⟨o,e,c⟩
  have he:its.toArray.isEmpty=false:=by
    cases its with
    | nil=>exact absurd (List.length_eq_zero_iff.mp (by simpa using hlen)) hx
    | cons a b=>rfl
  refine wpAny_binaryOp_repeat_ref (T := "tuple") (U := "int") (by decide) hT (fun s'=>typeIs_int s' 0 t) KE PySem.F.fills_int_mul PySem.F.slot_int_rmul MH PySem.F.slot_int_index.lookup ?_
  refine call_meets PySem.F.slot_int_rmul (typeIs_int s 0 t) PySem.F.entry_int_rmul (PySem.F.args_int_rmul_2 _ _) (MI 0 t l its.toArray) ⟨p,rfl,hT,?_⟩
  refine call_meets PySem.F.slot_tuple_mul hT PySem.F.entry_tuple_mul (PySem.F.args_tuple_mul_2 _ _) (OM l its.toArray t he) ⟨p,?_⟩
  exact ⟨.ref s.heap.objs.size,_,I.laid (t':=s.toks) (o:=.tup []) (fun b ob z=>Heap.get?_push_of_some _ z) (Nat.le_refl _) ⟨by simp,[],.nil,IsTup.new _ _⟩,rfl,q _ (I.hok.fresh (Nat.le_refl _))⟩
end
end L2
namespace Mi
open PySem L2 Ht
def DA (a b:D):M D:=match a,b with
  | .tup (x :: ds),.int 0=>fun μ=>some (.tup [],μ)
  | a,b=>HS a b
section
variable {X:Cx}
theorem HW:OpR X (binaryOp .Mult) (rM X.K DA):=fun pins s σ H x y v u Q I rx ry h=>by
  obtain ⟨ι,μ,a,b,d,μ',R,ia,ib,e,q⟩:=h
  unfold DA at e
  split at e
  . rename_i z ds
    cases e
    have zb:=BV ib
    subst zb
    unfold Is at ia
    obtain ⟨p,vs,rfl,h1,h2⟩:=ia
    have hl:=h2.length
    refine M5 pins s σ H _ _ v u Q I rx ry ⟨p,vs,rfl,rfl,h1,fun n=>by rw [n] at hl; simp at hl,?_⟩
    exact Ih R IsL.nil q
  . exact Rm pins s σ H _ _ v u Q I rx ry ⟨ι,μ,a,b,d,μ',R,ia,ib,e,q⟩
end
end Mi
set_option maxHeartbeats 2000000
namespace Xt
open PySem PySem.Spec PyProof.Rows Sem L2 Ht
theorem Eb:∀ {vs us:List Value},vs.Perm us->∀ {ks:List Str},StrsAre us ks->∃ ms,StrsAre vs ms /\ ms.Perm ks:=by
  intro vs us p
  induction p with
  | nil=>exact fun h=>⟨_,h,.refl _⟩
  | cons x _ ih=>
    intro ks h
    cases h with
    | cons y t h=>exact (ih h).elim fun m z=>⟨y :: m,.cons y t z.1,z.2.cons y⟩
  | swap x y l=>
    intro ks h
    cases h with
    | cons a t h=>
      cases h with
      | cons b u h=>exact ⟨_,.cons b u (.cons a t h),.swap a b _⟩
  | trans _ _ i1 i2=>
    intro ks h
    obtain ⟨m,a,b⟩:=i2 h
    obtain ⟨n,c,d⟩:=i1 a
    exact ⟨n,c,d.trans b⟩
theorem MR (t:SetTable) (n:Nat):(t.orStandIn n).led=t.led:=by
  unfold SetTable.orStandIn SetTable.standIn
  split <;> rfl
theorem JZ (t:SetTable) (n:Nat) (h:t.plain=false):(t.orStandIn n).plain=false:=by
  unfold SetTable.orStandIn SetTable.standIn
  split
  . exact h
  . rfl
theorem PV (t:SetTable) (es:Array (Int × Value)) (h:Int) (x:Value):(layNew t es h x).2.1.led=t.led /\ (t.plain=false->(layNew t es h x).2.1.plain=false):=by
  unfold layNew
  split
  . exact ⟨MR _ _,fun z=>JZ _ _ z⟩
  . exact ⟨rfl,fun _=>rfl⟩
theorem LI (t:SetTable) (es:Array (Int × Value)) (n:Nat):(relayAll t es n).2.1.led=t.led /\ (t.plain=false->(relayAll t es n).2.1.plain=false):=by
  unfold relayAll
  split
  . rename_i t' order e
    have f:t'.led=t.led /\ t'.plain=t.plain:=by
      unfold SetTable.relaid SetTable.laid at e
      simp only [Option.bind_eq_bind,Option.bind_eq_some_iff] at e
      obtain ⟨a,_,e⟩:=e
      cases e
      exact ⟨rfl,rfl⟩
    dsimp only
    split
    . exact ⟨f.1,fun z=>f.2.trans z⟩
    . exact ⟨rfl,fun _=>rfl⟩
  . exact ⟨rfl,fun _=>rfl⟩
def SetT (prog:Program) (w:World) (h:Heap) (a:Addr) (ks:List Str):Prop:=
  ∃ o es ep t,h.get? a=some o /\ o.ExactSet /\ o.data=.set es ep t /\ ElemsOf (PySem.strKind prog w) es.toList /\ (∃ ns,StrsAre (es.toList.map (·.2)) ns /\ ns.Perm ks) /\ t.fits es.size=true /\ t.led = !(w.params.followText "set-order") /\ (es.size ≠ 0->t.plain=false)
theorem SetT.at {prog:Program} {w:World} {h h':Heap} {a:Addr} {ks:List Str} (z:SetT prog w h a ks) (k:∀ o,h.get? a=some o->h'.get? a=some o):SetT prog w h' a ks:=by
  obtain ⟨o,es,ep,t,e,rest⟩:=z
  exact ⟨o,es,ep,t,k o e,rest⟩
theorem Gi {l:Array (Int × Value)} {ns ks:List Str} (h:StrsAre (l.toList.map (·.2)) ns) (p:ns.Perm ks):l.size=ks.length:=by
  rw [← p.length_eq,← h.length,List.length_map,Array.length_toList]
theorem OR (prog:Program) (w:World) {ks:List Str}:∀ {l:List (Int × Value)},StrsAre (l.map (·.2)) ks->∀ k:Str,(∃ e ∈ l,(PySem.strKind prog w).is k e.2=true) ↔ k ∈ ks:=by
  intro l
  induction l generalizing ks with
  | nil=>intro h k; cases h; simp
  | cons e l ih=>
    intro h k
    obtain ⟨a,v⟩:=e
    have h0:StrsAre (v :: l.map (·.2)) _:=h
    clear h
    cases h0 with
    | cons y t h1=>
      have:=ih h1 k
      have hy:(PySem.strKind prog w).is k (.str y t)=true ↔ k=y:=by
        rw [KeyKind.is_eq_decide (strKind_is prog w y t) k,decide_eq_true_iff]
      rw [List.mem_cons,← this]
      constructor
      . rintro ⟨e,he,q⟩
        rcases List.mem_cons.mp he with rfl | he
        . exact .inl (hy.mp q)
        . exact .inr ⟨e,he,q⟩
      . rintro (z | ⟨e,he,q⟩)
        . exact ⟨_,List.mem_cons_self,hy.mpr z⟩
        . exact ⟨e,List.mem_cons_of_mem _ he,q⟩
section
variable {prog:Program} {w:World} {A:Around} {E:Value->Shared->Prop} {s:Shared}
set_option hygiene false in
local macro_rules | `(tactic| wtm_at "own own_tail")=>`(tactic| (
  refine wpAny_bind (wpAny_storeSet_of (s:={ s with toks:=s.toks + 1 }) ho hd ?_ (by rw [sizeLine_eq]; unfold scanBound at room; omega))
  have ho1:=Kp ho hd es1 t2
  have sb1:=Heap.SameBut.update s.heap a (Obj.putSet es1 t2)
  by_cases hf:(!wd && t2.tooFull)=true
  . rw [if_pos hf]
    have rp:=relayAll_perm t2 es1 (SetTable.grown es1.size)
    have rf:=relayAll_fits t2 es1 (SetTable.grown es1.size)
    have rl:=LI t2 es1 (SetTable.grown es1.size)
    generalize relayAll t2 es1 (SetTable.grown es1.size)=ry at rp rf rl
    obtain ⟨es3,t3,gv3⟩:=ry
    dsimp only at rp rf rl ⊢
    have s3:es3.size=es1.size:=by simpa using rp.length_eq
    cases gv3
    all_goals
      first
        | refine wpAny_bind (wpAny_pure ?_)
        | refine wpAny_bind (wpAny_rule ?_)
      refine wpAny_bind (wpAny_storeSet_of (s:={ s with heap:=s.heap.update a (Obj.putSet es1 t2),toks:=s.toks + 1 }) ho1 rfl ?_ (by rw [sizeLine_eq]; unfold scanBound at room; omega))
      exact wpAny_pure (wpAny_pure (wrap es3 t3 _ o _ _ (sb1.trans (Heap.SameBut.update _ a _)) (Kp ho1 rfl es3 t3) rp rf (rl.1.trans fl.2.1) (rl.2 fl.2.2)))
  . rw [if_neg hf]
    exact wpAny_pure (wpAny_pure (wrap es1 t2 _ o _ _ sb1 ho1 (.refl _) fl.1 fl.2.1 fl.2.2))))
theorem MV {a:Addr} {ks:List Str} {x:Str} {tk:Tok} {Q:Bool->Shared->Prop} (hS:SetT prog w s.heap a ks) (room:ks.length + 1 < scanBound)
    (q:∀ b h' tk,Heap.SameBut a s.heap h'->SetT prog w h' a (if x ∈ ks then ks else ks ++ [x])->Q b { s with heap:=h',toks:=tk }) :
    wpAny (model prog w) A (setAdd a (.str x tk)) Q E s:=by
  obtain ⟨o,es,ep,t,ho,hex,hd,hel,⟨ns,hen,hp⟩,hfit,hled,hpl⟩:=hS
  have hsz:=Gi hen hp
  have hb:es.size < scanBound:=by omega
  have kx:=strKind_is prog w x tk
  unfold setAdd
  refine wpAny_holding (wpAny_bind ((PySem.strKind prog w).pyHash kx ?_))
  unfold setAddHashed setAddHashedIn
  refine wpAny_holding (wpAny_bind (wpAny_setState_of (s:={ s with toks:=s.toks + 1 }) ho hd hfit ?_))
  dsimp only
  rw [byScan_of (knd:=PySem.strKind prog w) rfl hb hel]
  simp only [↓reduceIte]
  unfold setAddByScan
  refine wpAny_bind ?_
  refine wpAny_bind (wpAny_rule ?_)
  refine wpAny_bind (wpAny_setScan_of (knd:=PySem.strKind prog w) (s:={ s with toks:=s.toks + 1 }) kx ho hd hfit hel ?_)
  have mem:=OR prog w hen x
  rw [hp.mem_iff] at mem
  cases hr:List.findIdx? (fun e=>(PySem.strKind prog w).is x e.2) es.toList with
  | some j=>
    dsimp only
    obtain ⟨hj,hpj,_⟩:=List.findIdx?_eq_some_iff_getElem.mp hr
    rw [if_pos (mem.mp ⟨_,List.getElem_mem hj,hpj⟩)] at q
    exact wpAny_pure (wpAny_pure (q _ s.heap _ (Heap.SameBut.refl a s.heap) ⟨o,es,ep,t,ho,hex,hd,hel,⟨ns,hen,hp⟩,hfit,hled,hpl⟩))
  | none=>
    dsimp only
    have hm:x ∉ ks:=fun z=>by
      obtain ⟨e,he,hq⟩:=mem.mpr z
      rw [List.findIdx?_eq_none_iff.mp hr e he] at hq
      cases hq
    rw [if_neg hm] at q
    have lp:=layNew_perm t es ((PySem.strKind prog w).hash x) (.str x tk)
    have lf:=layNew_fits t es ((PySem.strKind prog w).hash x) (.str x tk)
    have ll:=(PV t es ((PySem.strKind prog w).hash x) (.str x tk)).1
    generalize layNew t es ((PySem.strKind prog w).hash x) (.str x tk)=lay at lp lf ll
    obtain ⟨es1,t1,wd,gv⟩:=lay
    dsimp only at lp lf ll ⊢
    have s1:es1.size=es.size + 1:=by simpa using lp.length_eq
    rw [Array.toList_push] at lp
    have hel1:ElemsOf (PySem.strKind prog w) es1.toList:=(hel.push kx rfl).perm lp
    have hen0:StrsAre ((es.toList ++ [((PySem.strKind prog w).hash x,Value.str x tk)]).map (·.2)) (ns ++ [x]):=by
      rw [List.map_append]
      exact StrsAre.append' hen (.cons x tk .nil)
    obtain ⟨ms,hen1,hp1⟩:=Eb (lp.map (·.2)) hen0
    have hp2:ms.Perm (ks ++ [x]):=hp1.trans (hp.append_right [x])
    have wrap:∀ (es2:Array (Int × Value)) (t2:SetTable) (h':Heap) (o2:Obj) (ep2:Nat) (n2:Nat),Heap.SameBut a s.heap h'->h'.get? a=some { o with data:=.set es2 ep2 t2 }->es2.toList.Perm es1.toList->t2.fits es2.size=true->t2.led=t.led->t2.plain=false->Q true { s with heap:=h',toks:=n2 }:=fun es2 t2 h' o2 ep2 n2 sb g pm f l pl=>by
      obtain ⟨ls,hen2,hp3⟩:=Eb (pm.map (·.2)) hen1
      exact q _ _ _ sb ⟨_,es2,ep2,t2,g,hex,rfl,hel1.perm pm,⟨ls,hen2,hp3.trans hp2⟩,f,l.trans hled,fun _=>pl⟩
    have off:∀ n,t1.fits n=true->({ t1 with plain:=false }:SetTable).fits n=true:=fun n h=>SetTable.fits_plain_off h
    cases gv
    all_goals
      first
        | refine wpAny_bind (wpAny_pure ?_)
        | refine wpAny_bind (wpAny_rule ?_)
      by_cases e:t1.plain=true
      . rw [if_pos e,hashByValue_scannable 8 (x:=.str x tk) rfl]
        refine wpAny_bind (wpAny_pure ?_)
        have pk:plainKind (.str x tk)=false:=rfl
        rw [pk]
        simp only [Bool.false_eq_true,↓reduceIte]
        have fl:({ t1 with plain:=false }:SetTable).fits es1.size=true /\ ({ t1 with plain:=false }:SetTable).led=t.led /\ ({ t1 with plain:=false }:SetTable).plain=false:=⟨off _ lf,ll,rfl⟩
        generalize ({ t1 with plain:=false }:SetTable)=t2 at fl
        wtm_at "own own_tail"
      . rw [if_neg e]
        refine wpAny_bind (wpAny_pure ?_)
        simp only [↓reduceIte]
        have fl:t1.fits es1.size=true /\ t1.led=t.led /\ t1.plain=false:=⟨lf,ll,by simpa using e⟩
        generalize t1=t2 at fl
        wtm_at "own own_tail"
end
end Xt
set_option maxHeartbeats 2000000
namespace Xt
open PySem PySem.Spec PyProof.Rows Sem L2 Ht
section
variable {prog:Program} {w:World} {A:Around} {E:Value->Shared->Prop} {s:Shared}
theorem LF {I l S:Addr} {its:List Value} {ss:List Str} (hh:A.in1.handled=none) (hlI:l ≠ I) (hSI:S ≠ I) (hSl:S ≠ l) (rv:StrsAre its ss) (room:ss.length + 1 < scanBound) {R:Result->Shared->Prop} :
    ∀ (m i:Nat) (s:Shared),ss.length - i=m->i <= ss.length->s.heap.IsListIter I l i->s.heap.IsList l its.toArray->SetT prog w s.heap S (Av (ss.take i))->
      (∀ h' tk,(∀ c o,c ≠ S->c ≠ I->s.heap.get? c=some o->h'.get? c=some o)->SetT prog w h' S (Av ss)->R (.ok (.ret .none)) { s with heap:=h',toks:=tk })->
      codeAny (model prog w) A (.builtin "set.update.loop" ⟨[.ref S,.ref I],[]⟩) R s:=by
  have hl:its.toArray.size=ss.length:=by rw [List.size_toArray]; exact rv.length
  have W:=Walks.list (prog:=prog) (w:=w) hh I l hlI its.toArray
  rw [hl] at W
  intro m
  induction m with
  | zero=>
    intro i s hm hi hit hls hS q
    cases (show i=ss.length by omega)
    refine codeAny_builtin PyProof.Rows.F.entry_set_update_loop ?_
    rw [Around.under_plainId PyProof.Rows.F.plain_set_update_loop _]
    refine wpAny_bind (m:=pyNext (.ref I)) (W.done s _ _ ⟨hit,hls⟩ fun h' tk kp=>wpAny_pure ?_)
    rw [List.take_length] at hS
    exact q h' tk (fun c o _ c2 e=>kp c o (by simpa using c2) e) (hS.at fun o e=>kp S o (by simpa using hSI) e)
  | succ m ih=>
    intro i s hm hi hit hls hS q
    have lt:i < ss.length:=by omega
    refine codeAny_builtin PyProof.Rows.F.entry_set_update_loop ?_
    rw [Around.under_plainId PyProof.Rows.F.plain_set_update_loop _]
    refine wpAny_bind (m:=pyNext (.ref I)) (W.item i s _ _ lt ⟨hit,hls⟩ fun v h' tk hv st kp=>?_)
    obtain ⟨t,e⟩:=StrsAre.at rv (List.getElem?_eq_getElem lt)
    have hv':its[i]? = some v:=by simpa using hv
    cases e.symm.trans hv'
    have nb:(if ss[i] ∈ Av (ss.take i) then Av (ss.take i) else Av (ss.take i) ++ [ss[i]])=Av (ss.take (i + 1)):=by
      rw [List.take_succ,List.getElem?_eq_getElem lt,Option.toList_some,Ej]
    have le:=HX (ss.take i)
    rw [List.length_take] at le
    refine wpAny_bind (wpAny_holding (MV (s:={ s with heap:=h',toks:=tk }) (hS.at fun o e=>kp S o (by simpa using hSI) e) (by omega) fun b h2 t2 sb hS2=>?_))
    rw [nb] at hS2
    have k2:∀ c o,c ≠ S->h'.get? c=some o->h2.get? c=some o:=fun c o hc e=>(sb.2 c hc).trans e
    refine wpAny_pure ⟨plainId_quiet PyProof.Rows.F.plain_set_update_loop _,ih (i + 1) _ (by omega) lt (st.1.at fun o e=>k2 I o hSI.symm e) (st.2.at fun o e=>k2 l o hSl.symm e) hS2 fun h3 t3 kp3 hS3=>?_⟩
    exact q h3 t3 (fun c o c1 c2 e=>kp3 c o c1 c2 (k2 c o c1 (kp c o (by simpa using c2) e))) hS3
theorem call_setX {l:Addr} {its:List Value} {ss:List Str} {Q:Value->Shared->Prop} (hh:A.handled=none) (hl:s.heap.IsList l its.toArray) (rv:StrsAre its ss) (room:ss.length + 1 < scanBound)
    (q:∀ h' tk,(∀ c o,s.heap.get? c=some o->h'.get? c=some o)->SetT prog w h' s.heap.objs.size (Av ss)->Q (.ref s.heap.objs.size) { s with heap:=h',toks:=tk }) :
    wpAny (model prog w) A (call (.type "set") [.ref l]) Q E s:=by
  refine Kf PySem.F.called_set (PySem.F.typeCall_set_1 _) (OW (.ref l) (Q:=fun x s₁=>x=.ref s.heap.objs.size /\ s₁={ s with heap:=s.heap.push (Ak !(w.params.followText "set-order")) }) ⟨rfl,rfl⟩) ?_
  rintro x s₁ ⟨rfl,rfl⟩
  generalize hled:(!(w.params.followText "set-order"))=led
  have at_S:(s.heap.push (Ak led)).get? s.heap.objs.size=some (Ak led):=Heap.get?_push_size _ rfl
  have ty:Shared.TypeIs { s with heap:=s.heap.push (Ak led) } (.ref s.heap.objs.size) "set" := ⟨_,at_S,rfl⟩
  have lt:l < s.heap.objs.size:=by
    obtain ⟨o,e,_⟩:=hl
    exact Heap.lt_size e
  have hl1:(s.heap.push (Ak led)).IsList l its.toArray:=hl.push _
  have tyl:Shared.TypeIs { s with heap:=s.heap.push (Ak led) } (.ref l) "list" := hl1.typeIs
  refine ⟨ty,codeAny_call_builtin PySem.F.called_set.init.plain PySem.F.entry_set_init (check_set_init_1 ty ?_)⟩
  have c1:=PySem.F.sub_list_set
  have c2:=PySem.F.sub_list_frozenset
  unfold Builtin.«set.__init__» noKeywords Builtin.Frozenset.updateFrom
  have walk:∀ (A:Around) (E:Value->Shared->Prop) (Q:Value->Shared->Prop),Q (.ref (s.heap.push (Ak led)).objs.size) { s with heap:=(s.heap.push (Ak led)).push { cls:=.type "list_iterator",data:=.fields #[.ref l,.int 0 0] } }->wpAny (model prog w) A (pyIter (.ref l)) Q E { s with heap:=s.heap.push (Ak led) }:=fun A E Q z=>wpAny_pyIter_list hl1 z
  wp_walk using walk
  have sz:(s.heap.push (Ak led)).objs.size=s.heap.objs.size + 1:=Heap.size_push ..
  have far:∀ {c:Addr},c < s.heap.objs.size->c ≠ (s.heap.push (Ak led)).objs.size:=fun z=>by rw [sz]; exact Nat.ne_of_lt (Nat.lt_succ_of_lt z)
  refine LF (l:=l) (ss:=ss) (A:=A.in1.in1) (by simp [hh]) (far lt) (by rw [sz]; exact Nat.ne_of_lt (Nat.lt_succ_self _)) (Nat.ne_of_gt lt) rv room ss.length 0 _ (Nat.sub_zero _) (Nat.zero_le _) ⟨_,Heap.get?_push_size _ rfl,rfl,rfl⟩ (hl1.push _) ?start fun h' tk kp hS=>?fin
  case start=>
    refine ⟨_,#[],0,_,Heap.get?_push_of_some _ at_S,⟨rfl,rfl,rfl⟩,rfl,?_,⟨[],.nil,.refl _⟩,(LA led).fits,hled.symm,fun z=>absurd rfl z⟩
    intro e he
    cases he
  case fin=>
    exact wpAny_pure (wpAny_pure ⟨rfl,q h' tk (fun c o e=>kp c o (Nat.ne_of_lt (Heap.lt_size e)) (far (Heap.lt_size e)) (Heap.get?_push_of_some _ (Heap.get?_push_of_some _ e))) hS⟩)
end
end Xt
set_option maxHeartbeats 2000000
namespace Xt
open PySem PySem.Spec PyProof.Rows Sem L2 Ht
def itD (T S:Addr) (i n ep:Nat):Obj:={ cls:=.type "set_iterator",data:=.fields #[.ref T,.int i 0,.ref S,.int n 0,.int ep 0] }
def plO (ord:List Nat):Obj:={ cls:=.type "tuple",data:=.seq (ord.map fun (i:Nat)=>rawInt i).toArray }
section
variable {prog:Program} {w:World} {A:Around} {E:Value->Shared->Prop} {s:Shared}
theorem Lk {src:Source} {n:Nat} {Q:Nat->Shared->Prop} (hn:n ≠ 0) (h:∀ i d,i < n->Q i { s with drawn:=d }):wpAny (model prog w) A (choose src n) Q E s:=fun Γ p _=>⟨hn,h _ _ (Nat.mod_lt _ (Nat.pos_of_ne_zero hn))⟩
theorem JA {α:Type}:∀ (n:Nat) (xs:List α) (s:Shared) {Q:List α->Shared->Prop},xs.length <= n->(∀ ys d,ys.Perm xs->Q ys { s with drawn:=d })->wpAny (model prog w) A (drawOrder n xs) Q E s
  | 0,xs,s,Q,h,q=>by
    cases xs with
    | nil=>unfold drawOrder; exact wpAny_pure (q [] s.drawn (.refl _))
    | cons x xs=>simp at h
  | n + 1,[],s,Q,_,q=>by unfold drawOrder; exact wpAny_pure (q [] s.drawn (.refl _))
  | n + 1,x :: xs,s,Q,h,q=>by
    unfold drawOrder
    refine wpAny_bind (Lk (by simp) fun i d hi=>?_)
    have e:(x :: xs)[i]? = some (x :: xs)[i]:=List.getElem?_eq_getElem hi
    rw [e]
    dsimp only
    refine wpAny_bind (JA n ((x :: xs).eraseIdx i) _ (by rw [List.length_eraseIdx_of_lt hi]; simp at h ⊢; omega) fun ys d2 p=>wpAny_pure ?_)
    exact q _ d2 ((p.cons _).trans (D5 _ _ _ e))
theorem NP {I T S:Addr} {i n ep:Nat} {Q:Value->Shared->Prop} (hI:s.heap.get? I=some (itD T S i n ep)) (h:Q (.ref I) s):wpAny (model prog w) A (pyIter (.ref I)) Q E s:=by
  have hT:s.TypeIs (.ref I) "set_iterator" := ⟨_,hI,rfl⟩
  refine wpAny_pyIter_slot hT FL (wpAny_call_entry FL hT Iy ?_ (JQ _))
  exact wpAny_pure ⟨_,rfl, "set_iterator",_,hT,si_next.lookup,h⟩
theorem Pf {S:Addr} {ep:Nat} {es:Array (Int × Value)} {t:SetTable} {o:Obj} {Q:Value->Shared->Prop} (ho:s.heap.get? S=some o) (hex:o.ExactSet) (hd:o.data=.set es ep t) (hf:t.fits es.size=true) (nf:w.params.followText "set-order" = false) (np:t.plain=false) (n1:1 < es.size) (n2:es.size <= 1000)
    (h:∀ ord d,ord.Perm (List.range es.size)->Q (.ref (s.heap.objs.size + 1)) { s with drawn:=d,heap:=(s.heap.push (plO ord)).push (itD s.heap.objs.size S 0 es.size ep) }):wpAny (model prog w) A (pyIter (.ref S)) Q E s:=by
  have hT:s.TypeIs (.ref S) "set" := ⟨_,ho,hex.1⟩
  refine wpAny_pyIter_slot hT PySem.F.slot_set_iter (wpAny_call_entry PySem.F.slot_set_iter hT Iz ?_ (PySem.F.args_set_iter_1 _))
  unfold Builtin.«frozenset.__iter__» Builtin.Frozenset.slot0 Builtin.Frozenset.sizeOf setEntries setDrawn setsByText
  refine wpAny_bind (wpAny_bind (wpAny_of_eq (a:=(Value.ref S,[])) rfl (wpAny_pure ?_)))
  refine wpAny_bind (wpAny_bind (wpAny_bind (wpAny_setState_of ho hd hf (wpAny_pure (wpAny_pure ?_)))))
  refine wpAny_bind (wpAny_bind (wpAny_setState_of ho hd hf ?_))
  dsimp only
  refine wpAny_bind (wpAny_bind (wpAny_askSetting (wpAny_pure (wpAny_pure ?_))))
  dsimp only
  have e0:(!(w.params.followText "set-order") && (!t.plain && decide (es.size > 1)))=true:=by rw [nf,np]; simp [n1]
  split
  . refine wpAny_bind (JA es.size (List.range es.size) s (by simp) fun ord d p=>?_)
    have ol:ord.length <= 1000:=by rw [p.length_eq,List.length_range]; exact n2
    refine wpAny_bind (wpAny_newTuple ?_ (by rw [List.length_map,sizeLine_eq]; omega))
    refine wpAny_bind (wpAny_setEpoch_of (Heap.get?_push_of_some _ ho) hd hf ?_)
    unfold newFields
    refine wpAny_bind (wpAny_newObj_type ?_)
    have sz:(s.heap.push (plO ord)).objs.size=s.heap.objs.size + 1:=Heap.size_push ..
    refine wpAny_pure ⟨_,rfl, "set_iterator",_,⟨_,Heap.get?_push_size _ rfl,rfl⟩,si_next.lookup,?_⟩
    have:=h ord d p
    rw [← sz] at this
    exact this
  . rename_i z
    exact absurd e0 z
theorem NQ {I T S:Addr} {i j ep:Nat} {ord:List Nat} {es:Array (Int × Value)} {t:SetTable} {o:Obj} {Q:Option Value->Shared->Prop} {x:Int × Value} (hI:s.heap.get? I=some (itD T S i es.size ep)) (hT:s.heap.get? T=some (plO ord)) (ho:s.heap.get? S=some o) (hd:o.data=.set es ep t) (hf:t.fits es.size=true)
    (hj:ord[i]? = some j) (hx:es[j]? = some x)
    (q:∀ h',h'.get? I=some (itD T S (i + 1) es.size ep)->Heap.SameBut I s.heap h'->Q (some x.2) { s with heap:=h' }) :
    wpAny (model prog w) A (pyNext (.ref I)) Q E s:=by
  have hTy:s.TypeIs (.ref I) "set_iterator" := ⟨_,hI,rfl⟩
  unfold pyNext
  refine wpAny_bind (wpAny_attempt (wpAny_callSpecial?_slot (name:=Str.ofString "__next__") hTy si_next (wpAny_call_entry si_next hTy ES ?_ (EW _))))
  unfold Builtin.«set_iterator.__next__»
  refine wpAny_bind (wpAny_of_eq (a:=(Value.ref I,[])) rfl ?_)
  refine wpAny_bind (wpAny_fieldsOf hI rfl ?_)
  dsimp only
  unfold setEntries
  refine wpAny_bind (wpAny_bind (wpAny_setState_of ho hd hf (wpAny_pure ?_)))
  dsimp only
  have e0:((es.size:Int) != (es.size:Int))=false:=by simp
  rw [e0,if_neg Bool.false_ne_true]
  simp only [Int.toNat_natCast]
  refine wpAny_bind (wpAny_seqItems hT rfl ?_)
  dsimp only
  have pj:(ord.map fun (i:Nat)=>rawInt i).toArray[i]? = some (.int (j:Int) 0):=by simp [hj,rawInt]
  rw [pj]
  dsimp only
  unfold setNextDrawn
  refine wpAny_bind (wpAny_bind (wpAny_setState_of ho hd hf ?_))
  dsimp only
  have e1:(ep != ep)=false:=by simp
  rw [e1,if_neg Bool.false_ne_true,Int.toNat_natCast,hx]
  refine wpAny_pure ?_
  refine wpAny_bind (wpAny_setField_rec hI (by simp) fun h1 g1 s1=>?_)
  refine wpAny_pure ⟨_,rfl,wpAny_pure (q h1 ?_ s1)⟩
  rw [g1]
  simp [itD,rawInt]
theorem Pg {I T S:Addr} {i ep:Nat} {ord:List Nat} {es:Array (Int × Value)} {t:SetTable} {o:Obj} {Q:Option Value->Shared->Prop} (hh:A.handled=none) (hI:s.heap.get? I=some (itD T S i es.size ep)) (hT:s.heap.get? T=some (plO ord)) (ho:s.heap.get? S=some o) (hd:o.data=.set es ep t) (hf:t.fits es.size=true)
    (hj:ord[i]? = none) (q:∀ h',(∀ b o,b ≠ I->s.heap.get? b=some o->h'.get? b=some o)->Q none { s with heap:=h' }) :
    wpAny (model prog w) A (pyNext (.ref I)) Q E s:=by
  have hTy:s.TypeIs (.ref I) "set_iterator" := ⟨_,hI,rfl⟩
  unfold pyNext
  refine wpAny_bind (wpAny_attempt (wpAny_callSpecial?_slot (name:=Str.ofString "__next__") hTy si_next (wpAny_call_entry si_next hTy ES ?_ (EW _))))
  unfold Builtin.«set_iterator.__next__»
  refine wpAny_bind (wpAny_of_eq (a:=(Value.ref I,[])) rfl ?_)
  refine wpAny_bind (wpAny_fieldsOf hI rfl ?_)
  dsimp only
  unfold setEntries
  refine wpAny_bind (wpAny_bind (wpAny_setState_of ho hd hf (wpAny_pure ?_)))
  dsimp only
  have e0:((es.size:Int) != (es.size:Int))=false:=by simp
  rw [e0,if_neg Bool.false_ne_true]
  simp only [Int.toNat_natCast]
  refine wpAny_bind (wpAny_seqItems hT rfl ?_)
  dsimp only
  have pj:(ord.map fun (i:Nat)=>rawInt i).toArray[i]? = none:=by simp at hj ⊢; exact hj
  rw [pj]
  dsimp only
  refine wpAny_bind (wpAny_setField_rec hI (by simp) fun h1 g1 s1=>?_)
  refine wpAny_bind (wpAny_setField_rec g1 (by simp) fun h2 g2 s2=>?_)
  refine Fo (A:=A.in1) (s:={ s with heap:=h2 }) hh fun a h' k ty=>?_
  refine wpAny_bind (wpAny_isInstance (T := "StopIteration") (b:=true) ty isSubtype_stop ?_)
  exact wpAny_pure (q h' fun b o hb e=>k b o (s2.extBut b o hb (s1.extBut b o hb e)))
theorem Ql {I T S:Addr} {ep:Nat} {ord:List Nat} {es:Array (Int × Value)} {t:SetTable} {o:Obj} (hh:A.handled=none) (hSI:S ≠ I) (hTI:T ≠ I) (hd:o.data=.set es ep t) (hf:t.fits es.size=true) (hp:ord.Perm (List.range es.size)) :
    Walks prog w A I [I,S,T] [I] es.size (fun i v=>∃ j e,ord[i]? = some j /\ es[j]? = some e /\ v=e.2) (fun i h=>h.get? I=some (itD T S i es.size ep) /\ h.get? S=some o /\ h.get? T=some (plO ord)) where
  sub:=fun b hb=>by simp at hb; simp [hb]
  frame:=fun i h h' st k=>⟨k I (by simp) _ st.1,k S (by simp) _ st.2.1,k T (by simp) _ st.2.2⟩
  item:=fun i s Q E hi st q=>by
    have ol:ord.length=es.size:=by rw [hp.length_eq,List.length_range]
    have e1:ord[i]? = some (ord[i]'(by omega)):=by simp [ol,hi]
    have lt:ord[i]'(by omega) < es.size:=List.mem_range.mp (hp.mem_iff.mp (List.getElem_mem (by omega)))
    have e2:es[ord[i]'(by omega)]? = some (es[ord[i]'(by omega)]):=by simp [lt]
    refine NQ st.1 st.2.2 st.2.1 hd hf e1 e2 fun h' g sb=>?_
    exact q _ h' s.toks ⟨_,_,e1,e2,rfl⟩ ⟨g,(sb.2 S hSI).trans st.2.1,(sb.2 T hTI).trans st.2.2⟩ fun b o hb e=>(sb.2 b (by simpa using hb)).trans e
  done:=fun s Q E st q=>by
    have ol:ord.length=es.size:=by rw [hp.length_eq,List.length_range]
    refine Pg hh st.1 st.2.2 st.2.1 hd hf (by simp [ol]) fun h' k=>?_
    exact q h' s.toks fun b o hb e=>k b o (by simpa using hb) e
  self:=fun i s Q E st h=>NP st.1 h
end
end Xt
set_option maxHeartbeats 2000000
namespace Xt
open PySem PySem.Spec PyProof.Rows Sem L2 Ht
section
variable {prog:Program} {w:World} {A:Around} {E:Value->Shared->Prop} {s:Shared}
theorem Jr {ord:List Nat} {es:Array (Int × Value)} {acc:Array Value} (it:ItemsOf (fun i v=>∃ j e,ord[i]? = some j /\ es[j]? = some e /\ v=e.2) acc es.size) (hp:ord.Perm (List.range es.size)):acc.toList.Perm (es.toList.map (·.2)):=by
  have ol:ord.length=es.size:=by rw [hp.length_eq,List.length_range]
  have e1:acc.toList=ord.map fun j=>(es.toList.map (·.2)).getD j .none:=by
    refine List.ext_getElem? fun i=>?_
    by_cases hi:i < acc.size
    . obtain ⟨j,e,h1,h2,h3⟩:=it.2 i acc[i] (by simp [hi])
      have e0:acc.toList[i]? = some acc[i]:=by simp [hi]
      rw [e0,List.getElem?_map,h1]
      simp [h2,h3]
    . have h1:=it.1
      rw [List.getElem?_eq_none (by simp; omega),List.getElem?_eq_none (by simp; omega)]
  have e2:(List.range es.size).map (fun j=>(es.toList.map (·.2)).getD j .none)=es.toList.map (·.2):=by
    refine List.ext_getElem? fun i=>?_
    by_cases hi:i < es.size
    . simp [hi]
    . rw [List.getElem?_eq_none (by simp; omega),List.getElem?_eq_none (by simp; omega)]
  rw [e1]
  exact (hp.map _).trans (by rw [e2])
theorem Nn {S:Addr} {ep:Nat} {es:Array (Int × Value)} {t:SetTable} {o:Obj} {R:List Value->Shared->Prop} (hh:A.handled=none) (ho:s.heap.get? S=some o) (hex:o.ExactSet) (hd:o.data=.set es ep t) (hf:t.fits es.size=true) (nf:w.params.followText "set-order" = false) (np:t.plain=false) (n1:1 < es.size) (n2:es.size <= 1000)
    (q:∀ h' tk d (acc:List Value),(∀ b o,s.heap.get? b=some o->h'.get? b=some o)->acc.Perm (es.toList.map (·.2))->R acc { s with heap:=h',toks:=tk,drawn:=d }):wpAny (model prog w) A (collect (.ref S)) R E s:=by
  unfold collect
  refine wpAny_bind (wpAny_runValue (codeAny_builtin entry_proto_collect' ?_))
  rw [Around.under_plainId PySem.F.plain_proto_collect _]
  unfold Builtin.«proto.collect»
  wp_walk
  refine ⟨plainId_quiet PySem.F.plain_list_iadd _,codeAny_builtin entry_list_iadd' ?_⟩
  rw [Around.under_plainId PySem.F.plain_list_iadd _]
  obtain ⟨h1,e1⟩:∃ h1,h1=s.heap.push { cls:=.type "list",data:=.seq #[] }:=⟨_,rfl⟩
  have sz:h1.objs.size=s.heap.objs.size + 1:=by rw [e1]; exact Heap.size_push ..
  have hL:h1.get? s.heap.objs.size=some { cls:=.type "list",data:=.seq #[] }:=by rw [e1]; exact Heap.get?_push_size _ rfl
  have hS:h1.get? S=some o:=by rw [e1]; exact Heap.get?_push_of_some _ ho
  have old:∀ b o,s.heap.get? b=some o->h1.get? b=some o:=fun b o e=>by rw [e1]; exact Heap.get?_push_of_some _ e
  have ltS:=Heap.lt_size ho
  rw [← e1]
  have tS:Shared.TypeIs { s with heap:=h1 } (.ref S) "set" := ⟨_,hS,hex.1⟩
  have iter:∀ (A:Around) (E:Value->Shared->Prop) (Q:Value->Shared->Prop),(∀ ord d,ord.Perm (List.range es.size)->Q (.ref (h1.objs.size + 1)) { s with drawn:=d,heap:=(h1.push (plO ord)).push (itD h1.objs.size S 0 es.size ep) })->wpAny (model prog w) A (pyIter (.ref S)) Q E { s with heap:=h1 }:=fun A E Q z=>Pf (s:={ s with heap:=h1 }) hS hex hd hf nf np n1 n2 z
  unfold Builtin.«list.__iadd__»
  wp_walk using iter
  have ne:Builtin.List.listSameRef (.ref s.heap.objs.size) (.ref S)=false:=by
    simp [Builtin.List.listSameRef]
    exact fun z=>absurd ltS (by rw [← z]; exact Nat.lt_irrefl _)
  rw [ne,if_neg (by decide)]
  refine wpAny_bind (iter _ _ _ fun ord d p=>?_)
  have sz2:(h1.push (plO ord)).objs.size=h1.objs.size + 1:=Heap.size_push ..
  have up:∀ b o,h1.get? b=some o->((h1.push (plO ord)).push (itD h1.objs.size S 0 es.size ep)).get? b=some o:=fun b o e=>Heap.get?_push_of_some _ (Heap.get?_push_of_some _ e)
  have hI:((h1.push (plO ord)).push (itD h1.objs.size S 0 es.size ep)).get? (h1.objs.size + 1)=some (itD h1.objs.size S 0 es.size ep):=by
    rw [← sz2]
    exact Heap.get?_push_size _ rfl
  have hT:((h1.push (plO ord)).push (itD h1.objs.size S 0 es.size ep)).get? h1.objs.size=some (plO ord):=Heap.get?_push_of_some _ (Heap.get?_push_size _ rfl)
  generalize (h1.push (plO ord)).push (itD h1.objs.size S 0 es.size ep)=h2 at up hI hT
  refine wpAny_bind (wpAny_holding (IK (s:={ s with drawn:=d,heap:=h2 }) ⟨_,up _ _ hS,hex.1⟩ ?_))
  rw [if_pos (by decide +kernel)]
  refine wpAny_bind (wpAny_rule ?_)
  unfold Builtin.List.listTouch
  have hL2:=up _ _ hL
  wp_walk
  have f1:=Heap.get?_update_self (Obj.mapSeq fun x=>x.push Value.none) hL2 rfl
  have f2:=Heap.get?_update_self (Obj.mapSeq fun x=>x.pop) f1 rfl
  have far:∀ b o,b ≠ s.heap.objs.size->h2.get? b=some o->((h2.update s.heap.objs.size (Obj.mapSeq fun x=>x.push Value.none)).update s.heap.objs.size (Obj.mapSeq fun x=>x.pop)).get? b=some o:=fun b o hb e=>(Heap.get?_update_other _ _ (Ne.symm hb)).trans ((Heap.get?_update_other _ _ (Ne.symm hb)).trans e)
  generalize (h2.update s.heap.objs.size (Obj.mapSeq fun x=>x.push Value.none)).update s.heap.objs.size (Obj.mapSeq fun x=>x.pop)=h3 at f2 far
  have n1:S ≠ h1.objs.size + 1:=Nat.ne_of_lt (by rw [sz]; exact Nat.lt_succ_of_lt (Nat.lt_succ_of_lt ltS))
  have n2':h1.objs.size ≠ h1.objs.size + 1:=Nat.ne_of_lt (Nat.lt_succ_self _)
  have n3:S ≠ s.heap.objs.size:=Nat.ne_of_lt ltS
  have n4:h1.objs.size ≠ s.heap.objs.size:=Nat.ne_of_gt (by rw [sz]; exact Nat.lt_succ_self _)
  have n5:h1.objs.size + 1 ≠ s.heap.objs.size:=Nat.ne_of_gt (by rw [sz]; exact Nat.lt_succ_of_lt (Nat.lt_succ_self _))
  have W:=Ql (prog:=prog) (w:=w) (A:=A.in1) (I:=h1.objs.size + 1) (T:=h1.objs.size) (S:=S) (ep:=ep) (by simp [hh]) n1 n2' hd hf p
  refine ⟨plainId_quiet PySem.F.plain_extend_loop _,codeAny_extend_loopS W.toS (by rw [sizeLine_eq]; omega) s.heap.objs.size (by simp [n3.symm,n4.symm,n5.symm]) _ es.size 0 _ #[] _ rfl (Nat.zero_le _) ⟨far _ _ n5 hI,far _ _ n3 (up _ _ hS),far _ _ n4 hT⟩ f2 (ItemsOf.nil _) fun s' acc' c' hm hS' hacc=>?_⟩
  dsimp only
  refine wpAny_bind (wpAny_load hS' (wpAny_pure ?_))
  rw [Moved.eq_with hm]
  refine q s'.heap s'.toks d acc'.toList (fun b o e=>hm.heap b o (fun z=>?_) (far _ _ (Nat.ne_of_lt (Heap.lt_size e)) (up _ _ (old b o e)))) (Jr hacc p)
  have lt:=Heap.lt_size e
  rcases List.mem_cons.mp z with z | z
  . rw [z] at lt
    exact Nat.lt_irrefl _ lt
  . rw [List.mem_singleton.mp z,sz] at lt
    exact absurd lt (Nat.not_lt.mpr (Nat.le_succ_of_le (Nat.le_succ _)))
end
end Xt
set_option maxHeartbeats 2000000
namespace Xt
open PySem PySem.Spec PyProof.Rows Sem L2 Ht
theorem Of {xs:Array Nat} (h:xs.size <= 1):Ris xs.toList:=by
  obtain ⟨l⟩:=xs
  match l,h with
  | [],_=>exact List.Pairwise.nil
  | [x],_=>exact List.pairwise_singleton _ _
  | _ :: _ :: _,h=>simp at h
section
variable {prog:Program} {w:World} {A:Around} {E:Value->Shared->Prop} {s:Shared}
theorem Nm {S:Addr} {ks:List Str} {R:List Value->Shared->Prop} (hh:A.handled=none) (hS:SetT prog w s.heap S ks) (hk:ks.length <= 1000)
    (q:∀ h' tk d (acc:List Value) ms,(∀ b o,s.heap.get? b=some o->h'.get? b=some o)->StrsAre acc ms->ms.Perm ks->R acc { s with heap:=h',toks:=tk,drawn:=d }):wpAny (model prog w) A (collect (.ref S)) R E s:=by
  obtain ⟨o,es,ep,t,ho,hex,hd,hel,⟨ns,hen,hp⟩,hfit,hled,hpl⟩:=hS
  have hsz:=Gi hen hp
  have fin:∀ h' tk d (acc:List Value),(∀ b o,s.heap.get? b=some o->h'.get? b=some o)->acc.Perm (es.toList.map (·.2))->R acc { s with heap:=h',toks:=tk,drawn:=d }:=fun h' tk d acc k p=>by
    obtain ⟨ms,m1,m2⟩:=Eb p hen
    exact q h' tk d acc ms k m1 (m2.trans hp)
  by_cases dr:w.params.followText "set-order" = false /\ 1 < es.size
  . exact Nn hh ho hex hd hfit dr.1 (hpl (by omega)) dr.2 (by omega) fin
  . have pz:t.place.size=es.size:=by
      have z:=hfit
      unfold SetTable.fits at z
      simp only [Bool.and_eq_true,beq_iff_eq] at z
      exact z.1
    have T:Wt w t es.size:=by
      refine ⟨hfit,fun nf=>?_⟩
      have le:es.size <= 1:=Nat.not_lt.mp fun z=>dr ⟨nf,z⟩
      exact ⟨Of (by omega),by rw [decide_eq_false (by omega)]; simp⟩
    refine PySem.W.kdu_collect (A:=A) (OT (S:=S) hex hd T hled) hh ho (by rw [sizeLine_eq]; omega) fun h1 t1 acc k1 it=>?_
    have hacc:acc.toList=(wv w S ep es).toList.map (·.2):=by
      refine List.ext_getElem? fun i=>?_
      by_cases hi:i < acc.size
      . obtain ⟨e,h1,h2⟩:=it.2 i acc[i] (by simp [hi])
        have:acc.toList[i]? = some acc[i]:=by simp [hi]
        rw [this,h2,List.getElem?_map,Array.getElem?_toList,h1]
        rfl
      . have h1:=it.1
        have h2:=FG w S ep es
        rw [List.getElem?_eq_none (by simp; omega),List.getElem?_eq_none (by simp; omega)]
    exact fin h1 t1 s.drawn acc.toList k1 (by rw [hacc]; exact (J7 w S ep es).map _)
theorem II {S:Addr} {ks:List Str} {Q:Value->Shared->Prop} (hh:A.handled=none) (h64:ks.length < 64) (hS:SetT prog w s.heap S ks)
    (q:∀ (h1 h':Heap) tk d c (out:Array Value) ms,(∀ b o,s.heap.get? b=some o->h1.get? b=some o)->(∀ b o,h1.get? b=some o->h'.get? b=some o)->h'.get? h1.objs.size=some (seqObj "list" out c)->StrsAre out.toList ms->ms.Perm ks->sortedS ms=true->Q (.ref h1.objs.size) { s with heap:=h',toks:=tk,drawn:=d }) :
    wpAny (model prog w) A (call (.builtin "sorted") [.ref S]) Q E s:=by
  refine Calls.call_function_entry kind_sorted plain_sorted entry_sorted (args_sorted1 _) ?_
  unfold Builtin.«sorted»
  refine wpAny_bind (wpAny_of_eq (a:=()) rfl ?_)
  refine wpAny_bind (Nm (A:=A.in1) hh hS (by omega) fun h1 t1 d acc ms k1 im pm=>?_)
  have hlen:acc.length < 64:=by rw [im.length,pm.length_eq]; exact h64
  refine wpAny_bind (wpAny_newList ?_ (by rw [sizeLine_eq]; omega))
  have hL:(h1.push (seqObj "list" acc.toArray 0)).get? h1.objs.size=some (seqObj "list" acc.toArray 0):=Heap.get?_push_size _ rfl
  have kL:∀ b o,h1.get? b=some o->(h1.push (seqObj "list" acc.toArray 0)).get? b=some o:=fun b o e=>Heap.get?_push_of_some _ e
  refine wpAny_bind (wpAny_holding (wpAny_call_entry slot_list_sort ⟨_,hL,rfl⟩ entry_list_sort (list_sort_treeK strKind_oneLt hL im.keysOf (fun v₁ v₂ rest e=>keyKind_strs (by rw [← e]; exact im)) hlen fun st' hp hs=>⟨_,rfl,?_⟩) (args_list_sort _)))
  obtain ⟨ss',a1,a2,a3⟩:=sorted_out_str im hp hs
  obtain ⟨c,hc⟩:=sortedHeap_at (out:=(arrOf st').map (·.2)) hL
  exact wpAny_pure ⟨_,rfl,q h1 _ _ d c _ ss' k1 (fun b o e=>by rw [sortedHeap_old (Nat.ne_of_lt (Heap.lt_size e)) (Heap.lt_size (kL b o e))]; exact kL b o e) hc a1 (a2.trans pm) a3⟩
end
abbrev sl (x:Str):List Nat:=x.cps.toList
theorem Qv {x y:Str} (h:sl x=sl y):x=y:=by
  obtain ⟨⟨a⟩⟩:=x
  obtain ⟨⟨b⟩⟩:=y
  have h:a=b:=h
  rw [h]
theorem MP {x y:Str} (h : ¬ sl x < sl y) (n:x ≠ y):sl y < sl x:=by
  refine Classical.byContradiction fun z=>n (Qv (List.le_antisymm ?_ ?_))
  . exact List.not_lt.mp z
  . exact List.not_lt.mp h
def FE (x:Str):List Str->List Str
  | []=>[x]
  | y :: ys=>if sl x < sl y then x :: y :: ys else if x=y then y :: ys else y :: FE x ys
def Ck (xs:List Str):List Str:=xs.foldr FE []
theorem F7 (x k:Str):∀ ys:List Str,k ∈ FE x ys ↔ k=x ∨ k ∈ ys
  | []=>by simp [FE]
  | y :: ys=>by
    unfold FE
    split
    . simp
    . split
      . rename_i e
        subst e
        simp
      . rw [List.mem_cons,F7 x k ys,List.mem_cons]
        constructor <;> (intro z; rcases z with z | z | z <;> simp [z])
theorem Kn (x:Str):∀ {ys:List Str},ys.Pairwise (fun a b=>sl a < sl b)->(FE x ys).Pairwise fun a b=>sl a < sl b
  | [],_=>by simp [FE]
  | y :: ys,h=>by
    obtain ⟨h1,h2⟩:=List.pairwise_cons.mp h
    unfold FE
    split
    . rename_i hx
      exact List.pairwise_cons.mpr ⟨fun z hz=>(List.mem_cons.mp hz).elim (fun e=>e ▸ hx) fun m=>List.lt_trans hx (h1 z m),h⟩
    . rename_i hx
      split
      . exact h
      . rename_i ne
        refine List.pairwise_cons.mpr ⟨fun z hz=>?_,Kn x h2⟩
        rcases (F7 x z ys).mp hz with rfl | m
        . exact MP hx ne
        . exact h1 z m
theorem Fg (xs:List Str) (k:Str):k ∈ Ck xs ↔ k ∈ xs:=by
  unfold Ck
  induction xs with
  | nil=>simp
  | cons x xs ih=>rw [List.foldr_cons,F7,ih,List.mem_cons]
theorem HJ (xs:List Str):(Ck xs).Pairwise fun a b=>sl a < sl b:=by
  unfold Ck
  induction xs with
  | nil=>exact .nil
  | cons x xs ih=>exact Kn x ih
theorem P4 {α:Type} {r:α->α->Prop} (asym:∀ x y,r x y->r y x->False):∀ {xs ys:List α},xs.Pairwise r->ys.Pairwise r->xs.Perm ys->xs=ys
  | [],ys,_,_,p=>p.nil_eq
  | x :: xs,[],_,_,p=>by cases p.length_eq
  | x :: xs,y :: ys,a,b,p=>by
    obtain ⟨a1,a2⟩:=List.pairwise_cons.mp a
    obtain ⟨b1,b2⟩:=List.pairwise_cons.mp b
    have e:x=y:=by
      rcases List.mem_cons.mp (p.mem_iff.mp List.mem_cons_self) with z | z
      . exact z
      . rcases List.mem_cons.mp (p.mem_iff.mpr List.mem_cons_self) with z2 | z2
        . exact z2.symm
        . exact (asym x y (a1 y z2) (b1 x z)).elim
    subst e
    rw [P4 asym a2 b2 p.cons_inv]
theorem Px:∀ (p:Str) (l:List Str),risingS p l=true->(p :: l).Pairwise fun a b=>¬ sl b < sl a
  | p,[],_=>List.pairwise_singleton _ _
  | p,x :: r,h=>by
    have h':(!ltCps x.cps.toList p.cps.toList && risingS x r)=true:=h
    rw [Bool.and_eq_true,ltCps_eq] at h'
    have h1 : ¬ sl x < sl p:=by simpa using h'.1
    have ih:=Px x r h'.2
    refine List.pairwise_cons.mpr ⟨fun z hz=>?_,ih⟩
    rcases List.mem_cons.mp hz with rfl | hz
    . exact h1
    . have h2:=(List.pairwise_cons.mp ih).1 z hz
      exact List.not_lt.mpr (List.le_trans (List.not_lt.mp h1) (List.not_lt.mp h2))
theorem OS {ms ns:List Str} (nd:ms.Nodup) (hm:∀ k,k ∈ ms ↔ k ∈ ns) (h:sortedS ms=true):ms=Ck ns:=by
  have up:ms.Pairwise fun a b=>¬ sl b < sl a:=by
    cases ms with
    | nil=>exact .nil
    | cons p l=>exact Px p l h
  have lt:ms.Pairwise fun a b=>sl a < sl b:=(List.pairwise_and_iff.mpr ⟨up,nd⟩).imp fun z=>MP z.1 (Ne.symm z.2)
  have nd2:(Ck ns).Nodup:=(HJ ns).imp fun z e=>by
    rw [e] at z
    exact List.lt_irrefl _ z
  refine P4 (fun x y a b=>List.lt_irrefl _ (List.lt_trans a b)) lt (HJ ns) ((List.perm_ext_iff_of_nodup nd nd2).mpr fun k=>?_)
  rw [hm,Fg]
theorem Fw (xs:List Str):(Av xs).Nodup /\ ∀ k,k ∈ Av xs ↔ k ∈ xs:=by
  suffices h:∀ (xs ys:List Str),ys.Nodup->(xs.foldl (fun ys x=>if x ∈ ys then ys else ys ++ [x]) ys).Nodup /\ ∀ k,k ∈ xs.foldl (fun ys x=>if x ∈ ys then ys else ys ++ [x]) ys ↔ k ∈ ys ∨ k ∈ xs by
    have:=h xs [] List.nodup_nil
    exact ⟨this.1,fun k=>(this.2 k).trans (by simp)⟩
  intro xs
  induction xs with
  | nil=>intro ys nd; exact ⟨nd,fun k=>by simp⟩
  | cons x xs ih=>
    intro ys nd
    rw [List.foldl_cons]
    by_cases z:x ∈ ys
    . rw [if_pos z]
      obtain ⟨a,b⟩:=ih ys nd
      refine ⟨a,fun k=>(b k).trans ?_⟩
      rw [List.mem_cons]
      exact ⟨fun q=>q.elim .inl fun q=>.inr (.inr q),fun q=>q.elim .inl fun q=>q.elim (fun e=>.inl (e ▸ z)) .inr⟩
    . rw [if_neg z]
      obtain ⟨a,b⟩:=ih (ys ++ [x]) (List.nodup_append.mpr ⟨nd,by simp,fun u hu v hv=>by rw [List.mem_singleton.mp hv]; exact fun e=>z (e ▸ hu)⟩)
      refine ⟨a,fun k=>(b k).trans ?_⟩
      rw [List.mem_append,List.mem_singleton,List.mem_cons,or_assoc]
end Xt
namespace L2
open PySem PySem.Spec PyProof.Rows Sem Ht Xt
def OZ (P:Program) (w:World) (p:Addr) (ks:List Str):HO:=.ext fun h=>SetT P w h p ks
theorem KK:∀ {ss:List Str} {us:List Value},Vals (ss.map V.str) us->StrsAre us ss
  | [],us,h=>by cases h; exact .nil
  | s :: ss,us,h=>by
    rw [List.map_cons] at h
    cases h with
    | cons r h=>
      obtain ⟨t,rfl⟩:=r
      exact .cons s t (KK h)
theorem Gg:∀ {us:List Value} {ss:List Str},StrsAre us ss->Vals (ss.map V.str) us
  | _,_,.nil=>.nil
  | _,_,.cons y t h=>.cons ⟨t,rfl⟩ (Gg h)
section
variable {X:Cx}
theorem Inv.draw {pins:List (Addr × Obj)} {σ:List (Option V)} {H:Hp} {s:Shared} (I:Inv X pins σ H s) (d:Drawn):Inv X pins σ H { s with drawn:=d }:=⟨I.ok,I.os,I.bare,I.base,I.loc,I.cell,I.free,I.freeC,I.pin,I.hok,I.len⟩
theorem call_setX (hc:X.calm=true):B7 X (.type "set") (fun xs H Q=>∃ a ss,xs=[.ref a] /\ SqL X.K H a (ss.map V.str) /\ ss.length + 1 < scanBound /\ ∀ p,H p=none->Q (.ref p) (upd H p (OZ X.prog X.w p (Av ss)))):=by
  intro pins s σ H xs us Q I r h
  obtain ⟨a,ss,rfl,ha,room,q⟩:=h
  obtain ⟨u,rfl,ru⟩:=Vals.one r
  cases ru
  obtain ⟨its,rv,pl,hz⟩:=I.list ha
  refine Xt.call_setX (I.ok.hd hc) pl.isList (KK rv) room fun h' tk kp hS=>?_
  refine ⟨.ref s.heap.objs.size,_,I.laid (o:=OZ X.prog X.w s.heap.objs.size (Av ss)) kp (Nat.le_refl _) ?_,rfl,q _ (I.hok.fresh (Nat.le_refl _))⟩
  obtain ⟨o,es,ep,t,e,rest⟩:=id hS
  exact ⟨hS,⟨o,e⟩,fun h1 h2 z k=>z.at k⟩
theorem Jx (hc:X.calm=true):B7 X (.builtin "sorted") (fun xs H Q=>∃ p ss,xs=[.ref p] /\ H p=some (OZ X.prog X.w p (Av ss)) /\ (Av ss).length < 64 /\ ∀ l,H l=none->Q (.ref l) (upd H l (.lst ((Ck ss).map V.str)))):=by
  intro pins s σ H xs us Q I r h
  obtain ⟨p,ss,rfl,hp,h64,q⟩:=h
  obtain ⟨u,rfl,ru⟩:=Vals.one r
  cases ru
  obtain ⟨hS,_⟩:=I.hok p _ hp
  refine II (I.ok.hd hc) h64 hS fun h1 h' tk d c out ms k1 k2 e1 im pm sm=>?_
  obtain ⟨nd,mem⟩:=Fw ss
  have em:=OS (pm.nodup_iff.mpr nd) (fun k=>pm.mem_iff.trans (mem k)) sm
  subst em
  have I1:=I.kept (t':=tk) k1
  have rv:=Gg im
  have I2:=I1.laid (t':=tk) (o:=.lst ((Ck ss).map V.str)) k2 (Nat.le_refl _) ⟨by rw [List.length_map,pm.length_eq,sizeLine_eq]; omega,out.toList,c,rv,e1⟩
  exact ⟨.ref h1.objs.size,_,I2.draw d,rfl,q _ (I1.hok.fresh (Nat.le_refl _))⟩
end
end L2
namespace Mi
open PySem L2 Ht Xt
def Ed (d:D):M D:=bnd (A6 d) fun ds=>fun μ=>match DR ds with
  | some ss=>if ss.length <= 1000 /\ (Av ss).length < 64 then some (.lst ((Ck ss).map D.str),μ) else none
  | none=>none
theorem Ik {K:PySem.W.Frag} {ι:Nat->Addr} {k:Nat} {H:Hp}:∀ ss:List Str,IsL K ι k H (ss.map D.str) (ss.map V.str)
  | []=>IsL.nil
  | n :: r=>by
    rw [List.map_cons,List.map_cons]
    unfold IsL
    exact ⟨_,_,rfl,ofS _,Ik r⟩
section
variable {X:Cx} {e:Expr} {pos p p2 pos2:Pos}
theorem IS {m:Sl->M D} (yl:X.mg "sorted" = none) (ys:X.mg "set" = none) (he:RE X e m) (hc:X.calm=true:=by rfl) (hgl:Gl X "sorted" := by rfl) (hgs:Gl X "set" := by rfl) (hst:D4 e=false:=by rfl) :
    RE X (.Call (.Name "sorted" p) [.Call (.Name "set" p2) [e] [] pos2] [] pos) (mUn Ed m):=by
  have hs:PE X (.Call (.Name "set" p2) [e] [] pos2) _:=C0 (call_setX hc) hgs ys Mi.JJ (DC he.pe Dv (AY hst)) (by decide) (by decide) (AY hst) rfl
  refine RE.wk (Fv (Jx hc) hgl yl PyProof.Rows.boot_sorted (DC hs Dv (AY rfl)) (by decide) (by decide) (AY rfl) rfl) fun σ H Q h=>?_
  obtain ⟨ι,μ,τ,d,μ',R,S,ev,q⟩:=h
  obtain ⟨x,μ1,e1,e2⟩:=AF ev
  obtain ⟨ds,μ2,e3,e4⟩:=AF e2
  refine ⟨ι,μ,τ,x,μ1,R,S,e1,fun ι1 H1 E1 R1 v1 i1=>?_⟩
  obtain ⟨hm,a,vs,rfl,h1,h2⟩:=BZ R1 i1 e3
  subst hm
  cases hx:DR ds with
  | none=>rw [hx] at e4; cases e4
  | some ss=>
    rw [hx] at e4
    have e5:(if ss.length <= 1000 /\ (Av ss).length < 64 then some (D.lst ((Ck ss).map D.str),μ2) else none)=some (d,μ'):=e4
    split at e5
    . rename_i room
      cases e5
      have ev:=Fe h2 hx
      subst ev
      refine ⟨a,ss,rfl,h1,by unfold scanBound; omega,fun p hp=>?_⟩
      obtain ⟨E2,R2⟩:=R1.laid (OZ X.prog X.w p (Av ss)) hp
      exact ⟨p,ss,rfl,At,room.2,fun l hl=>P8 R2 (Ik _) (fun ι' H' E' R'=>q ι' H' ((E1.trans E2).trans E') R') l hl⟩
    . cases e5
end
end Mi
namespace Mi
open PySem L2
section
variable {X:Cx} {scope:Scope} {tgs:List Str} {ix:List Nat} {elt tg iter:Expr} {pos:Pos}
theorem LL (co:Option Expr) {n:Nat} {es:List Expr} {kk:Nat} {tp:Pos} {is:List Nat} {src:Sl->M (List D)} {mc:Sl->M Bool} {me:Sl->M D} (S:BScope X scope tgs ix) (hc:X.calm=true) (hi:RI X (.Tuple es kk tp) iter src) (hg:∀ fp C s H,PGs (cxB X scope tgs fp C s H) es (DZ is)) (hif:∀ fp C s H,Pq (cxB X scope tgs fp C s H) co (tT X.K mc)) (he:∀ fp C s H,RE (cxB X scope tgs fp C s H) elt me)
    (hlen:∀ fp C s H,(assignEach es (cxB X scope tgs fp C s H).env).length=is.length:=by intro _ _ _ _; rfl) (hst:∀ fp C s H,(assignEach es (cxB X scope tgs fp C s H).env).findIdx? (·.1)=none:=by intro _ _ _ _; rfl)
    (hin:∀ i ∈ is,i < tgs.length:=by decide) (hn:tgs.length=n:=by rfl) (hs:∀ x,foldedSetIterable iter X.env x=pure x:=by intro _; rfl):RE X (.ListComp elt [⟨.Tuple es kk tp,iter,co.toList,0⟩] scope pos) (Bj n ix src (EV is) mc me DW):=
  RE.wk (M3 co (te:=tE X.K me) S hc hi.pe (fun fp C s H=>My (X:=cxB X scope tgs fp C s H) hc (hg fp C s H) (hlen fp C s H) (hst fp C s H)) (R6 hin) hif (fun fp C s H=>(he fp C s H).pe) hs) fun _ _ _ h=>MN hn (fun _ _ _ _ h=>Qr h) (fun _ _ _ _ _ _ _ _ R i e q=>FP R i e q) h
end
end Mi
namespace K21
open PySem L2 Mi
def D6:D:=.int (-1)
def GF:D:=.int (-1)
def LB:List (Str × List Str):=[("put",["box", "expression"]),("get",["variable", "box"]),("let",["variable", "expression"]),("unless",["expression", "target"]),("jump",["target"]),("tell",["expression"]),("done",[])]
def HI:Str->Option D:=IG LB
def Bi  : Sl->M (Fl × Sl):=
    (AV (As (mOp Fs (AJ D3 (AD (mOp Ab (AC 0) (mC (.int 4))) AK)) (mC (.int 1))) (AQ 1))
    (AV (sIf (Ag (mOp CI (mOp Ab (AC 0) (mC (.int 0))) (mC (.str "whole")))) (A5 (AJ A2 (AD (AJ A2 (AD (mOp Ab (AC 0) (mC (.int 2))) (AD (mC D6) (AD (mOp DA (AJ A2 (AD (mC D6) AK)) (AC 1)) AK)))) AK))) Bu)
    (A5 (AJ A2 (AD (mOp Ab (AC 0) (mC (.int 2))) (AD (mC D6) (AD (mOp DA (AJ A2 (AD (mC .non) AK)) (AC 1)) AK)))))))
def Ar (φ_variables_in:List D->M D):Sl->M (Fl × Sl):=
    (AV (sIf (Ag (mOp CI (mOp Ab (AC 0) (mC (.int 0))) (mC (.str "num")))) (A5 (AJ BA AK)) Bu)
    (AV (sIf (Ag (mOp CI (mOp Ab (AC 0) (mC (.int 0))) (mC (.str "var")))) (A5 (AJ BA (AD (mOp Ab (AC 0) (mC (.int 1))) AK))) Bu)
    (AV (As (AJ DW AK) (AQ 1))
    (AV (EE (Dz (NH (AC 0) (Ig (mC (.int 1))) Fx)) (AQ 2) (Cb (BL Iw (AC 1) (AD (AJ φ_variables_in (AD (AC 2) AK)) AK))))
    (A5 (AC 1))))))
def BU (φ_variables_in:List D->M D):Sl->M (Fl × Sl):=
    (AV (As (AJ DW AK) (AQ 1))
    (AV (EE (Rp (AD (mUn (QG HI) (mOp Ab (AC 0) (mC (.int 0)))) (AD (NH (AC 0) (Ig (mC (.int 1))) Fx) AK))) (EV [2,3]) (AV (sIf (Ag (mOp CI (AC 2) (mC (.str "variable")))) (Cb (BL Gd (AC 1) (AD (AC 3) AK))) Bu)
    (sIf (Ag (mOp CI (AC 2) (mC (.str "expression")))) (Cb (BL Iw (AC 1) (AD (AJ φ_variables_in (AD (AC 3) AK)) AK))) Bu)))
    (A5 (AC 1))))
def A1 (φ_variables_of:List D->M D):Sl->M (Fl × Sl):=
    (AV (As (AJ DW AK) (AQ 1))
    (AV (EE (Dz (AC 0)) (AQ 2) (Cb (BL Iw (AC 1) (AD (AJ φ_variables_of (AD (AC 2) AK)) AK))))
    (A5 (Bj 1 [] (Dz (mUn Ed (AC 1))) (AQ 0) (Ag (mOp EF (AC 0) (mC (.str "v")))) (AC 0) BA))))
def BJ (φ_variables_of_rows:List D->M D):Sl->M (Fl × Sl):=
    (AV (Dq "Plan" "making" (AC 0) (AC 1))
    (AV (Dq "Plan" "names" (AC 0) (Bj 1 [] (Dz (mOp Ab (AC 1) (mC (.int 4)))) (AQ 0) Ci (mOp Ab (AC 0) (mC (.int 0))) BA))
    (AV (Dq "Plan" "variables" (AC 0) (Bj 1 [] (Dz (mOp Ab (AC 1) (mC (.int 4)))) (AQ 0) Ci (AJ φ_variables_of_rows (AD (mOp Ab (AC 0) (mC (.int 2))) AK)) BA))
    (AV (Dq "Plan" "places" (AC 0) ND)
    (AV (EE (F3 (AD (mOp Ab (AC 1) (mC (.int 3))) AK)) (EV [2,3]) (KN (mUn (Gb "Plan" "places") (AC 0)) (mOp Ab (AC 3) (mC (.int 0))) (AC 2)))
    (AV (Dq "Plan" "ways" (AC 0) ND)
    (Dq "Plan" "claims" (AC 0) ND)))))))
def Bh (φ_Plan___init__:List D->M D) (φ_stand_begun:List D->M D):Sl->M (Fl × Sl):=
    (A5 (AJ φ_stand_begun (AD (AJ (F0 "Plan" φ_Plan___init__) (AD (AC 0) AK)) AK)))
def Ce (φ_Plan___init__:List D->M D) (φ_moves_of:List D->M D):Sl->M (Fl × Sl):=
    (AV (As (AJ (F0 "Plan" φ_Plan___init__) (AD (AC 0) AK)) (AQ 2))
    (A5 (Bj 2 [2] (Dz (AJ φ_moves_of (AD (AC 2) (AD (AC 1) AK)))) (EV [0,1]) Ci (AJ A2 (AD (mOp Ab (mUn (Gb "Plan" "names") (AC 2)) (AC 0)) (AD (AC 1) AK))) DW)))
def Bg (φ_claim_begun:List D->M D):Sl->M (Fl × Sl):=
    (AV (As (Bj 1 [] (Dz (mUn (Gb "Plan" "variables") (AC 0))) (AQ 0) Ci (AJ A2 (AD (mC GF) (AD (mC .non) (AD (mC (.int 0)) (AD (mC (.int 0)) (AD (mOp DA (AJ A2 (AD (mC (.int 0)) AK)) (AJ D3 (AD (AC 0) AK))) AK)))))) BA) (AQ 1))
    (AV (As (Bj 1 [] (Dz (mOp Ab (mUn (Gb "Plan" "making") (AC 0)) (mC (.int 3)))) (AQ 0) Ci (AJ A2 (AD (mOp Ab (AC 0) (mC (.int 3))) (AD (mC D6) AK))) BA) (AQ 2))
    (A5 (AJ A2 (AD (AJ CB (AD (AC 1) AK)) (AD (AJ CB (AD (AC 2) AK)) (AD (AJ φ_claim_begun (AD (mUn (Gb "Plan" "making") (AC 0)) AK)) AK)))))))
def Cg (φ_picks_of:List D->M D):Sl->M (Fl × Sl):=
    (AV (As (AJ DW AK) (AQ 2))
    (AV (EE (F3 (AD (mOp Ab (AC 1) (mC (.int 0))) AK)) (EV [3,4]) (EE (Dz (AJ φ_picks_of (AD (AC 0) (AD (AC 3) (AD (AC 4) AK))))) (AQ 5) (Cb (BL Gd (AC 2) (AD (AJ A2 (AD (AC 3) (AD (AC 5) AK))) AK)))))
    (A5 (AC 2))))
def Cf  : Sl->M (Fl × Sl):=
    (AV (sIf (Ag (mOp CI (mOp Ab (AC 2) (mC (.int 0))) (mC GF))) (A5 (mIf (Ag (mOp CI (AC 1) (mC (.int 0)))) (mUn (IN D.tup) (mOp Ab (mUn (Gb "Plan" "making") (AC 0)) (mC (.int 1)))) (AJ A2 (AD (mC (.int 0)) AK)))) Bu)
    (AV (sIf (HZ (Ag (mOp (S6 true) (mOp Ab (AC 2) (mC (.int 1))) (mC .non))) (Ag (mOp CI (mOp Ab (fun _=>BC) (mC (.int 0))) (mC (.str "get"))))) (A5 (mOp Ab (AC 2) (mC (.int 1)))) Bu)
    (A5 (AJ A2 (AD (mC (.int 0)) AK)))))
def Ch  : Sl->M (Fl × Sl):=
    (AV (sIf (Ag (mOp Jj (AC 1) (AJ D3 (AD (AC 0) AK)))) (A5 (mOp Ab (AC 0) (AC 1))) Bu)
    (A5 (mC (.int 0))))
def C2  : Sl->M (Fl × Sl):=
    (AV (As (AJ DW AK) (AQ 2))
    (AV (sIf (Ag (mOp Q7 (AC 0) (mOp Mo (mC (.int 10)) (mC (.int 40))))) (AV (As (mOp AW (AC 0) (mC (.int 7))) (AQ 3))
    (AV (EE (Dr (AD (AC 1) AK)) (AQ 4) (AV (Cb (BL Gd (AC 2) (AD (mOp Am (AC 3) (mC (.int 10000019))) AK)))
    (As (mOp AW (AC 3) (mC (.int 10000019))) (AQ 3))))
    (A5 (mOp Mf (AC 2) (mUn Ey (mC (.int 1))))))) Bu)
    (AV (As (mOp Am (mOp EG (mOp BE (mOp Am (AC 0) (mC (.int 2147483647))) (mC (.int 1))) (mC (.int 48271))) (mC (.int 2147483647))) (AQ 5))
    (AV (As (mOp Am (mOp EG (mOp BE (mOp Am (AC 0) (mC (.int 1000003))) (mC (.int 1))) (mC (.int 69621))) (mC (.int 2147483629))) (AQ 6))
    (AV (EE (Dr (AD (AC 1) AK)) (AQ 4) (AV (As (mOp BE (mOp BE (mOp Am (mOp EG (AC 5) (mOp BE (mOp AW (AC 5) (mC (.int 1009))) (mC (.int 69621)))) (mC (.int 2147483647))) (AC 4)) (mC (.int 1))) (AQ 5))
    (AV (As (mOp Am (mOp EG (AC 6) (mC (.int 48271))) (mC (.int 2147483629))) (AQ 6))
    (Cb (BL Gd (AC 2) (AD (mOp BE (AC 5) (AC 6)) AK))))))
    (A5 (AC 2)))))))
def Dj (φ_Lexpr:List D->M D):Sl->M (Fl × Sl):=
    (AV (As (mOp Am (mOp AW (AS BN (AC 0)) (mC (.int 3))) (mC (.int 9))) (AQ 3))
    (AV (sIf (mOr (Ag (mOp CI (AC 2) (mC (.int 0)))) (Ag (mOp Jj (AC 3) (mC (.int 4))))) (AV (sIf (Ag (mOp CI (mOp Am (AC 3) (mC (.int 2))) (mC (.int 0)))) (A5 (AJ A2 (AD (mC (.str "num")) (AD (mOp Am (mOp AW (AS BN (AC 0)) (mC (.int 3))) (mC (.int 4))) AK)))) Bu)
    (A5 (AJ A2 (AD (mC (.str "var")) (AD (mOp Ab (AC 1) (mOp Am (mOp AW (AS BN (AC 0)) (mC (.int 3))) (AJ D3 (AD (AC 1) AK)))) AK))))) Bu)
    (AV (sIf (Ag (mOp CI (AC 3) (mC (.int 4)))) (A5 (AJ A2 (AD (mC (.str "not")) (AD (AJ φ_Lexpr (AD (AC 0) (AD (AC 1) (AD (mOp Fs (AC 2) (mC (.int 1))) AK)))) AK)))) Bu)
    (AV (As (mOp Ab (AJ BA (AD (mC (.str "+")) (AD (mC (.str "-")) (AD (mC (.str "=")) (AD (mC (.str "<")) (AD (mC (.str "and")) (AD (mC (.str "or")) (AD (mC (.str "=")) AK)))))))) (mOp Am (mOp AW (AS BN (AC 0)) (mC (.int 3))) (mC (.int 7)))) (AQ 4))
    (AV (As (AJ φ_Lexpr (AD (AC 0) (AD (AC 1) (AD (mOp Fs (AC 2) (mC (.int 1))) AK)))) (AQ 5))
    (A5 (AJ A2 (AD (AC 4) (AD (AC 5) (AD (AJ φ_Lexpr (AD (AC 0) (AD (AC 1) (AD (mOp Fs (AC 2) (mC (.int 1))) AK)))) AK))))))))))
def F2 (φ_Lexpr:List D->M D):Sl->M (Fl × Sl):=
    (AV (As (mOp Ab (AJ BA (AD (AJ BA (AD (mC (.str "x")) (AD (mC (.str "y")) (AD (mC (.str "v")) AK)))) (AD (AJ BA (AD (mC (.str "x")) (AD (mC (.str "y")) AK))) AK))) (AJ NT (AD (mOp LP (AC 1) (mC (.int 0))) AK))) (AQ 4))
    (AV (As (Bj 1 [1] (Kg (AC 2)) (AQ 0) (Ag (mOp CI (mOp Ab (AC 0) (mC (.int 4))) (mOp Ab (mC (.str "wrs")) (AC 1)))) (mOp Ab (AC 0) (mC (.int 0))) BA) (AQ 5))
    (AV (As (mOp Am (mOp AW (AS BN (AC 0)) (mC (.int 3))) (mC (.int 10))) (AQ 6))
    (AV (sIf (HZ (Ag (mOp Jj (AC 6) (mC (.int 4)))) (Ag (mOp EF (AC 5) (AJ BA AK)))) (A5 (AJ A2 (AD (mC (.str "put")) (AD (mOp Ab (AC 5) (mOp Am (mOp AW (AS BN (AC 0)) (mC (.int 3))) (AJ D3 (AD (AC 5) AK)))) (AD (AJ φ_Lexpr (AD (AC 0) (AD (AC 4) (AD (mC (.int 2)) AK)))) AK))))) Bu)
    (AV (sIf (HZ (Ag (mOp Jj (AC 6) (mC (.int 6)))) (Ag (mOp EF (AC 2) (AJ BA AK)))) (A5 (AJ A2 (AD (mC (.str "get")) (AD (mOp Ab (mC (.str "xy")) (mOp Am (mOp AW (AS BN (AC 0)) (mC (.int 3))) (mC (.int 2)))) (AD (mOp Ab (mOp Ab (AC 2) (mOp Am (mOp AW (AS BN (AC 0)) (mC (.int 3))) (AJ D3 (AD (AC 2) AK)))) (mC (.int 0))) AK))))) Bu)
    (AV (sIf (Ag (mOp Jj (AC 6) (mC (.int 8)))) (A5 (AJ A2 (AD (mC (.str "let")) (AD (mOp Ab (mC (.str "xy")) (mOp Am (mOp AW (AS BN (AC 0)) (mC (.int 3))) (mC (.int 2)))) (AD (AJ φ_Lexpr (AD (AC 0) (AD (AC 4) (AD (mC (.int 2)) AK)))) AK))))) Bu)
    (AV (sIf (Ag (mOp CI (AC 6) (mC (.int 8)))) (A5 (AJ A2 (AD (mC (.str "unless")) (AD (AJ φ_Lexpr (AD (AC 0) (AD (AC 4) (AD (mC (.int 2)) AK)))) (AD (mOp Am (mOp AW (AS BN (AC 0)) (mC (.int 3))) (mOp BE (AC 3) (mC (.int 1)))) AK))))) Bu)
    (A5 (AJ A2 (AD (mC (.str "jump")) (AD (mOp Am (mOp AW (AS BN (AC 0)) (mC (.int 3))) (mOp BE (AC 3) (mC (.int 1)))) AK)))))))))))
def EM (φ_Lrow:List D->M D) (φ_Lexpr:List D->M D):Sl->M (Fl × Sl):=
    (AV (As (mOp BE (mC (.int 1)) (mOp Am (mOp AW (AS BN (AC 0)) (mC (.int 3))) (AC 3))) (AQ 4))
    (AV (As (Bj 1 [2,1,4,0] (Dr (AD (AC 4) AK)) (AQ 0) Ci (AJ φ_Lrow (AD (AC 4) (AD (AC 2) (AD (AC 1) (AD (AC 3) AK))))) DW) (AQ 5))
    (AV (sIf (HZ (Ag (mOp LP (AC 1) (mC (.int 0)))) (Ag (mOp LP (mOp Am (mOp AW (AS BN (AC 0)) (mC (.int 3))) (mC (.int 8))) (mC (.int 0))))) (AV (As (Bj 1 [] (Kg (AC 2)) (AQ 0) Ci (mOp Ab (AC 0) (mC (.int 0))) BA) (AQ 6))
    (AV (sIf (HZ (Ag (mOp EF (AC 6) (AJ BA AK))) (Ag (mOp CI (mOp Am (mOp AW (AS BN (AC 0)) (mC (.int 3))) (mC (.int 2))) (mC (.int 0))))) (As (AJ A2 (AD (mC (.str "get")) (AD (mC (.str "x")) (AD (mOp Ab (AC 6) (mOp Am (mOp AW (AS BN (AC 0)) (mC (.int 3))) (AJ D3 (AD (AC 6) AK)))) AK)))) (JL (AC 5) (mC (.int 0)))) Bu)
    (As (AJ A2 (AD (mC (.str "tell")) (AD (mOp Ab (AJ BA (AD (AJ A2 (AD (mC (.str "var")) (AD (mC (.str "x")) AK))) (AD (AJ φ_Lexpr (AD (AC 0) (AD (AJ BA (AD (mC (.str "x")) (AD (mC (.str "y")) AK))) (AD (mC (.int 1)) AK)))) AK))) (mOp AW (mOp Am (mOp AW (AS BN (AC 0)) (mC (.int 3))) (mC (.int 3))) (mC (.int 2)))) AK))) (JL (AC 5) (mUn Ey (mC (.int 1))))))) Bu)
    (AV (sIf (HZ (Ag (mOp CI (AC 1) (mC (.int 0)))) (Ag (mOp CI (mOp Am (mOp AW (AS BN (AC 0)) (mC (.int 3))) (mC (.int 3))) (mC (.int 0))))) (As (AJ A2 (AD (mC (.str "done")) AK)) (JL (AC 5) (mUn Ey (mC (.int 1))))) Bu)
    (A5 (AJ A2 (AD (mOp Ab (mC (.str "wrs")) (AC 1)) (AD (mOp Ab (AJ BA (AD (mC (.int 12)) (AD (mC (.int 12)) (AD (mC (.int 5)) (AD (mC (.int 2)) AK))))) (mOp Am (mOp AW (AS BN (AC 0)) (mC (.int 3))) (mC (.int 4)))) (AD (AJ CB (AD (AC 5) AK)) AK)))))))))
def EL  : Sl->M (Fl × Sl):=
    (A5 (mOp Ab (AJ BA (AD (mC (.str "safe")) (AD (mC (.str "steady")) (AD (mC (.str "whole")) AK)))) (mOp Am (mOp AW (AS BN (AC 0)) (mC (.int 3))) (mC (.int 3)))))
def C3 (φ_Lkind:List D->M D) (φ_Lhand:List D->M D):Sl->M (Fl × Sl):=
    (AV (As (mOp BE (mC (.int 2)) (mOp AW (mOp Am (mOp AW (AS BN (AC 0)) (mC (.int 3))) (mC (.int 3))) (mC (.int 2)))) (AQ 2))
    (AV (As (AJ DW AK) (AQ 3))
    (AV (EE (Dr (AD (mOp Am (mOp AW (AS BN (AC 0)) (mC (.int 3))) (mC (.int 4))) AK)) (AQ 4) (AV (As (mOp BE (mC (.int 2)) (mOp Am (mOp AW (AS BN (AC 0)) (mC (.int 3))) (mC (.int 2)))) (AQ 5))
    (Cb (BL Gd (AC 3) (AD (AJ A2 (AD (mOp Ab (mC (.str "abc")) (AC 4)) (AD (AJ φ_Lkind (AD (AC 0) AK)) (AD (AC 5) (AD (mOp Am (mOp AW (AS BN (AC 0)) (mC (.int 3))) (AC 5)) (AD (mOp Ab (mC (.str "wwr")) (mOp Am (mOp AW (AS BN (AC 0)) (mC (.int 3))) (mC (.int 3)))) AK)))))) AK)))))
    (AV (As (mOp BE (mC (.int 2)) (mOp Am (mOp AW (AS BN (AC 0)) (mC (.int 3))) (mC (.int 2)))) (AQ 5))
    (AV (As (Bj 1 [3,1,0] (Dr (AD (AC 2) AK)) (AQ 0) Ci (AJ φ_Lhand (AD (AC 3) (AD (AC 0) (AD (AC 1) (AD (AC 2) AK))))) BA) (AQ 6))
    (A5 (AJ A2 (AD (AJ φ_Lkind (AD (AC 0) AK)) (AD (AC 5) (AD (mOp Am (mOp AW (AS BN (AC 0)) (mC (.int 3))) (AC 5)) (AD (AJ CB (AD (AC 3) AK)) (AD (AJ CB (AD (AC 6) AK)) AK))))))))))))
def B3 (φ_Lnamed:List D->M D):Sl->M (Fl × Sl):=
    (AV (sIf (Rq (Ag (AJ NU (AD (AC 0) (AD (mC (.ty "tuple")) AK))))) (A5 (AJ BA AK)) Bu)
    (AV (sIf (Ag (mOp CI (NH (AC 0) Fx (Ig (mC (.int 1)))) (AJ A2 (AD (mC (.str "var")) AK)))) (A5 (AJ BA (AD (mOp Ab (AC 0) (mC (.int 1))) AK))) Bu)
    (AV (As (AJ BA AK) (AQ 1))
    (AV (EE (Dz (AC 0)) (AQ 2) (As (mOp BE (AC 1) (AJ φ_Lnamed (AD (AC 2) AK))) (AQ 1)))
    (A5 (AC 1))))))
def Ie (φ_Lcell_at:List D->M D) (φ_Lstream:List D->M D) (φ_Lmaking:List D->M D) (φ_Lnamed:List D->M D) (φ_first_stand:List D->M D) (φ_claim_begun:List D->M D) (φ_steps_of:List D->M D):Sl->M (Fl × Sl):=
    (AV (As (AJ φ_Lstream (AD (AJ φ_Lcell_at (AD (AC 0) (AD (mC (.int 0)) AK))) (AD (mC (.int 500)) AK))) (AQ 1))
    (AV (EE (Dr (AD (mC (.int 2)) AK)) (AQ 2) (AV (As (AJ φ_Lmaking (AD (AC 1) (AD (mC (.int 4)) AK))) (AQ 3))
    (AV (As (AJ DW AK) (AQ 4))
    (AV (As (AJ BA AK) (AQ 5))
    (AV (EE (Dr (AD (AJ D3 (AD (mOp Ab (AC 3) (mC (.int 4))) AK)) AK)) (AQ 6) (AV (As (mOp Ab (mOp Ab (AC 3) (mC (.int 4))) (AC 6)) (EV [7,8,9]))
    (AV (As (mOp BE (AJ φ_Lnamed (AD (AC 9) AK)) (Bj 1 [] (Dz (AC 9)) (AQ 0) (Ag (mOp (Ou false) (mOp Ab (AC 0) (mC (.int 0))) (AJ A2 (AD (mC (.str "get")) (AD (mC (.str "let")) AK))))) (mOp Ab (AC 0) (mC (.int 1))) BA)) (AQ 10))
    (AV (As (mOp Fs (mUn FQ (mOp BE (AC 10) (AJ BA (AD (mC (.str "v")) AK)))) (mC (.int 1))) (AQ 11))
    (AV (Cb (BL Gd (AC 4) (AD (AJ A2 (AD (mUn Ey (mC (.int 1))) (AD (mC .non) (AD (mC (.int 0)) (AD (mC (.int 0)) (AD (mOp DA (AJ A2 (AD (mC (.int 0)) AK)) (AC 11)) AK)))))) AK)))
    (As (mOp BE (AC 5) (Bj 1 [7] (Dr (AD (mOp Ab (AJ BA (AD (mOp Ab (AC 3) (mC (.int 1))) (AD (mC (.int 1)) AK))) (AJ NT (AD (mOp LP (AC 6) (mC (.int 0))) AK))) AK)) (AQ 0) Ci (AJ A2 (AD (AC 1) (AD (AC 0) AK))) BA)) (AQ 5)))))))
    (AV (As (AJ CB (AD (Bj 1 [] (Dz (mOp Ab (AC 3) (mC (.int 3)))) (AQ 0) Ci (AJ A2 (AD (mOp Ab (AC 0) (mC (.int 3))) (AD (mUn Ey (mC (.int 1))) AK))) BA) AK)) (AQ 12))
    (AV (As (AJ φ_first_stand (AD (AC 3) AK)) (AQ 13))
    (AV (sIf (mOr (Ag (mOp EF (AC 13) (AJ A2 (AD (AJ CB (AD (AC 4) AK)) (AD (AC 12) (AD (AJ φ_claim_begun (AD (AC 3) AK)) AK)))))) (Ag (mOp EF (AJ φ_first_stand (AD (AC 3) AK)) (AC 13)))) (A5 (mC (.bl false))) Bu)
    (AV (As (AJ φ_steps_of (AD (AC 3) (AD (AC 13) AK))) (AQ 14))
    (AV (sIf (Ag (mOp EF (AC 14) (AC 5))) (A5 (mC (.bl false))) Bu)
    (AV (Cb (AS Pm (AC 14)))
    (sIf (Ag (mOp EF (AJ φ_steps_of (AD (AC 3) (AD (AC 13) AK))) (AC 5))) (A5 (mC (.bl false))) Bu))))))))))))
    (A5 (mC (.bl true)))))
end K21
namespace K21
open PySem L2 Mi
def EO:List Str:=["making", "names", "variables", "places", "ways", "claims"]
def top (i:Nat):Stmt:=PySem.Challenge.pw_strongboxes_k21_the_first_stand.main.body.getD i (.Pass ⟨0,0,0,0⟩)
section
variable {P:Program} {w:World} {K:PySem.W.Frag} {mg:Str->Option Value} {base:Heap}
abbrev Be:Stmt:=top 3
theorem sc_claim_begun:Ai ["making", "readers"] ["making"] (AH Be):=⟨rfl,rfl,rfl,by decide +kernel,rfl,by decide +kernel,by decide +kernel⟩
theorem GX  {k:Nat} {f:Addr} (y_len:mg "len" = none) (g_NONE:Glo K mg "NONE" D6) (cdv:Value) (A:Around) (outer:List Env) (s:Shared) (H:Hp) (E:XK) (hr:Room k (A.deeper (PyProof.Rows.envOfC "claim_begun" (AH Be) s.heap.objs.size f cdv))) :
    RSs (Bv CX0 P w K mg base ["making", "readers"] "claim_begun" (AH Be) f cdv A outer s H E).nox (AZ Be) (Bi):=by
  have nd:=sc_claim_begun.nd
  exact (AI (Af 1 nd (AL IV (B2 FA y_len Mi.B5 (AB (AX Au (AA 0) AE) AG)) AE))
      (AI (BM (Ae (DV hr) (AX Au (AA 0) AE) AT) (AM (Aa (Ac (AB (Ac (AB (AX Au (AA 0) AE) (AB (Gm g_NONE) (AB (AL HW (Ac (AB (Gm g_NONE) AG)) (AA 1)) AG)))) AG)))) Ap)
      (AM (Aa (Ac (AB (AX Au (AA 0) AE) (AB (Gm g_NONE) (AB (AL HW (Ac (AB HQ AG)) (AA 1)) AG))))))))
abbrev BS:Stmt:=top 5
theorem sc_variables_in:Ai ["expression", "names", "part"] ["expression"] (AH BS):=⟨rfl,rfl,rfl,by decide +kernel,rfl,by decide +kernel,by decide +kernel⟩
theorem Fq {φ_variables_in:List D->M D} {k_variables_in:Nat} {k:Nat} {f:Addr} (F_variables_in:Fn P w K mg base "variables_in" ["expression"] k_variables_in φ_variables_in) (hk_variables_in:k_variables_in <= k) (cdv:Value) (A:Around) (outer:List Env) (s:Shared) (H:Hp) (E:XK) (hr:Room k (A.deeper (PyProof.Rows.envOfC "variables_in" (AH BS) s.heap.objs.size f cdv))) :
    RSs (Bv CX0 P w K mg base ["expression", "names", "part"] "variables_in" (AH BS) f cdv A outer s H E).nox (AZ BS) (Ar φ_variables_in):=by
  have nd:=sc_variables_in.nd
  exact (AI (BM (Ae (DV hr) (AX Au (AA 0) AE) AT) (AM (Aa (BG AG))) Ap)
      (AI (BM (Ae (DV hr) (AX Au (AA 0) AE) AT) (AM (Aa (BG (AB (AX Au (AA 0) AE) AG)))) Ap)
      (AI (Af 1 nd (C9 AG))
      (AI (CM PassesOwn.never rfl (CN (Je (AA 0) (HM AE) HN)) (CS 2 nd) (AM (CF (B1 PySem.F.slot_list_extend PySem.F.type_list_extend F1 (AA 1) (AB (A7 (hkj:=hk_variables_in) F_variables_in hr (AB (AA 2) AG)) AG)))))
      (AM (Aa (AA 1)))))))
abbrev BR:Stmt:=top 8
theorem sc_variables_of:Ai ["row", "names", "part", "thing"] ["row"] (AH BR):=⟨rfl,rfl,rfl,by decide +kernel,rfl,by decide +kernel,by decide +kernel⟩
theorem Fp {φ_variables_in:List D->M D} {k_variables_in:Nat} {k:Nat} {f:Addr} (F_variables_in:Fn P w K mg base "variables_in" ["expression"] k_variables_in φ_variables_in) (hk_variables_in:k_variables_in <= k) (y_zip:mg "zip" = none) (k_PARTS:Ps w K mg "PARTS" HI) (cdv:Value) (A:Around) (outer:List Env) (s:Shared) (H:Hp) (E:XK) (hr:Room k (A.deeper (PyProof.Rows.envOfC "variables_of" (AH BR) s.heap.objs.size f cdv))) :
    RSs (Bv CX0 P w K mg base ["row", "names", "part", "thing"] "variables_of" (AH BR) f cdv A outer s H E).nox (AZ BR) (BU φ_variables_in):=by
  have nd:=sc_variables_of.nd
  exact (AI (Af 1 nd (C9 AG))
      (AI (CM PassesOwn.never rfl (Og y_zip (AB (Oj k_PARTS (AX Au (AA 0) AE)) (AB (Je (AA 0) (HM AE) HN) AG))) (HP (is:=[2,3]) rfl (BT (Aq (i:=2) nd rfl (by first | exact Or.inl rfl | exact Or.inr rfl)) (BT (Aq (i:=3) nd rfl (by first | exact Or.inl rfl | exact Or.inr rfl)) EJ))) (AI (BM (Ae (DV hr) (AA 2) AT) (AM (CF (B1 PySem.F.slot_list_append PySem.F.type_list_append C1 (AA 1) (AB (AA 3) AG)))) Ap)
      (AM (BM (Ae (DV hr) (AA 2) AT) (AM (CF (B1 PySem.F.slot_list_extend PySem.F.type_list_extend F1 (AA 1) (AB (A7 (hkj:=hk_variables_in) F_variables_in hr (AB (AA 3) AG)) AG)))) Ap))))
      (AM (Aa (AA 1)))))
abbrev A0:Stmt:=top 11
theorem sc_variables_of_rows:Ai ["rows", "names", "row"] ["rows"] (AH A0):=⟨rfl,rfl,rfl,by decide +kernel,rfl,by decide +kernel,by decide +kernel⟩
theorem Dp {φ_variables_of:List D->M D} {k_variables_of:Nat} {k:Nat} {f:Addr} (F_variables_of:Fn P w K mg base "variables_of" ["row"] k_variables_of φ_variables_of) (hk_variables_of:k_variables_of <= k) (y_sorted:mg "sorted" = none) (y_set:mg "set" = none) (cdv:Value) (A:Around) (outer:List Env) (s:Shared) (H:Hp) (E:XK) (hr:Room k (A.deeper (PyProof.Rows.envOfC "variables_of_rows" (AH A0) s.heap.objs.size f cdv))) :
    RSs (Bv CX0 P w K mg base ["rows", "names", "row"] "variables_of_rows" (AH A0) f cdv A outer s H E).nox (AZ A0) (A1 φ_variables_of):=by
  have nd:=sc_variables_of_rows.nd
  exact (AI (Af 1 nd (C9 AG))
      (AI (CM PassesOwn.never rfl (CN (AA 0)) (CS 2 nd) (AM (CF (B1 PySem.F.slot_list_extend PySem.F.type_list_extend F1 (AA 1) (AB (A7 (hkj:=hk_variables_of) F_variables_of hr (AB (AA 2) AG)) AG)))))
      (AM (Aa (Dh (tgs:=["name"]) (ix:=[]) (i:=0) (n:=1) ⟨rfl,by decide +kernel,by decide +kernel,trivial,rfl,by decide +kernel⟩ rfl (CN (IS y_sorted y_set (AA 1))) (fun _ _ _ _=>Aq (i:=0) (show List.Nodup (["name"]:List Str) from by decide +kernel) rfl (Or.inl rfl)) (fun _ _ _ _=>Fk (Ae (IX hr) (AA 0) AT)) (fun _ _ _ _=>(AA 0)))))))
abbrev BI:Stmt:=Ta (top 10) 0
theorem sc_Plan___init__:Ai ["self", "making", "place", "box"] ["self", "making"] (AH BI):=⟨rfl,rfl,rfl,by decide +kernel,rfl,by decide +kernel,by decide +kernel⟩
theorem FC {φ_variables_of_rows:List D->M D} {k_variables_of_rows:Nat} {C_Plan:Addr} {k:Nat} {f:Addr} (F_variables_of_rows:Fn P w K mg base "variables_of_rows" ["rows"] k_variables_of_rows φ_variables_of_rows) (hk_variables_of_rows:k_variables_of_rows <= k) (dc_Plan:Dc K "Plan" EO C_Plan) (y_enumerate:mg "enumerate" = none) (cdv:Value) (A:Around) (outer:List Env) (s:Shared) (H:Hp) (E:XK) (hr:Room k (A.deeper (PyProof.Rows.envOfC "Plan.__init__" (AH BI) s.heap.objs.size f cdv))) :
    RSs (Bv CX0 P w K mg base ["self", "making", "place", "box"] "Plan.__init__" (AH BI) f cdv A outer s H E).nox (AZ BI) (BJ φ_variables_of_rows):=by
  have nd:=sc_Plan___init__.nd
  exact (AI (Ef dc_Plan.ca (dc_Plan.na "making" (by decide +kernel)) (AA 0) (AA 1))
      (AI (Ef dc_Plan.ca (dc_Plan.na "names" (by decide +kernel)) (AA 0) (Dh (tgs:=["hand"]) (ix:=[]) (i:=0) (n:=1) ⟨rfl,by decide +kernel,by decide +kernel,trivial,rfl,by decide +kernel⟩ rfl (CN (AX Au (AA 1) AE)) (fun _ _ _ _=>Aq (i:=0) (show List.Nodup (["hand"]:List Str) from by decide +kernel) rfl (Or.inl rfl)) (fun _ _ _ _=>B0) (fun _ _ _ _=>(AX Au (AA 0) AE))))
      (AI (Ef dc_Plan.ca (dc_Plan.na "variables" (by decide +kernel)) (AA 0) (Dh (tgs:=["hand"]) (ix:=[]) (i:=0) (n:=1) ⟨rfl,by decide +kernel,by decide +kernel,trivial,rfl,by decide +kernel⟩ rfl (CN (AX Au (AA 1) AE)) (fun _ _ _ _=>Aq (i:=0) (show List.Nodup (["hand"]:List Str) from by decide +kernel) rfl (Or.inl rfl)) (fun _ _ _ _=>B0) (fun _ _ _ _=>(A7 (hkj:=hk_variables_of_rows) F_variables_of_rows hr (AB (AX Au (AA 0) AE) AG)))))
      (AI (Ef dc_Plan.ca (dc_Plan.na "places" (by decide +kernel)) (AA 0) HR)
      (AI (CM PassesOwn.never rfl (IQ y_enumerate (AB (AX Au (AA 1) AE) AG)) (HP (is:=[2,3]) rfl (BT (Aq (i:=2) nd rfl (by first | exact Or.inl rfl | exact Or.inr rfl)) (BT (Aq (i:=3) nd rfl (by first | exact Or.inl rfl | exact Or.inr rfl)) EJ))) (AM (Od hr (Eg dc_Plan.ca (dc_Plan.na "places" (by decide +kernel)) (AA 0)) (AX Au (AA 3) AE) (AA 2))))
      (AI (Ef dc_Plan.ca (dc_Plan.na "ways" (by decide +kernel)) (AA 0) HR)
      (AM (Ef dc_Plan.ca (dc_Plan.na "claims" (by decide +kernel)) (AA 0) HR))))))))
abbrev Bd:Stmt:=top 14
theorem sc_first_stand:Ai ["making"] ["making"] (AH Bd):=⟨rfl,rfl,rfl,by decide +kernel,rfl,by decide +kernel,by decide +kernel⟩
theorem GW {φ_Plan___init__:List D->M D} {k_Plan___init__:Nat} {φ_stand_begun:List D->M D} {k_stand_begun:Nat} {k:Nat} {f:Addr} (F_Plan___init__:Ini P w K mg base "Plan" ["self", "making"] k_Plan___init__ φ_Plan___init__) (hk_Plan___init__:k_Plan___init__ + 1 <= k) (F_stand_begun:Fn P w K mg base "stand_begun" ["plan"] k_stand_begun φ_stand_begun) (hk_stand_begun:k_stand_begun <= k) (cdv:Value) (A:Around) (outer:List Env) (s:Shared) (H:Hp) (E:XK) (hr:Room k (A.deeper (PyProof.Rows.envOfC "first_stand" (AH Bd) s.heap.objs.size f cdv))) :
    RSs (Bv CX0 P w K mg base ["making"] "first_stand" (AH Bd) f cdv A outer s H E).nox (AZ Bd) (Bh φ_Plan___init__ φ_stand_begun):=by
  have nd:=sc_first_stand.nd
  exact (AM (Aa (A7 (hkj:=hk_stand_begun) F_stand_begun hr (AB (KP (hkj:=hk_Plan___init__) F_Plan___init__ hr (AB (AA 0) AG)) AG))))
abbrev CW:Stmt:=top 15
theorem sc_steps_of:Ai ["making", "stand", "plan"] ["making", "stand"] (AH CW):=⟨rfl,rfl,rfl,by decide +kernel,rfl,by decide +kernel,by decide +kernel⟩
theorem Jf {φ_Plan___init__:List D->M D} {k_Plan___init__:Nat} {φ_moves_of:List D->M D} {k_moves_of:Nat} {C_Plan:Addr} {k:Nat} {f:Addr} (F_Plan___init__:Ini P w K mg base "Plan" ["self", "making"] k_Plan___init__ φ_Plan___init__) (hk_Plan___init__:k_Plan___init__ + 1 <= k) (F_moves_of:Fn P w K mg base "moves_of" ["plan", "stand"] k_moves_of φ_moves_of) (hk_moves_of:k_moves_of <= k) (dc_Plan:Dc K "Plan" EO C_Plan) (cdv:Value) (A:Around) (outer:List Env) (s:Shared) (H:Hp) (E:XK) (hr:Room k (A.deeper (PyProof.Rows.envOfC "steps_of" (AH CW) s.heap.objs.size f cdv))) :
    RSs (Bv CX0 P w K mg base ["making", "stand", "plan"] "steps_of" (AH CW) f cdv A outer s H E).nox (AZ CW) (Ce φ_Plan___init__ φ_moves_of):=by
  have nd:=sc_steps_of.nd
  exact (AI (Af 2 nd (KP (hkj:=hk_Plan___init__) F_Plan___init__ hr (AB (AA 0) AG)))
      (AM (Aa (LL none (tgs:=["number", "pick"]) (ix:=[2]) (is:=[0,1]) (n:=2)  ⟨rfl,by decide +kernel,by decide +kernel,⟨Or.inl rfl,trivial⟩,rfl,by decide +kernel⟩ rfl (CN (A7 (hkj:=hk_moves_of) F_moves_of hr (AB (AA 2) (AB (AA 1) AG)))) (fun _ _ _ _=>(BT (Aq (i:=0) (show List.Nodup (["number", "pick", "plan"]:List Str) from by decide +kernel) rfl (Or.inl rfl)) (BT (Aq (i:=1) (show List.Nodup (["number", "pick", "plan"]:List Str) from by decide +kernel) rfl (Or.inl rfl)) EJ))) (fun _ _ _ _=>LQ) (fun _ _ _ _=>(Ac (AB (AX Au (Eg dc_Plan.ca (dc_Plan.na "names" (by decide +kernel)) (AA 2)) (AA 0)) (AB (AA 1) AG))))))))
abbrev Bc:Stmt:=top 16
theorem sc_stand_begun:Ai ["plan", "hands", "boxes"] ["plan"] (AH Bc):=⟨rfl,rfl,rfl,by decide +kernel,rfl,by decide +kernel,by decide +kernel⟩
theorem GV {φ_claim_begun:List D->M D} {k_claim_begun:Nat} {C_Plan:Addr} {k:Nat} {f:Addr} (F_claim_begun:Fn P w K mg base "claim_begun" ["making"] k_claim_begun φ_claim_begun) (hk_claim_begun:k_claim_begun <= k) (dc_Plan:Dc K "Plan" EO C_Plan) (y_len:mg "len" = none) (y_tuple:mg "tuple" = none) (g_IDLE:Glo K mg "IDLE" GF) (g_NONE:Glo K mg "NONE" D6) (cdv:Value) (A:Around) (outer:List Env) (s:Shared) (H:Hp) (E:XK) (hr:Room k (A.deeper (PyProof.Rows.envOfC "stand_begun" (AH Bc) s.heap.objs.size f cdv))) :
    RSs (Bv CX0 P w K mg base ["plan", "hands", "boxes"] "stand_begun" (AH Bc) f cdv A outer s H E).nox (AZ Bc) (Bg φ_claim_begun):=by
  have nd:=sc_stand_begun.nd
  exact (AI (C8 1 (tgs:=["names"]) (ix:=[]) (i:=0) (n:=1) nd ⟨rfl,by decide +kernel,by decide +kernel,trivial,rfl,by decide +kernel⟩ rfl (CN (Eg dc_Plan.ca (dc_Plan.na "variables" (by decide +kernel)) (AA 0))) (fun _ _ _ _=>Aq (i:=0) (show List.Nodup (["names"]:List Str) from by decide +kernel) rfl (Or.inl rfl)) (fun _ _ _ _=>B0) (fun _ _ _ _=>(Ac (AB (Gm g_IDLE) (AB HQ (AB AE (AB AE (AB (AL HW (Ac (AB AE AG)) (B2 FA y_len Mi.B5 (AB (AA 0) AG))) AG))))))) (fun _ _ _ _ _ _ _ _ R i e q=>CT R i e q))
      (AI (C8 2 (tgs:=["box"]) (ix:=[]) (i:=0) (n:=1) nd ⟨rfl,by decide +kernel,by decide +kernel,trivial,rfl,by decide +kernel⟩ rfl (CN (AX Au (Eg dc_Plan.ca (dc_Plan.na "making" (by decide +kernel)) (AA 0)) AE)) (fun _ _ _ _=>Aq (i:=0) (show List.Nodup (["box"]:List Str) from by decide +kernel) rfl (Or.inl rfl)) (fun _ _ _ _=>B0) (fun _ _ _ _=>(Ac (AB (AX Au (AA 0) AE) (AB (Gm g_NONE) AG)))) (fun _ _ _ _ _ _ _ _ R i e q=>CT R i e q))
      (AM (Aa (Ac (AB (BX DK y_tuple Mi.BH (AB (AA 1) AG)) (AB (BX DK y_tuple Mi.BH (AB (AA 2) AG)) (AB (A7 (hkj:=hk_claim_begun) F_claim_begun hr (AB (Eg dc_Plan.ca (dc_Plan.na "making" (by decide +kernel)) (AA 0)) AG)) AG))))))))
abbrev CZ:Stmt:=top 17
theorem sc_moves_of:Ai ["plan", "stand", "moves", "number", "hand", "pick"] ["plan", "stand"] (AH CZ):=⟨rfl,rfl,rfl,by decide +kernel,rfl,by decide +kernel,by decide +kernel⟩
theorem Jh {φ_picks_of:List D->M D} {k_picks_of:Nat} {k:Nat} {f:Addr} (F_picks_of:Fn P w K mg base "picks_of" ["plan", "number", "hand"] k_picks_of φ_picks_of) (hk_picks_of:k_picks_of <= k) (y_enumerate:mg "enumerate" = none) (cdv:Value) (A:Around) (outer:List Env) (s:Shared) (H:Hp) (E:XK) (hr:Room k (A.deeper (PyProof.Rows.envOfC "moves_of" (AH CZ) s.heap.objs.size f cdv))) :
    RSs (Bv CX0 P w K mg base ["plan", "stand", "moves", "number", "hand", "pick"] "moves_of" (AH CZ) f cdv A outer s H E).nox (AZ CZ) (Cg φ_picks_of):=by
  have nd:=sc_moves_of.nd
  exact (AI (Af 2 nd (C9 AG))
      (AI (CM PassesOwn.never rfl (IQ y_enumerate (AB (AX Au (AA 1) AE) AG)) (HP (is:=[3,4]) rfl (BT (Aq (i:=3) nd rfl (by first | exact Or.inl rfl | exact Or.inr rfl)) (BT (Aq (i:=4) nd rfl (by first | exact Or.inl rfl | exact Or.inr rfl)) EJ))) (AM (CM PassesOwn.never rfl (CN (A7 (hkj:=hk_picks_of) F_picks_of hr (AB (AA 0) (AB (AA 3) (AB (AA 4) AG))))) (CS 5 nd) (AM (CF (B1 PySem.F.slot_list_append PySem.F.type_list_append C1 (AA 2) (AB (Ac (AB (AA 3) (AB (AA 5) AG))) AG)))))))
      (AM (Aa (AA 2)))))
abbrev CY:Stmt:=top 18
theorem sc_picks_of:Ai ["plan", "number", "hand"] ["plan", "number", "hand"] (AH CY):=⟨rfl,rfl,rfl,by decide +kernel,rfl,by decide +kernel,by decide +kernel⟩
theorem Jg  {C_Plan:Addr} {k:Nat} {f:Addr} (dc_Plan:Dc K "Plan" EO C_Plan) (y_tuple:mg "tuple" = none) (y_range:mg "range" = none) (g_IDLE:Glo K mg "IDLE" GF) (cdv:Value) (A:Around) (outer:List Env) (s:Shared) (H:Hp) (E:XK) (hr:Room k (A.deeper (PyProof.Rows.envOfC "picks_of" (AH CY) s.heap.objs.size f cdv))) :
    RSs (Bv CX0 P w K mg base ["plan", "number", "hand"] "picks_of" (AH CY) f cdv A outer s H E).nox (AZ CY) (Cf):=by
  have nd:=sc_picks_of.nd
  exact (AI (BM (Ae (DV hr) (AX Au (AA 2) AE) (Gm g_IDLE)) (AM (Aa (Sm (Ae (DV hr) (AA 1) AE) (LJ y_tuple y_range (AX Au (Eg dc_Plan.ca (dc_Plan.na "making" (by decide +kernel)) (AA 0)) AE)) (Ac (AB AE AG))))) Ap)
      (AI (BM (RW.rt (Ee (Ae PN (AX Au (AA 2) AE) HQ) (Dg (Ae (DV hr) (AX Au Q2 AE) AT)))) (AM (Aa (AX Au (AA 2) AE))) Ap)
      (AM (Aa (Ac (AB AE AG))))))
abbrev Ca:Stmt:=top 20
theorem sc_Lcell_at:Ai ["_law_script", "_law_k"] ["_law_script", "_law_k"] (AH Ca):=⟨rfl,rfl,rfl,by decide +kernel,rfl,by decide +kernel,by decide +kernel⟩
theorem Ji  {k:Nat} {f:Addr} (y_len:mg "len" = none) (cdv:Value) (A:Around) (outer:List Env) (s:Shared) (H:Hp) (E:XK) (hr:Room k (A.deeper (PyProof.Rows.envOfC "_law_cell_at" (AH Ca) s.heap.objs.size f cdv))) :
    RSs (Bv CX0 P w K mg base ["_law_script", "_law_k"] "_law_cell_at" (AH Ca) f cdv A outer s H E).nox (AZ Ca) (Ch):=by
  have nd:=sc_Lcell_at.nd
  exact (AI (BM (Ae NA (AA 1) (B2 FA y_len Mi.B5 (AB (AA 0) AG))) (AM (Aa (AX Au (AA 0) (AA 1)))) Ap)
      (AM (Aa AE)))
abbrev Cw:Stmt:=top 21
theorem sc_Lstream:Ai ["_law_cell", "_law_size", "_law_found", "_law_rest", "_law_k", "_law_number", "_law_other"] ["_law_cell", "_law_size"] (AH Cw):=⟨rfl,rfl,rfl,by decide +kernel,rfl,by decide +kernel,by decide +kernel⟩
theorem LN  {k:Nat} {f:Addr} (y_range:mg "range" = none) (cdv:Value) (A:Around) (outer:List Env) (s:Shared) (H:Hp) (E:XK) (hr:Room k (A.deeper (PyProof.Rows.envOfC "_law_stream" (AH Cw) s.heap.objs.size f cdv))) :
    RSs (Bv CX0 P w K mg base ["_law_cell", "_law_size", "_law_found", "_law_rest", "_law_k", "_law_number", "_law_other"] "_law_stream" (AH Cw) f cdv A outer s H E).nox (AZ Cw) (C2):=by
  have nd:=sc_Lstream.nd
  exact (AI (Af 2 nd (C9 AG))
      (AI (BM (Ae UI (AA 0) (AL TU AE AE)) (AI (Af 3 nd (AL Ao (AA 0) AE))
      (AI (CM PassesOwn.never rfl (Bt y_range (AB (AA 1) AG)) (CS 4 nd) (AI (CF (B1 PySem.F.slot_list_append PySem.F.type_list_append C1 (AA 2) (AB (AL Ay (AA 3) AE) AG)))
      (AM (Af 3 nd (AL Ao (AA 3) AE)))))
      (AM (Aa (Q1 (AA 2) (IR IW AE)))))) Ap)
      (AI (Af 5 nd (AL Ay (AL IY (AL Bb (AL Ay (AA 0) AE) AE) AE) AE))
      (AI (Af 6 nd (AL Ay (AL IY (AL Bb (AL Ay (AA 0) AE) AE) AE) AE))
      (AI (CM PassesOwn.never rfl (Bt y_range (AB (AA 1) AG)) (CS 4 nd) (AI (Af 5 nd (AL Bb (AL Bb (AL Ay (AL IY (AA 5) (AL Bb (AL Ao (AA 5) AE) AE)) AE) (AA 4)) AE))
      (AI (Af 6 nd (AL Ay (AL IY (AA 6) AE) AE))
      (AM (CF (B1 PySem.F.slot_list_append PySem.F.type_list_append C1 (AA 2) (AB (AL Bb (AA 5) (AA 6)) AG)))))))
      (AM (Aa (AA 2))))))))
abbrev ED:Stmt:=top 22
theorem sc_Lexpr:Ai ["_law_xs", "_law_names", "_law_deep", "_law_way", "_law_word", "_law_one"] ["_law_xs", "_law_names", "_law_deep"] (AH ED):=⟨rfl,rfl,rfl,by decide +kernel,rfl,by decide +kernel,by decide +kernel⟩
theorem Oq {φ_Lexpr:List D->M D} {k_Lexpr:Nat} {k:Nat} {f:Addr} (F_Lexpr:Fn P w K mg base "_law_expr" ["_law_xs", "_law_names", "_law_deep"] k_Lexpr φ_Lexpr) (hk_Lexpr:k_Lexpr <= k) (y_len:mg "len" = none) (cdv:Value) (A:Around) (outer:List Env) (s:Shared) (H:Hp) (E:XK) (hr:Room k (A.deeper (PyProof.Rows.envOfC "_law_expr" (AH ED) s.heap.objs.size f cdv))) :
    RSs (Bv CX0 P w K mg base ["_law_xs", "_law_names", "_law_deep", "_law_way", "_law_word", "_law_one"] "_law_expr" (AH ED) f cdv A outer s H E).nox (AZ ED) (Dj φ_Lexpr):=by
  have nd:=sc_Lexpr.nd
  exact (AI (Af 3 nd (AL Ay (AL Ao (AU PySem.F.slot_list_pop PySem.F.type_list_pop BF (AA 0)) AE) AE))
      (AI (BM (RW.rt (P0 (Ae (DV hr) (AA 2) AE) (MX (Ae NA (AA 3) AE)))) (AI (BM (Ae (DV hr) (AL Ay (AA 3) AE) AE) (AM (Aa (Ac (AB AT (AB (AL Ay (AL Ao (AU PySem.F.slot_list_pop PySem.F.type_list_pop BF (AA 0)) AE) AE) AG))))) Ap)
      (AM (Aa (Ac (AB AT (AB (AX Au (AA 1) (AL Ay (AL Ao (AU PySem.F.slot_list_pop PySem.F.type_list_pop BF (AA 0)) AE) (B2 FA y_len Mi.B5 (AB (AA 1) AG)))) AG)))))) Ap)
      (AI (BM (Ae (DV hr) (AA 3) AE) (AM (Aa (Ac (AB AT (AB (A7 (hkj:=hk_Lexpr) F_Lexpr hr (AB (AA 0) (AB (AA 1) (AB (AL IV (AA 2) AE) AG)))) AG))))) Ap)
      (AI (Af 4 nd (AX Au (BG (AB AT (AB AT (AB AT (AB AT (AB AT (AB AT (AB AT AG)))))))) (AL Ay (AL Ao (AU PySem.F.slot_list_pop PySem.F.type_list_pop BF (AA 0)) AE) AE)))
      (AI (Af 5 nd (A7 (hkj:=hk_Lexpr) F_Lexpr hr (AB (AA 0) (AB (AA 1) (AB (AL IV (AA 2) AE) AG)))))
      (AM (Aa (Ac (AB (AA 4) (AB (AA 5) (AB (A7 (hkj:=hk_Lexpr) F_Lexpr hr (AB (AA 0) (AB (AA 1) (AB (AL IV (AA 2) AE) AG)))) AG)))))))))))
abbrev Fj:Stmt:=top 23
theorem sc_Lrow:Ai ["_law_xs", "_law_k", "_law_boxes", "_law_n", "_law_names", "_law_mine", "_law_way"] ["_law_xs", "_law_k", "_law_boxes", "_law_n"] (AH Fj):=⟨rfl,rfl,rfl,by decide +kernel,rfl,by decide +kernel,by decide +kernel⟩
theorem Q3 {φ_Lexpr:List D->M D} {k_Lexpr:Nat} {k:Nat} {f:Addr} (F_Lexpr:Fn P w K mg base "_law_expr" ["_law_xs", "_law_names", "_law_deep"] k_Lexpr φ_Lexpr) (hk_Lexpr:k_Lexpr <= k) (y_int:mg "int" = none) (y_len:mg "len" = none) (cdv:Value) (A:Around) (outer:List Env) (s:Shared) (H:Hp) (E:XK) (hr:Room k (A.deeper (PyProof.Rows.envOfC "_law_row" (AH Fj) s.heap.objs.size f cdv))) :
    RSs (Bv CX0 P w K mg base ["_law_xs", "_law_k", "_law_boxes", "_law_n", "_law_names", "_law_mine", "_law_way"] "_law_row" (AH Fj) f cdv A outer s H E).nox (AZ Fj) (F2 φ_Lexpr):=by
  have nd:=sc_Lrow.nd
  exact (AI (Af 4 nd (AX Au (BG (AB (BG (AB AT (AB AT (AB AT AG)))) (AB (BG (AB AT (AB AT AG))) AG))) (BX QP y_int Mi.JK (AB (Mg PP (AA 1) AE) AG))))
      (AI (Ew 5 (by wtm_at "own qpu") (by wtm_at "own qpu") (tgs:=["_law_box"]) (ix:=[1]) (i:=0) (n:=1) nd ⟨rfl,by decide +kernel,by decide +kernel,⟨Or.inl rfl,trivial⟩,rfl,by decide +kernel⟩ rfl (Me (AA 2)) (fun _ _ _ _=>Aq (i:=0) (show List.Nodup (["_law_box", "_law_k"]:List Str) from by decide +kernel) rfl (Or.inl rfl)) (fun _ _ _ _=>Fk (Ae (DV hr) (AX Au (AA 0) AE) (AX Au AT (AA 1)))) (fun _ _ _ _=>(AX Au (AA 0) AE)) (fun _ _ _ _ _ _ _ _ R i e q=>CT R i e q))
      (AI (Af 6 nd (AL Ay (AL Ao (AU PySem.F.slot_list_pop PySem.F.type_list_pop BF (AA 0)) AE) AE))
      (AI (BM (RW.rt (Ee (Ae NA (AA 6) AE) (Dg (Ae (IX hr) (AA 5) (BG AG))))) (AM (Aa (Ac (AB AT (AB (AX Au (AA 5) (AL Ay (AL Ao (AU PySem.F.slot_list_pop PySem.F.type_list_pop BF (AA 0)) AE) (B2 FA y_len Mi.B5 (AB (AA 5) AG)))) (AB (A7 (hkj:=hk_Lexpr) F_Lexpr hr (AB (AA 0) (AB (AA 4) (AB AE AG)))) AG)))))) Ap)
      (AI (BM (RW.rt (Ee (Ae NA (AA 6) AE) (Dg (Ae (IX hr) (AA 2) (BG AG))))) (AM (Aa (Ac (AB AT (AB (AX Au AT (AL Ay (AL Ao (AU PySem.F.slot_list_pop PySem.F.type_list_pop BF (AA 0)) AE) AE)) (AB (AX Au (AX Au (AA 2) (AL Ay (AL Ao (AU PySem.F.slot_list_pop PySem.F.type_list_pop BF (AA 0)) AE) (B2 FA y_len Mi.B5 (AB (AA 2) AG)))) AE) AG)))))) Ap)
      (AI (BM (Ae NA (AA 6) AE) (AM (Aa (Ac (AB AT (AB (AX Au AT (AL Ay (AL Ao (AU PySem.F.slot_list_pop PySem.F.type_list_pop BF (AA 0)) AE) AE)) (AB (A7 (hkj:=hk_Lexpr) F_Lexpr hr (AB (AA 0) (AB (AA 4) (AB AE AG)))) AG)))))) Ap)
      (AI (BM (Ae (DV hr) (AA 6) AE) (AM (Aa (Ac (AB AT (AB (A7 (hkj:=hk_Lexpr) F_Lexpr hr (AB (AA 0) (AB (AA 4) (AB AE AG)))) (AB (AL Ay (AL Ao (AU PySem.F.slot_list_pop PySem.F.type_list_pop BF (AA 0)) AE) (AL Bb (AA 3) AE)) AG)))))) Ap)
      (AM (Aa (Ac (AB AT (AB (AL Ay (AL Ao (AU PySem.F.slot_list_pop PySem.F.type_list_pop BF (AA 0)) AE) (AL Bb (AA 3) AE)) AG))))))))))))
abbrev EC:Stmt:=top 24
theorem sc_Lhand:Ai ["_law_xs", "_law_k", "_law_boxes", "_law_most", "_law_n", "_law_rows", "_law_got"] ["_law_xs", "_law_k", "_law_boxes", "_law_most"] (AH EC):=⟨rfl,rfl,rfl,by decide +kernel,rfl,by decide +kernel,by decide +kernel⟩
theorem Op {φ_Lrow:List D->M D} {k_Lrow:Nat} {φ_Lexpr:List D->M D} {k_Lexpr:Nat} {k:Nat} {f:Addr} (F_Lrow:Fn P w K mg base "_law_row" ["_law_xs", "_law_k", "_law_boxes", "_law_n"] k_Lrow φ_Lrow) (hk_Lrow:k_Lrow <= k) (F_Lexpr:Fn P w K mg base "_law_expr" ["_law_xs", "_law_names", "_law_deep"] k_Lexpr φ_Lexpr) (hk_Lexpr:k_Lexpr <= k) (y_range:mg "range" = none) (y_len:mg "len" = none) (y_tuple:mg "tuple" = none) (cdv:Value) (A:Around) (outer:List Env) (s:Shared) (H:Hp) (E:XK) (hr:Room k (A.deeper (PyProof.Rows.envOfC "_law_hand" (AH EC) s.heap.objs.size f cdv))) :
    RSs (Bv CX0 P w K mg base ["_law_xs", "_law_k", "_law_boxes", "_law_most", "_law_n", "_law_rows", "_law_got"] "_law_hand" (AH EC) f cdv A outer s H E).nox (AZ EC) (EM φ_Lrow φ_Lexpr):=by
  have nd:=sc_Lhand.nd
  exact (AI (Af 4 nd (AL Bb AE (AL Ay (AL Ao (AU PySem.F.slot_list_pop PySem.F.type_list_pop BF (AA 0)) AE) (AA 3))))
      (AI (C8 5 (tgs:=["_law_j"]) (ix:=[2,1,4,0]) (i:=0) (n:=1) nd ⟨rfl,by decide +kernel,by decide +kernel,⟨Or.inl rfl,Or.inl rfl,Or.inl rfl,Or.inl rfl,trivial⟩,rfl,by decide +kernel⟩ rfl (Bt y_range (AB (AA 4) AG)) (fun _ _ _ _=>Aq (i:=0) (show List.Nodup (["_law_j", "_law_boxes", "_law_k", "_law_n", "_law_xs"]:List Str) from by decide +kernel) rfl (Or.inl rfl)) (fun _ _ _ _=>B0) (fun _ _ _ _=>(A7 (hkj:=hk_Lrow) F_Lrow hr (AB (AA 4) (AB (AA 2) (AB (AA 1) (AB (AA 3) AG)))))) (fun _ _ _ _ _ _ _ _ R i e q=>FP R i e q))
      (AI (BM (RW.rt (Ee (Ae PP (AA 1) AE) (Dg (Ae PP (AL Ay (AL Ao (AU PySem.F.slot_list_pop PySem.F.type_list_pop BF (AA 0)) AE) AE) AE)))) (AI (Ew 6 (by wtm_at "own qpu") (by wtm_at "own qpu") (tgs:=["_law_box"]) (ix:=[]) (i:=0) (n:=1) nd ⟨rfl,by decide +kernel,by decide +kernel,trivial,rfl,by decide +kernel⟩ rfl (Me (AA 2)) (fun _ _ _ _=>Aq (i:=0) (show List.Nodup (["_law_box"]:List Str) from by decide +kernel) rfl (Or.inl rfl)) (fun _ _ _ _=>B0) (fun _ _ _ _=>(AX Au (AA 0) AE)) (fun _ _ _ _ _ _ _ _ R i e q=>CT R i e q))
      (AI (BM (RW.rt (Ee (Ae (IX hr) (AA 6) (BG AG)) (Dg (Ae (DV hr) (AL Ay (AL Ao (AU PySem.F.slot_list_pop PySem.F.type_list_pop BF (AA 0)) AE) AE) AE)))) (AM (HL (Ac (AB AT (AB AT (AB (AX Au (AA 6) (AL Ay (AL Ao (AU PySem.F.slot_list_pop PySem.F.type_list_pop BF (AA 0)) AE) (B2 FA y_len Mi.B5 (AB (AA 6) AG)))) AG)))) (Jc (AA 5) AE))) Ap)
      (AM (HL (Ac (AB AT (AB (AX Au (BG (AB (Ac (AB AT (AB AT AG))) (AB (A7 (hkj:=hk_Lexpr) F_Lexpr hr (AB (AA 0) (AB (BG (AB AT (AB AT AG))) (AB AE AG)))) AG))) (AL Ao (AL Ay (AL Ao (AU PySem.F.slot_list_pop PySem.F.type_list_pop BF (AA 0)) AE) AE) AE)) AG))) (Jc (AA 5) (IR IW AE)))))) Ap)
      (AI (BM (RW.rt (Ee (Ae (DV hr) (AA 1) AE) (Dg (Ae (DV hr) (AL Ay (AL Ao (AU PySem.F.slot_list_pop PySem.F.type_list_pop BF (AA 0)) AE) AE) AE)))) (AM (HL (Ac (AB AT AG)) (Jc (AA 5) (IR IW AE)))) Ap)
      (AM (Aa (Ac (AB (AX Au AT (AA 1)) (AB (AX Au (BG (AB AE (AB AE (AB AE (AB AE AG))))) (AL Ay (AL Ao (AU PySem.F.slot_list_pop PySem.F.type_list_pop BF (AA 0)) AE) AE)) (AB (BX DK y_tuple Mi.BH (AB (AA 5) AG)) AG))))))))))
abbrev EB:Stmt:=top 25
theorem sc_Lkind:Ai ["_law_xs"] ["_law_xs"] (AH EB):=⟨rfl,rfl,rfl,by decide +kernel,rfl,by decide +kernel,by decide +kernel⟩
theorem Oo  {k:Nat} {f:Addr}  (cdv:Value) (A:Around) (outer:List Env) (s:Shared) (H:Hp) (E:XK) (hr:Room k (A.deeper (PyProof.Rows.envOfC "_law_kind" (AH EB) s.heap.objs.size f cdv))) :
    RSs (Bv CX0 P w K mg base ["_law_xs"] "_law_kind" (AH EB) f cdv A outer s H E).nox (AZ EB) (EL):=by
  have nd:=sc_Lkind.nd
  exact (AM (Aa (AX Au (BG (AB AT (AB AT (AB AT AG)))) (AL Ay (AL Ao (AU PySem.F.slot_list_pop PySem.F.type_list_pop BF (AA 0)) AE) AE))))
abbrev Cy:Stmt:=top 26
theorem sc_Lmaking:Ai ["_law_xs", "_law_most", "_law_many", "_law_boxes", "_law_k", "_law_size", "_law_hands"] ["_law_xs", "_law_most"] (AH Cy):=⟨rfl,rfl,rfl,by decide +kernel,rfl,by decide +kernel,by decide +kernel⟩
theorem LO {φ_Lkind:List D->M D} {k_Lkind:Nat} {φ_Lhand:List D->M D} {k_Lhand:Nat} {k:Nat} {f:Addr} (F_Lkind:Fn P w K mg base "_law_kind" ["_law_xs"] k_Lkind φ_Lkind) (hk_Lkind:k_Lkind <= k) (F_Lhand:Fn P w K mg base "_law_hand" ["_law_xs", "_law_k", "_law_boxes", "_law_most"] k_Lhand φ_Lhand) (hk_Lhand:k_Lhand <= k) (y_range:mg "range" = none) (y_tuple:mg "tuple" = none) (cdv:Value) (A:Around) (outer:List Env) (s:Shared) (H:Hp) (E:XK) (hr:Room k (A.deeper (PyProof.Rows.envOfC "_law_making" (AH Cy) s.heap.objs.size f cdv))) :
    RSs (Bv CX0 P w K mg base ["_law_xs", "_law_most", "_law_many", "_law_boxes", "_law_k", "_law_size", "_law_hands"] "_law_making" (AH Cy) f cdv A outer s H E).nox (AZ Cy) (C3 φ_Lkind φ_Lhand):=by
  have nd:=sc_Lmaking.nd
  exact (AI (Af 2 nd (AL Bb AE (AL Ao (AL Ay (AL Ao (AU PySem.F.slot_list_pop PySem.F.type_list_pop BF (AA 0)) AE) AE) AE)))
      (AI (Af 3 nd (C9 AG))
      (AI (CM PassesOwn.never rfl (Bt y_range (AB (AL Ay (AL Ao (AU PySem.F.slot_list_pop PySem.F.type_list_pop BF (AA 0)) AE) AE) AG)) (CS 4 nd) (AI (Af 5 nd (AL Bb AE (AL Ay (AL Ao (AU PySem.F.slot_list_pop PySem.F.type_list_pop BF (AA 0)) AE) AE)))
      (AM (CF (B1 PySem.F.slot_list_append PySem.F.type_list_append C1 (AA 3) (AB (Ac (AB (AX Au AT (AA 4)) (AB (A7 (hkj:=hk_Lkind) F_Lkind hr (AB (AA 0) AG)) (AB (AA 5) (AB (AL Ay (AL Ao (AU PySem.F.slot_list_pop PySem.F.type_list_pop BF (AA 0)) AE) (AA 5)) (AB (AX Au AT (AL Ay (AL Ao (AU PySem.F.slot_list_pop PySem.F.type_list_pop BF (AA 0)) AE) AE)) AG)))))) AG))))))
      (AI (Af 5 nd (AL Bb AE (AL Ay (AL Ao (AU PySem.F.slot_list_pop PySem.F.type_list_pop BF (AA 0)) AE) AE)))
      (AI (C8 6 (tgs:=["_law_k"]) (ix:=[3,1,0]) (i:=0) (n:=1) nd ⟨rfl,by decide +kernel,by decide +kernel,⟨Or.inl rfl,Or.inl rfl,Or.inl rfl,trivial⟩,rfl,by decide +kernel⟩ rfl (Bt y_range (AB (AA 2) AG)) (fun _ _ _ _=>Aq (i:=0) (show List.Nodup (["_law_k", "_law_boxes", "_law_most", "_law_xs"]:List Str) from by decide +kernel) rfl (Or.inl rfl)) (fun _ _ _ _=>B0) (fun _ _ _ _=>(A7 (hkj:=hk_Lhand) F_Lhand hr (AB (AA 3) (AB (AA 0) (AB (AA 1) (AB (AA 2) AG)))))) (fun _ _ _ _ _ _ _ _ R i e q=>CT R i e q))
      (AM (Aa (Ac (AB (A7 (hkj:=hk_Lkind) F_Lkind hr (AB (AA 0) AG)) (AB (AA 5) (AB (AL Ay (AL Ao (AU PySem.F.slot_list_pop PySem.F.type_list_pop BF (AA 0)) AE) (AA 5)) (AB (BX DK y_tuple Mi.BH (AB (AA 3) AG)) (AB (BX DK y_tuple Mi.BH (AB (AA 6) AG)) AG)))))))))))))
abbrev DS:Stmt:=top 27
theorem sc_Lnamed:Ai ["_law_part", "_law_found", "_law_one"] ["_law_part"] (AH DS):=⟨rfl,rfl,rfl,by decide +kernel,rfl,by decide +kernel,by decide +kernel⟩
theorem Ml {φ_Lnamed:List D->M D} {k_Lnamed:Nat} {k:Nat} {f:Addr} (F_Lnamed:Fn P w K mg base "_law_named" ["_law_part"] k_Lnamed φ_Lnamed) (hk_Lnamed:k_Lnamed <= k) (y_tuple:mg "tuple" = none) (y_isinstance:mg "isinstance" = none) (cdv:Value) (A:Around) (outer:List Env) (s:Shared) (H:Hp) (E:XK) (hr:Room k (A.deeper (PyProof.Rows.envOfC "_law_named" (AH DS) s.heap.objs.size f cdv))) :
    RSs (Bv CX0 P w K mg base ["_law_part", "_law_found", "_law_one"] "_law_named" (AH DS) f cdv A outer s H E).nox (AZ DS) (B3 φ_Lnamed):=by
  have nd:=sc_Lnamed.nd
  exact (AI (BM (Q0 (Qz (B2 SE y_isinstance Mi.FF (AB (AA 0) (AB (On y_tuple Mi.BH) AG))))) (AM (Aa (BG AG))) Ap)
      (AI (BM (Ae (DV hr) (Je (AA 0) HN (HM AE)) (Ac (AB AT AG))) (AM (Aa (BG (AB (AX Au (AA 0) AE) AG)))) Ap)
      (AI (Af 1 nd (BG AG))
      (AI (CM PassesOwn.never rfl (CN (AA 0)) (CS 2 nd) (AM (Af 1 nd (AL Bb (AA 1) (A7 (hkj:=hk_Lnamed) F_Lnamed hr (AB (AA 2) AG))))))
      (AM (Aa (AA 1)))))))
abbrev IM:Stmt:=top 28
theorem sc_law:Ai ["_law_script", "_law_xs", "_law_turn", "_law_making_here", "_law_hands", "_law_due", "_law_k", "_law_name", "_law_within", "_law_rows", "_law_names", "_law_many", "_law_boxes", "_law_stand", "_law_steps"] ["_law_script"] (AH IM):=⟨rfl,rfl,rfl,by decide +kernel,rfl,by decide +kernel,by decide +kernel⟩
theorem Sn {φ_Lcell_at:List D->M D} {k_Lcell_at:Nat} {φ_Lstream:List D->M D} {k_Lstream:Nat} {φ_Lmaking:List D->M D} {k_Lmaking:Nat} {φ_Lnamed:List D->M D} {k_Lnamed:Nat} {φ_first_stand:List D->M D} {k_first_stand:Nat} {φ_claim_begun:List D->M D} {k_claim_begun:Nat} {φ_steps_of:List D->M D} {k_steps_of:Nat} {k:Nat} {f:Addr} (F_Lcell_at:Fn P w K mg base "_law_cell_at" ["_law_script", "_law_k"] k_Lcell_at φ_Lcell_at) (hk_Lcell_at:k_Lcell_at <= k) (F_Lstream:Fn P w K mg base "_law_stream" ["_law_cell", "_law_size"] k_Lstream φ_Lstream) (hk_Lstream:k_Lstream <= k) (F_Lmaking:Fn P w K mg base "_law_making" ["_law_xs", "_law_most"] k_Lmaking φ_Lmaking) (hk_Lmaking:k_Lmaking <= k) (F_Lnamed:Fn P w K mg base "_law_named" ["_law_part"] k_Lnamed φ_Lnamed) (hk_Lnamed:k_Lnamed <= k) (F_first_stand:Fn P w K mg base "first_stand" ["making"] k_first_stand φ_first_stand) (hk_first_stand:k_first_stand <= k) (F_claim_begun:Fn P w K mg base "claim_begun" ["making"] k_claim_begun φ_claim_begun) (hk_claim_begun:k_claim_begun <= k) (F_steps_of:Fn P w K mg base "steps_of" ["making", "stand"] k_steps_of φ_steps_of) (hk_steps_of:k_steps_of <= k) (y_range:mg "range" = none) (y_len:mg "len" = none) (y_set:mg "set" = none) (y_int:mg "int" = none) (y_tuple:mg "tuple" = none) (cdv:Value) (A:Around) (outer:List Env) (s:Shared) (H:Hp) (E:XK) (hr:Room k (A.deeper (PyProof.Rows.envOfC "law" (AH IM) s.heap.objs.size f cdv))) :
    RSs (Bv CX0 P w K mg base ["_law_script", "_law_xs", "_law_turn", "_law_making_here", "_law_hands", "_law_due", "_law_k", "_law_name", "_law_within", "_law_rows", "_law_names", "_law_many", "_law_boxes", "_law_stand", "_law_steps"] "law" (AH IM) f cdv A outer s H E).nox (AZ IM) (Ie φ_Lcell_at φ_Lstream φ_Lmaking φ_Lnamed φ_first_stand φ_claim_begun φ_steps_of):=by
  have nd:=sc_law.nd
  exact (AI (Af 1 nd (A7 (hkj:=hk_Lstream) F_Lstream hr (AB (A7 (hkj:=hk_Lcell_at) F_Lcell_at hr (AB (AA 0) (AB AE AG))) (AB AE AG))))
      (AI (CM PassesOwn.never rfl (Bt y_range (AB AE AG)) (CS 2 nd) (AI (Af 3 nd (A7 (hkj:=hk_Lmaking) F_Lmaking hr (AB (AA 1) (AB AE AG))))
      (AI (Af 4 nd (C9 AG))
      (AI (Af 5 nd (BG AG))
      (AI (CM PassesOwn.never rfl (Bt y_range (AB (B2 FA y_len Mi.B5 (AB (AX Au (AA 3) AE) AG)) AG)) (CS 6 nd) (AI (HL (AX Au (AX Au (AA 3) AE) (AA 6)) (HP (is:=[7,8,9]) rfl (BT (Aq (i:=7) nd rfl (by first | exact Or.inl rfl | exact Or.inr rfl)) (BT (Aq (i:=8) nd rfl (by first | exact Or.inl rfl | exact Or.inr rfl)) (BT (Aq (i:=9) nd rfl (by first | exact Or.inl rfl | exact Or.inr rfl)) EJ)))))
      (AI (Af 10 nd (AL Bb (A7 (hkj:=hk_Lnamed) F_Lnamed hr (AB (AA 9) AG)) (Dh (tgs:=["_law_row_here"]) (ix:=[]) (i:=0) (n:=1) ⟨rfl,by decide +kernel,by decide +kernel,trivial,rfl,by decide +kernel⟩ rfl (CN (AA 9)) (fun _ _ _ _=>Aq (i:=0) (show List.Nodup (["_law_row_here"]:List Str) from by decide +kernel) rfl (Or.inl rfl)) (fun _ _ _ _=>Fk (Ae UH (AX Au (AA 0) AE) (Ac (AB AT (AB AT AG))))) (fun _ _ _ _=>(AX Au (AA 0) AE)))))
      (AI (Af 11 nd (AL IV (LK y_len y_set (AL Bb (AA 10) (BG (AB AT AG)))) AE))
      (AI (CF (B1 PySem.F.slot_list_append PySem.F.type_list_append C1 (AA 4) (AB (Ac (AB (IR IW AE) (AB HQ (AB AE (AB AE (AB (AL HW (Ac (AB AE AG)) (AA 11)) AG)))))) AG)))
      (AM (Af 5 nd (AL Bb (AA 5) (Dh (tgs:=["_law_pick"]) (ix:=[7]) (i:=0) (n:=1) ⟨rfl,by decide +kernel,by decide +kernel,⟨Or.inl rfl,trivial⟩,rfl,by decide +kernel⟩ rfl (Bt y_range (AB (AX Au (BG (AB (AX Au (AA 3) AE) (AB AE AG))) (BX QP y_int Mi.JK (AB (Mg PP (AA 6) AE) AG))) AG)) (fun _ _ _ _=>Aq (i:=0) (show List.Nodup (["_law_pick", "_law_name"]:List Str) from by decide +kernel) rfl (Or.inl rfl)) (fun _ _ _ _=>B0) (fun _ _ _ _=>(Ac (AB (AA 1) (AB (AA 0) AG)))))))))))))
      (AI (Af 12 nd (BX DK y_tuple Mi.BH (AB (Dh (tgs:=["_law_box"]) (ix:=[]) (i:=0) (n:=1) ⟨rfl,by decide +kernel,by decide +kernel,trivial,rfl,by decide +kernel⟩ rfl (CN (AX Au (AA 3) AE)) (fun _ _ _ _=>Aq (i:=0) (show List.Nodup (["_law_box"]:List Str) from by decide +kernel) rfl (Or.inl rfl)) (fun _ _ _ _=>B0) (fun _ _ _ _=>(Ac (AB (AX Au (AA 0) AE) (AB (IR IW AE) AG))))) AG)))
      (AI (Af 13 nd (A7 (hkj:=hk_first_stand) F_first_stand hr (AB (AA 3) AG)))
      (AI (BM (RW.rt (P0 (Ae (IX hr) (AA 13) (Ac (AB (BX DK y_tuple Mi.BH (AB (AA 4) AG)) (AB (AA 12) (AB (A7 (hkj:=hk_claim_begun) F_claim_begun hr (AB (AA 3) AG)) AG))))) (MX (Ae (IX hr) (A7 (hkj:=hk_first_stand) F_first_stand hr (AB (AA 3) AG)) (AA 13))))) (AM (Aa KQ)) Ap)
      (AI (Af 14 nd (A7 (hkj:=hk_steps_of) F_steps_of hr (AB (AA 3) (AB (AA 13) AG))))
      (AI (BM (Ae (IX hr) (AA 14) (AA 5)) (AM (Aa KQ)) Ap)
      (AI (CF (AU PySem.F.slot_list_clear PySem.F.type_list_clear PU (AA 14)))
      (AM (BM (Ae (IX hr) (A7 (hkj:=hk_steps_of) F_steps_of hr (AB (AA 3) (AB (AA 13) AG))) (AA 5)) (AM (Aa KQ)) Ap)))))))))))))
      (AM (Aa KQ))))
end
end K21
namespace K21
open PySem L2 Mi
noncomputable def DH:List D->M D:=Az .drop 2 2 (Ch)
noncomputable def Dk:List D->M D:=Az .all 7 2 (C2)
noncomputable def EQ:List D->M D:=Az .drop 1 1 (EL)
noncomputable def Cn:Nat->List D->M D
  | 0=>fun _=>BC
  | n + 1=>Az .drop 6 3 (Dj (Cn n))
noncomputable def GB:List D->M D:=Az .drop 7 4 (F2 (Cn 4))
noncomputable def FR:List D->M D:=Az .drop 7 4 (EM GB (Cn 4))
noncomputable def Dl:List D->M D:=Az .drop 7 2 (C3 EQ FR)
noncomputable def Aw:Nat->List D->M D
  | 0=>fun _=>BC
  | n + 1=>Az .drop 3 1 (B3 (Aw n))
noncomputable def Ah:Nat->List D->M D
  | 0=>fun _=>BC
  | n + 1=>Az .frz 3 1 (Ar (Ah n))
noncomputable def B4:List D->M D:=Az .frz 4 1 (BU (Ah 6))
noncomputable def BD:List D->M D:=Az .drop 3 1 (A1 B4)
noncomputable def BK:List D->M D:=Az .all 4 2 (BJ BD)
noncomputable def Bk:List D->M D:=Az .drop 2 1 (Bi)
noncomputable def CG:List D->M D:=Az .drop 3 1 (Bg Bk)
noncomputable def CH:List D->M D:=Az .drop 1 1 (Bh BK CG)
noncomputable def DF:List D->M D:=Az .drop 3 3 (Cf)
noncomputable def DG:List D->M D:=Az .frz 6 2 (Cg DF)
noncomputable def DE:List D->M D:=Az .all 3 2 (Ce BK DG)
noncomputable def Iv:List D->M D:=Az .drop 15 1 (Ie DH Dk Dl (Aw 8) CH Bk DE)
end K21
namespace K21
open PySem L2 Mi
theorem SH {l:PySem.W.OpenLaw} {w:World} {K:PySem.W.Frag} {h:Heap} {mg:Str->Option Value} {fa:Addr} (hφ:∀ ns:List Int,ns.length <= 63->∃ μ',Iv [.scr ns] []=some (.bl true,μ')) (X:K.In h) (G:h.Ns mainGlobals mg) (hfa:mg "law" = some (.ref fa))
    (e_Lcell_at:∃ f fd,Df K "_law_cell_at" Ca f fd)
    (e_Lstream:∃ f fd,Df K "_law_stream" Cw f fd)
    (e_Lkind:∃ f fd,Df K "_law_kind" EB f fd)
    (e_Lexpr:∃ f fd,Df K "_law_expr" ED f fd)
    (e_Lrow:∃ f fd,Df K "_law_row" Fj f fd)
    (e_Lhand:∃ f fd,Df K "_law_hand" EC f fd)
    (e_Lmaking:∃ f fd,Df K "_law_making" Cy f fd)
    (e_Lnamed:∃ f fd,Df K "_law_named" DS f fd)
    (e_variables_in:∃ f fd,Df K "variables_in" BS f fd)
    (e_variables_of:∃ f fd,Df K "variables_of" BR f fd)
    (e_variables_of_rows:∃ f fd,Df K "variables_of_rows" A0 f fd)
    (e_Plan___init__:∃ C f fd,Di K "Plan" "Plan.__init__" BI C f fd)
    (e_claim_begun:∃ f fd,Df K "claim_begun" Be f fd)
    (e_stand_begun:∃ f fd,Df K "stand_begun" Bc f fd)
    (e_first_stand:∃ f fd,Df K "first_stand" Bd f fd)
    (e_picks_of:∃ f fd,Df K "picks_of" CY f fd)
    (e_moves_of:∃ f fd,Df K "moves_of" CZ f fd)
    (e_steps_of:∃ f fd,Df K "steps_of" CW f fd)
    (e_law:∃ f fd,Df K "law" IM f fd)
    (e_Plan:∃ C,Dc K "Plan" EO C)
    (z_enumerate:PySem.W.nsIn K mainGlobals "enumerate" = some none)
    (z_int:PySem.W.nsIn K mainGlobals "int" = some none)
    (z_isinstance:PySem.W.nsIn K mainGlobals "isinstance" = some none)
    (z_len:PySem.W.nsIn K mainGlobals "len" = some none)
    (z_range:PySem.W.nsIn K mainGlobals "range" = some none)
    (z_set:PySem.W.nsIn K mainGlobals "set" = some none)
    (z_sorted:PySem.W.nsIn K mainGlobals "sorted" = some none)
    (z_tuple:PySem.W.nsIn K mainGlobals "tuple" = some none)
    (z_zip:PySem.W.nsIn K mainGlobals "zip" = some none)
    (g_IDLE:Glo K mg "IDLE" GF)
    (g_NONE:Glo K mg "NONE" D6)
    (k_PARTS:Ps w K mg "PARTS" HI) :
    ∃ fd:FuncData,(∀ (s:Shared) (v:Value),BindsTo s fd ⟨[v],[]⟩ [("_law_script",v)]) /\ ∀ base:Heap,K.In base->base.Ns mainGlobals mg->FnOk l.prog w K mg base CX0 13 fa fd ["_law_script"] (KL K):=by
  have y_enumerate:=PySem.W.mg_none_of X G z_enumerate
  have y_int:=PySem.W.mg_none_of X G z_int
  have y_isinstance:=PySem.W.mg_none_of X G z_isinstance
  have y_len:=PySem.W.mg_none_of X G z_len
  have y_range:=PySem.W.mg_none_of X G z_range
  have y_set:=PySem.W.mg_none_of X G z_set
  have y_sorted:=PySem.W.mg_none_of X G z_sorted
  have y_tuple:=PySem.W.mg_none_of X G z_tuple
  have y_zip:=PySem.W.mg_none_of X G z_zip
  obtain ⟨fa_Lcell_at,fd_Lcell_at,d_Lcell_at⟩:=e_Lcell_at
  have Ch:=PySem.W.mg_of X G d_Lcell_at.a
  have b_Lcell_at:=d_Lcell_at.F.binds (ps:=["_law_script", "_law_k"]) fun _ _ _ _ _ _ us hl=>match us,hl with | [_,_],_=>rfl
  obtain ⟨fa_Lstream,fd_Lstream,d_Lstream⟩:=e_Lstream
  have C2:=PySem.W.mg_of X G d_Lstream.a
  have b_Lstream:=d_Lstream.F.binds (ps:=["_law_cell", "_law_size"]) fun _ _ _ _ _ _ us hl=>match us,hl with | [_,_],_=>rfl
  obtain ⟨fa_Lkind,fd_Lkind,d_Lkind⟩:=e_Lkind
  have EL:=PySem.W.mg_of X G d_Lkind.a
  have b_Lkind:=d_Lkind.F.binds (ps:=["_law_xs"]) fun _ _ _ _ _ _ us hl=>match us,hl with | [_],_=>rfl
  obtain ⟨fa_Lexpr,fd_Lexpr,d_Lexpr⟩:=e_Lexpr
  have Dj:=PySem.W.mg_of X G d_Lexpr.a
  have b_Lexpr:=d_Lexpr.F.binds (ps:=["_law_xs", "_law_names", "_law_deep"]) fun _ _ _ _ _ _ us hl=>match us,hl with | [_,_,_],_=>rfl
  obtain ⟨fa_Lrow,fd_Lrow,d_Lrow⟩:=e_Lrow
  have F2:=PySem.W.mg_of X G d_Lrow.a
  have b_Lrow:=d_Lrow.F.binds (ps:=["_law_xs", "_law_k", "_law_boxes", "_law_n"]) fun _ _ _ _ _ _ us hl=>match us,hl with | [_,_,_,_],_=>rfl
  obtain ⟨fa_Lhand,fd_Lhand,d_Lhand⟩:=e_Lhand
  have EM:=PySem.W.mg_of X G d_Lhand.a
  have b_Lhand:=d_Lhand.F.binds (ps:=["_law_xs", "_law_k", "_law_boxes", "_law_most"]) fun _ _ _ _ _ _ us hl=>match us,hl with | [_,_,_,_],_=>rfl
  obtain ⟨fa_Lmaking,fd_Lmaking,d_Lmaking⟩:=e_Lmaking
  have C3:=PySem.W.mg_of X G d_Lmaking.a
  have b_Lmaking:=d_Lmaking.F.binds (ps:=["_law_xs", "_law_most"]) fun _ _ _ _ _ _ us hl=>match us,hl with | [_,_],_=>rfl
  obtain ⟨fa_Lnamed,fd_Lnamed,d_Lnamed⟩:=e_Lnamed
  have B3:=PySem.W.mg_of X G d_Lnamed.a
  have b_Lnamed:=d_Lnamed.F.binds (ps:=["_law_part"]) fun _ _ _ _ _ _ us hl=>match us,hl with | [_],_=>rfl
  obtain ⟨fa_variables_in,fd_variables_in,d_variables_in⟩:=e_variables_in
  have Ar:=PySem.W.mg_of X G d_variables_in.a
  have b_variables_in:=d_variables_in.F.binds (ps:=["expression"]) fun _ _ _ _ _ _ us hl=>match us,hl with | [_],_=>rfl
  obtain ⟨fa_variables_of,fd_variables_of,d_variables_of⟩:=e_variables_of
  have BU:=PySem.W.mg_of X G d_variables_of.a
  have b_variables_of:=d_variables_of.F.binds (ps:=["row"]) fun _ _ _ _ _ _ us hl=>match us,hl with | [_],_=>rfl
  obtain ⟨fa_variables_of_rows,fd_variables_of_rows,d_variables_of_rows⟩:=e_variables_of_rows
  have A1:=PySem.W.mg_of X G d_variables_of_rows.a
  have b_variables_of_rows:=d_variables_of_rows.F.binds (ps:=["rows"]) fun _ _ _ _ _ _ us hl=>match us,hl with | [_],_=>rfl
  obtain ⟨Ca_Plan___init__,fa_Plan___init__,fd_Plan___init__,d_Plan___init__⟩:=e_Plan___init__
  have BJ:=PySem.W.mg_of X G d_Plan___init__.at_
  have b_Plan___init__:=d_Plan___init__.F.binds (ps:=["self", "making"]) fun _ _ _ _ _ _ us hl=>match us,hl with | [_,_],_=>rfl
  obtain ⟨fa_claim_begun,fd_claim_begun,d_claim_begun⟩:=e_claim_begun
  have Bi:=PySem.W.mg_of X G d_claim_begun.a
  have b_claim_begun:=d_claim_begun.F.binds (ps:=["making"]) fun _ _ _ _ _ _ us hl=>match us,hl with | [_],_=>rfl
  obtain ⟨fa_stand_begun,fd_stand_begun,d_stand_begun⟩:=e_stand_begun
  have Bg:=PySem.W.mg_of X G d_stand_begun.a
  have b_stand_begun:=d_stand_begun.F.binds (ps:=["plan"]) fun _ _ _ _ _ _ us hl=>match us,hl with | [_],_=>rfl
  obtain ⟨fa_first_stand,fd_first_stand,d_first_stand⟩:=e_first_stand
  have Bh:=PySem.W.mg_of X G d_first_stand.a
  have b_first_stand:=d_first_stand.F.binds (ps:=["making"]) fun _ _ _ _ _ _ us hl=>match us,hl with | [_],_=>rfl
  obtain ⟨fa_picks_of,fd_picks_of,d_picks_of⟩:=e_picks_of
  have Cf:=PySem.W.mg_of X G d_picks_of.a
  have b_picks_of:=d_picks_of.F.binds (ps:=["plan", "number", "hand"]) fun _ _ _ _ _ _ us hl=>match us,hl with | [_,_,_],_=>rfl
  obtain ⟨fa_moves_of,fd_moves_of,d_moves_of⟩:=e_moves_of
  have Cg:=PySem.W.mg_of X G d_moves_of.a
  have b_moves_of:=d_moves_of.F.binds (ps:=["plan", "stand"]) fun _ _ _ _ _ _ us hl=>match us,hl with | [_,_],_=>rfl
  obtain ⟨fa_steps_of,fd_steps_of,d_steps_of⟩:=e_steps_of
  have Ce:=PySem.W.mg_of X G d_steps_of.a
  have b_steps_of:=d_steps_of.F.binds (ps:=["making", "stand"]) fun _ _ _ _ _ _ us hl=>match us,hl with | [_,_],_=>rfl
  obtain ⟨fa_law,fd_law,d_law⟩:=e_law
  have Ie:=PySem.W.mg_of X G d_law.a
  have b_law:=d_law.F.binds (ps:=["_law_script"]) fun _ _ _ _ _ _ us hl=>match us,hl with | [_],_=>rfl
  obtain ⟨C_Plan,dc_Plan⟩:=e_Plan
  have e:=hfa.symm.trans Ie
  cases e
  refine ⟨fd_law,fun s v=>?_,fun base _ _=>?_⟩
  . obtain ⟨oc,od,kV,doc,pm,an,cdv,ct,osl,rfl,lk,hcd⟩:=d_law.F.ex
    exact .of_eq rfl
  have F_Lcell_at:Fn l.prog w K mg base "_law_cell_at" ["_law_script", "_law_k"] 1 DH:=A9 (k:=0) .drop d_Lcell_at.F sc_Lcell_at Ch b_Lcell_at (Ji y_len)
  have F_Lstream:Fn l.prog w K mg base "_law_stream" ["_law_cell", "_law_size"] 1 Dk:=A9 (k:=0) .all d_Lstream.F sc_Lstream C2 b_Lstream (LN y_range)
  have F_Lkind:Fn l.prog w K mg base "_law_kind" ["_law_xs"] 1 EQ:=A9 (k:=0) .drop d_Lkind.F sc_Lkind EL b_Lkind Oo
  have F_Lexpr:∀ n:Nat,Fn l.prog w K mg base "_law_expr" ["_law_xs", "_law_names", "_law_deep"] (n + 1) (Cn n):=fun n=>by
    induction n with
    | zero=>exact F9 d_Lexpr.F Dj b_Lexpr
    | succ n ih=>exact (A9 (k:=n + 1) .drop d_Lexpr.F sc_Lexpr Dj b_Lexpr (Oq ih (Nat.le_refl _) y_len)).mono (by omega)
  have F_Lrow:Fn l.prog w K mg base "_law_row" ["_law_xs", "_law_k", "_law_boxes", "_law_n"] 6 GB:=A9 (k:=5) .drop d_Lrow.F sc_Lrow F2 b_Lrow (Q3 (F_Lexpr 4) (by decide) y_int y_len)
  have F_Lhand:Fn l.prog w K mg base "_law_hand" ["_law_xs", "_law_k", "_law_boxes", "_law_most"] 7 FR:=A9 (k:=6) .drop d_Lhand.F sc_Lhand EM b_Lhand (Op F_Lrow (by decide) (F_Lexpr 4) (by decide) y_range y_len y_tuple)
  have F_Lmaking:Fn l.prog w K mg base "_law_making" ["_law_xs", "_law_most"] 8 Dl:=A9 (k:=7) .drop d_Lmaking.F sc_Lmaking C3 b_Lmaking (LO F_Lkind (by decide) F_Lhand (by decide) y_range y_tuple)
  have F_Lnamed:∀ n:Nat,Fn l.prog w K mg base "_law_named" ["_law_part"] (n + 1) (Aw n):=fun n=>by
    induction n with
    | zero=>exact F9 d_Lnamed.F B3 b_Lnamed
    | succ n ih=>exact (A9 (k:=n + 1) .drop d_Lnamed.F sc_Lnamed B3 b_Lnamed (Ml ih (Nat.le_refl _) y_tuple y_isinstance)).mono (by omega)
  have F_variables_in:∀ n:Nat,Fn l.prog w K mg base "variables_in" ["expression"] (n + 1) (Ah n):=fun n=>by
    induction n with
    | zero=>exact F9 d_variables_in.F Ar b_variables_in
    | succ n ih=>exact (A9 (k:=n + 1) .frz d_variables_in.F sc_variables_in Ar b_variables_in (Fq ih (Nat.le_refl _))).mono (by omega)
  have F_variables_of:Fn l.prog w K mg base "variables_of" ["row"] 8 B4:=A9 (k:=7) .frz d_variables_of.F sc_variables_of BU b_variables_of (Fp (F_variables_in 6) (by decide) y_zip k_PARTS)
  have F_variables_of_rows:Fn l.prog w K mg base "variables_of_rows" ["rows"] 9 BD:=A9 (k:=8) .drop d_variables_of_rows.F sc_variables_of_rows A1 b_variables_of_rows (Dp F_variables_of (by decide) y_sorted y_set)
  have F_Plan___init__:Ini l.prog w K mg base "Plan" ["self", "making"] 10 BK:=NV (k:=9) .all d_Plan___init__ sc_Plan___init__ BJ b_Plan___init__ (FC F_variables_of_rows (by decide) dc_Plan y_enumerate)
  have F_claim_begun:Fn l.prog w K mg base "claim_begun" ["making"] 1 Bk:=A9 (k:=0) .drop d_claim_begun.F sc_claim_begun Bi b_claim_begun (GX y_len g_NONE)
  have F_stand_begun:Fn l.prog w K mg base "stand_begun" ["plan"] 2 CG:=A9 (k:=1) .drop d_stand_begun.F sc_stand_begun Bg b_stand_begun (GV F_claim_begun (by decide) dc_Plan y_len y_tuple g_IDLE g_NONE)
  have F_first_stand:Fn l.prog w K mg base "first_stand" ["making"] 12 CH:=A9 (k:=11) .drop d_first_stand.F sc_first_stand Bh b_first_stand (GW F_Plan___init__ (by decide) F_stand_begun (by decide))
  have F_picks_of:Fn l.prog w K mg base "picks_of" ["plan", "number", "hand"] 1 DF:=A9 (k:=0) .drop d_picks_of.F sc_picks_of Cf b_picks_of (Jg dc_Plan y_tuple y_range g_IDLE)
  have F_moves_of:Fn l.prog w K mg base "moves_of" ["plan", "stand"] 2 DG:=A9 (k:=1) .frz d_moves_of.F sc_moves_of Cg b_moves_of (Jh F_picks_of (by decide) y_enumerate)
  have F_steps_of:Fn l.prog w K mg base "steps_of" ["making", "stand"] 12 DE:=A9 (k:=11) .all d_steps_of.F sc_steps_of Ce b_steps_of (Jf F_Plan___init__ (by decide) F_moves_of (by decide) dc_Plan)
  exact Qp (φ:=Iv) (Ir (k:=12) .drop d_law.F sc_law (Sn F_Lcell_at (by decide) F_Lstream (by decide) F_Lmaking (by decide) (F_Lnamed 8) (by decide) F_first_stand (by decide) F_claim_begun (by decide) F_steps_of (by decide) y_range y_len y_set y_int y_tuple)) hφ
end K21
namespace Mi
open PySem L2
section
variable {τ τ1 τ2:Sl} {μ μ1 μ2 μ3 μ4:Mh} {d x y z:D} {ds:List D} {ma mb mc me:Sl->M D} {tc tb:Sl->M Bool} {b:Bool} {m1 m2:Sl->M (Fl × Sl)} {g g':D->D->M D} {r:Fl × Sl}
theorem DI {i:Nat} (h:τ[i]? = some (some d)):AC i τ μ=some (d,μ):=by unfold AC; rw [h]
theorem QC {i j:Int} (h:0 < j):Am (.int i) (.int j) μ=some (.int (i % j),μ):=by show (if 0 < j then some (D.int (i % j),μ) else none)=_; rw [if_pos h]
theorem NL {i j:Int} (h:0 < j) (h2:j < 1073741824):AW (.int i) (.int j) μ=some (.int (i / j),μ):=by show (if 0 < j /\ j < 1073741824 then some (D.int (i / j),μ) else none)=_; rw [if_pos ⟨h,h2⟩]
theorem QA {i j:Int} (h:(-(2 ^ 64) < i /\ i < 2 ^ 64) ∨ (-(2 ^ 64) < j /\ j < 2 ^ 64)):EG (.int i) (.int j) μ=some (.int (i * j),μ):=by show (if (-(2 ^ 64) < i /\ i < 2 ^ 64) ∨ (-(2 ^ 64) < j /\ j < 2 ^ 64) then some (D.int (i * j),μ) else none)=_; rw [if_pos h]
theorem Kj {n:Nat} {ds:List D} {i:Int} (h:μ[n]? = some (.lst ds)) (h2:atI ds i=some d):Ab (.ref n) (.int i) μ=some (d,μ):=by
  show bnd (B6 (.ref n)) (fun ds=>ixD ds i) μ=_
  rw [A4 (show B6 (.ref n) μ=some (ds,μ) from by show (match μ[n]? with | some (.lst ds)=>some (ds,μ) | _=>none)=_; rw [h])]
  unfold ixD; rw [h2]; rfl
theorem QE {ds:List D} {i:Int} (h2:atI ds i=some d):Ab (.tup ds) (.int i) μ=some (d,μ):=by
  show bnd (B6 (.tup ds)) (fun ds=>ixD ds i) μ=_
  rw [A4 (show B6 (.tup ds) μ=some (ds,μ) from rfl)]
  unfold ixD; rw [h2]; rfl
theorem QF {ds:List D} {i:Int} (h2:atI ds i=some d):Ab (.lst ds) (.int i) μ=some (d,μ):=by
  show bnd (B6 (.lst ds)) (fun ds=>ixD ds i) μ=_
  rw [A4 (show B6 (.lst ds) μ=some (ds,μ) from rfl)]
  unfold ixD; rw [h2]; rfl
theorem P9 {n j:Nat} {k:Int} {ds:List D} (h:μ[n]? = some (.lst ds)) (h2:ixN ds.length k=some j):Ob (.ref n) (.int k) d μ=some ((),μ.set n (.lst (ds.set j d))):=by
  show (match μ[n]? with | some (.lst ds)=>(ixN ds.length k).map fun j=>((),μ.set n (.lst (ds.set j d))) | _=>none)=_
  rw [h]; show (ixN ds.length k).map _=_; rw [h2]; rfl
end
end Mi
local macro_rules | `(tactic| wtm_at "own qleaf")=>`(tactic| first | rfl | assumption)
local macro_rules | `(tactic| wtm_at "own qev")=>`(tactic| first
  | (with_reducible apply Mi.ev_nil) | (with_reducible apply Mi.ev_nilA) | (with_reducible apply Mi.ev_c) | (with_reducible apply Mi.ev_noPart) | (with_reducible apply Mi.ev_retN)
  | ((with_reducible apply Mi.DI); first | rfl | assumption)
  | ((with_reducible apply Mi.ev_seqR); wtm_at "own qev")
  | ((with_reducible apply Mi.ev_seq); (wtm_at "own qev"); (wtm_at "own qev"))
  | ((with_reducible apply Mi.ev_asg); (wtm_at "own qev"); (wtm_at "own qev"))
  | ((with_reducible apply Mi.ev_name); rfl)
  | ((with_reducible apply Mi.ev_sub); (wtm_at "own qev"); (wtm_at "own qev"); (wtm_at "own qev"))
  | ((with_reducible apply Mi.ev_expr); wtm_at "own qev")
  | ((with_reducible apply Mi.ev_ret); wtm_at "own qev")
  | ((with_reducible apply Mi.ev_ifT); (wtm_at "own qev"); (wtm_at "own qev"))
  | ((with_reducible apply Mi.ev_ifF); (wtm_at "own qev"); (wtm_at "own qev"))
  | ((with_reducible apply Mi.ev_op); (wtm_at "own qev"); (wtm_at "own qev"); (wtm_at "own qev"))
  | ((with_reducible apply Mi.ev_un); (wtm_at "own qev"); (wtm_at "own qev"))
  | ((with_reducible apply Mi.ev_disp); (wtm_at "own qev"); (wtm_at "own qev"))
  | ((with_reducible apply Mi.ev_consA); (wtm_at "own qev"); (wtm_at "own qev"))
  | ((with_reducible apply Mi.ev_meth); (wtm_at "own qev"); (wtm_at "own qev"); (wtm_at "own qev"); (wtm_at "own qev"))
  | ((with_reducible apply Mi.ev_test); wtm_at "own qev")
  | ((with_reducible apply Mi.ev_notT); wtm_at "own qev")
  | ((with_reducible apply Mi.ev_notF); wtm_at "own qev")
  | ((with_reducible apply Mi.ev_andT); (wtm_at "own qev"); (wtm_at "own qev"))
  | ((with_reducible apply Mi.ev_andF); wtm_at "own qev")
  | ((with_reducible apply Mi.ev_orF); (wtm_at "own qev"); (wtm_at "own qev"))
  | ((with_reducible apply Mi.ev_orT); wtm_at "own qev")
  | ((with_reducible apply Mi.ev_andVT); (wtm_at "own qev"); (wtm_at "own qev"))
  | ((with_reducible apply Mi.ev_andVF); wtm_at "own qev")
  | ((with_reducible apply Mi.ev_orVF); (wtm_at "own qev"); (wtm_at "own qev"))
  | ((with_reducible apply Mi.ev_orVT); wtm_at "own qev")
  | ((with_reducible apply Mi.ev_notVT); wtm_at "own qev")
  | ((with_reducible apply Mi.ev_notVF); wtm_at "own qev")
  | ((with_reducible apply Mi.ev_chainT); (wtm_at "own qev"); (wtm_at "own qev"); (wtm_at "own qev"); (wtm_at "own qev"); (wtm_at "own qev"))
  | ((with_reducible apply Mi.ev_chainF); (wtm_at "own qev"); (wtm_at "own qev"); (wtm_at "own qev"))
  | ((with_reducible apply Mi.ev_part); wtm_at "own qev")
  | ((with_reducible apply Mi.ev_sl); (wtm_at "own qev"); (wtm_at "own qev"); (wtm_at "own qev"); (wtm_at "own qev"))
  | wtm_at "own qleaf")
local macro_rules | `(tactic| wtm_at "own qnums")=>`(tactic| first | assumption | decide | omega)
local macro_rules | `(tactic| wtm_at "own qleaf")=>`(tactic| first
  | ((with_reducible apply Mi.l_le); wtm_at "own qnums") | ((with_reducible apply Mi.l_leF); wtm_at "own qnums") | ((with_reducible apply Mi.l_lt); wtm_at "own qnums") | ((with_reducible apply Mi.l_ltF); wtm_at "own qnums") | ((with_reducible apply Mi.l_gt); wtm_at "own qnums") | ((with_reducible apply Mi.l_gtF); wtm_at "own qnums")
  | (with_reducible apply Mi.l_inst_ii) | (with_reducible apply Mi.l_inst_ib) | (with_reducible apply Mi.l_inst_ss) | (with_reducible apply Mi.l_inst_tt) | (with_reducible apply Mi.l_add) | (with_reducible apply Mi.l_sub) | ((with_reducible apply Mi.QC); wtm_at "own qnums") | ((with_reducible apply Mi.NL); (wtm_at "own qnums"); (wtm_at "own qnums")) | ((with_reducible apply Mi.QA); first | (left; omega) | (right; omega))
  | ((with_reducible apply Mi.QE); rfl) | ((with_reducible apply Mi.QF); rfl) | ((with_reducible apply Mi.Kj); (first | assumption | rfl); (rfl)) | ((with_reducible apply Mi.P9); (first | assumption | rfl); (rfl)))
namespace Mi
open PySem L2
def WP {α:Type} (m:M α) (μ:Mh) (Q:α->Mh->Prop):Prop:=∃ a μ',m μ=some (a,μ') /\ Q a μ'
section
variable {α β:Type} {m:M α} {f:α->M β} {μ μ':Mh} {Q Q':α->Mh->Prop} {R:β->Mh->Prop} {a:α}
theorem AN (h:m μ=some (a,μ')) (q:Q a μ'):WP m μ Q:=⟨a,μ',h,q⟩
theorem AO (h:WP m μ Q) (k:∀ a μ',Q a μ'->Q' a μ'):WP m μ Q':=by
  obtain ⟨a,μ',e,q⟩:=h
  exact ⟨a,μ',e,k a μ' q⟩
theorem AR (h:WP m μ fun a μ1=>WP (f a) μ1 R):WP (bnd m f) μ R:=by
  obtain ⟨a,μ1,e,b,μ2,e2,q⟩:=h
  exact ⟨b,μ2,by rw [A4 e]; exact e2,q⟩
theorem A3 (q:Q a μ):WP (ret a) μ Q:=⟨a,μ,rfl,q⟩
end
section
variable {τ τ1:Sl} {μ μ1:Mh} {d x y:D} {ds:List D} {ma mb:Sl->M D} {ra:Sl->M (List D)} {tc tb:Sl->M Bool} {m1 m2:Sl->M (Fl × Sl)} {g:D->D->M D} {QD:D->Mh->Prop} {QB:Bool->Mh->Prop} {QL:List D->Mh->Prop} {QS:Fl × Sl->Mh->Prop} {QO:Option Int->Mh->Prop} {i j:Int} {k n:Nat}
theorem G9 {i:Nat} (h:τ[i]? = some (some d)) (q:QD d μ):WP (AC i τ) μ QD:=AN (DI h) q
theorem Tu (q:QD d μ):WP (mC d τ) μ QD:=⟨d,μ,rfl,q⟩
theorem SN (h:WP (ma τ) μ fun x μ1=>WP (mb τ) μ1 fun y μ2=>WP (g x y) μ2 QD):WP (mOp g ma mb τ) μ QD:=AR (AO h fun _ _ z=>AR z)
theorem Pw {u:D->M D} (h:WP (ma τ) μ fun x μ1=>WP (u x) μ1 QD):WP (mUn u ma τ) μ QD:=AR h
theorem OD {f:List D->M D} (h:WP (ra τ) μ fun ds μ1=>WP (f ds) μ1 QD):WP (AJ f ra τ) μ QD:=AR h
theorem N5 (q:QL [] μ):WP (AK τ) μ QL:=⟨[],μ,rfl,q⟩
theorem L7 (h:WP (ma τ) μ fun x μ1=>WP (ra τ) μ1 fun ds μ2=>QL (x :: ds) μ2):WP (AD ma ra τ) μ QL:=AR (AO h fun _ _ z=>AR (AO z fun _ _ z=>A3 z))
theorem QY {l h:Sl->M (Option Int)} (z:WP (ma τ) μ fun x μ1=>WP (l τ) μ1 fun a μ2=>WP (h τ) μ2 fun b μ3=>WP (Mn a b x) μ3 QD):WP (NH ma l h τ) μ QD:=AR (AO z fun _ _ z=>AR (AO z fun _ _ z=>AR z))
theorem K3 (q:QO none μ):WP (Fx τ) μ QO:=⟨none,μ,rfl,q⟩
theorem N3 (h:WP (ma τ) μ fun d μ1=>∃ i,d=.int i /\ QO (some i) μ1):WP (Ig ma τ) μ QO:=AR (AO h fun _ _ ⟨i,e,q⟩=>by subst e; exact A3 q)
theorem Qd {mc:Sl->M Bool} (h:WP (mc τ) μ fun b μ1=>(b=true->WP (ma τ) μ1 QD) /\ (b=false->WP (mb τ) μ1 QD)):WP (mIf mc ma mb τ) μ QD:=AR (AO h fun b _ z=>by cases b; exact z.2 rfl; exact z.1 rfl)
theorem Nw (h:WP (ma τ) μ fun d μ1=>∃ b,d=.bl b /\ QB b μ1):WP (Ag ma τ) μ QB:=AR (AO h fun _ _ ⟨b,e,q⟩=>by subst e; exact A3 q)
theorem Qc (h:WP (tc τ) μ fun b μ1=>QB (!b) μ1):WP (Rq tc τ) μ QB:=AR (AO h fun _ _ q=>A3 q)
def Pp (m:M Bool) (QB:Bool->Mh->Prop):Bool->Mh->Prop
  | true,μ=>WP m μ QB
  | false,μ=>QB false μ
def orK (m:M Bool) (QB:Bool->Mh->Prop):Bool->Mh->Prop
  | true,μ=>QB true μ
  | false,μ=>WP m μ QB
theorem Qj (h:WP (tc τ) μ (Pp (tb τ) QB)):WP (HZ tc tb τ) μ QB:=AR (AO h fun b _ z=>by cases b; exact A3 z; exact z)
theorem SM (h:WP (tc τ) μ (orK (tb τ) QB)):WP (mOr tc tb τ) μ QB:=AR (AO h fun b _ z=>by cases b; exact z; exact A3 z)
def Fb (m2:Sl->M (Fl × Sl)) (QS:Fl × Sl->Mh->Prop):Fl × Sl->Mh->Prop
  | (.next,τ1),μ1=>WP (m2 τ1) μ1 QS
  | r,μ1=>QS r μ1
theorem BP (h:WP (m2 τ1) μ1 QS):Fb m2 QS (.next,τ1) μ1:=h
theorem MC (h:QS (.rt d,τ1) μ1):Fb m2 QS (.rt d,τ1) μ1:=h
theorem L0 (h:WP (m1 τ) μ (Fb m2 QS)):WP (AV m1 m2 τ) μ QS:=AR (AO h fun r _ z=>by
  obtain ⟨fl,τ1⟩:=r
  cases fl
  . exact z
  . exact A3 z
  . exact A3 z
  . exact A3 z)
theorem OG {i:Nat} (h:WP (ma τ) μ fun d μ1=>QS (.next,τ.set i (some d)) μ1):WP (As ma (AQ i) τ) μ QS:=AR (AO h fun _ _ q=>AR (A3 (A3 q)))
theorem HF {bf:D->Sl->M Sl} (h:WP (ma τ) μ fun d μ1=>WP (bf d τ) μ1 fun τ1 μ2=>QS (.next,τ1) μ2):WP (As ma bf τ) μ QS:=AR (AO h fun _ _ q=>AR (AO q fun _ _ z=>A3 z))
theorem Qa (h:WP (ma τ) μ fun d μ1=>QS (.rt d,τ) μ1):WP (A5 ma τ) μ QS:=AR (AO h fun _ _ q=>A3 q)
theorem CQ (h:WP (ma τ) μ fun _ μ1=>QS (.next,τ) μ1):WP (Cb ma τ) μ QS:=AR (AO h fun _ _ q=>A3 q)
theorem Co (q:QS (.next,τ) μ):WP (Bu τ) μ QS:=⟨_,μ,rfl,q⟩
def ifK (m1 m2:Sl->M (Fl × Sl)) (τ:Sl) (QS:Fl × Sl->Mh->Prop):Bool->Mh->Prop
  | true,μ=>WP (m1 τ) μ QS
  | false,μ=>WP (m2 τ) μ QS
theorem Ax (h:WP (m1 τ) μ QS):ifK m1 m2 τ QS true μ:=h
theorem Ad (h:WP (m2 τ) μ QS):ifK m1 m2 τ QS false μ:=h
theorem SQ (h:WP (tc τ) μ (ifK m1 m2 τ QS)):WP (sIf tc m1 m2 τ) μ QS:=AR (AO h fun b _ z=>by cases b; exact z; exact z)
theorem Qg {src:Sl->M (List D)} {bf:D->Sl->M Sl} (h:WP (src τ) μ fun ds μ1=>WP (DM bf m1 ds τ) μ1 QS):WP (EE src bf m1 τ) μ QS:=AR h
def Kh (I:Sl->Mh->Prop) (QS:Fl × Sl->Mh->Prop):Fl × Sl->Mh->Prop
  | (.next,τ),μ=>I τ μ
  | (.cont,τ),μ=>I τ μ
  | (.brk,τ),μ=>QS (.next,τ) μ
  | (.rt d,τ),μ=>QS (.rt d,τ) μ
theorem An {I:Sl->Mh->Prop} (h:I τ μ):Kh I QS (.next,τ) μ:=h
theorem C6 {bf:D->Sl->M Sl} (I:List D->Sl->Mh->Prop) (step:∀ x xs τ μ,I (x :: xs) τ μ->WP (bf x τ) μ fun τ1 μ1=>WP (m1 τ1) μ1 (Kh (I xs) QS)) (fin:∀ τ μ,I [] τ μ->QS (.next,τ) μ):∀ {ds:List D} {τ:Sl} {μ:Mh},I ds τ μ->WP (DM bf m1 ds τ) μ QS
  | [],τ,μ,h=>A3 (fin τ μ h)
  | x :: xs,τ,μ,h=>AR (AO (step x xs τ μ h) fun τ1 μ1 z=>AR (AO z fun r μ2 z=>by
      obtain ⟨fl,τ2⟩:=r
      cases fl
      . exact C6 I step fin z
      . exact A3 z
      . exact C6 I step fin z
      . exact A3 z))
theorem L9 {QT:Sl->Mh->Prop} {i:Nat} (q:QT (τ.set i (some d)) μ):WP (AQ i d τ) μ QT:=⟨_,μ,rfl,q⟩
theorem Ct {QT:Sl->Mh->Prop} {i j:Nat} (q:QT ((τ.set i (some x)).set j (some y)) μ):WP (EV [i,j] (.tup [x,y]) τ) μ QT:=⟨_,μ,rfl,q⟩
theorem L8 {QT:Sl->Mh->Prop} {i j k:Nat} (q:QT (((τ.set i (some x)).set j (some y)).set k (some d)) μ):WP (EV [i,j,k] (.tup [x,y,d]) τ) μ QT:=⟨_,μ,rfl,q⟩
theorem OE {N:Nat} {ix:List Nat} {src:Sl->M (List D)} {bf:D->Sl->M Sl} {fin:List D->M D} (h:WP (src τ) μ fun ds μ1=>ds.length <= sizeLine /\ WP (Bs bf tc ma (Bz N ix τ) ds []) μ1 fun es μ2=>WP (fin es) μ2 QD):WP (Bj N ix src bf tc ma fin τ) μ QD:=AR (AO h fun ds μ1 z=>AR (AN (Ek z.1 μ1) (AR z.2)))
theorem FJ {bf:D->Sl->M Sl} {τ0:Sl} (I:List D->List D->Mh->Prop) (step:∀ x xs ys μ,I (x :: xs) ys μ->WP (bf x τ0) μ fun τ1 μ1=>WP (tc τ1) μ1 fun c μ2=>(c=true->WP (ma τ1) μ2 fun y μ3=>I xs (ys ++ [y]) μ3) /\ (c=false->I xs ys μ2)) (fin:∀ ys μ,I [] ys μ->QL ys μ):∀ {ds ys:List D} {μ:Mh},I ds ys μ->WP (Bs bf tc ma τ0 ds ys) μ QL
  | [],ys,μ,h=>A3 (fin ys μ h)
  | x :: xs,ys,μ,h=>AR (AO (step x xs ys μ h) fun τ1 μ1 z=>AR (AO z fun c μ2 z=>by
      cases c
      . exact FJ I step fin (z.2 rfl)
      . exact AR (AO (z.1 rfl) fun y μ3 z=>FJ I step fin z)))
theorem Nv (q:QB true μ):WP (Ci τ) μ QB:=⟨true,μ,rfl,q⟩
theorem OH (q:QD (.int (i + j)) μ):WP (BE (.int i) (.int j)) μ QD:=⟨_,μ,rfl,q⟩
theorem QW (q:QD (.int (i - j)) μ):WP (Fs (.int i) (.int j)) μ QD:=⟨_,μ,rfl,q⟩
theorem FU (h:0 < j) (q:QD (.int (i % j)) μ):WP (Am (.int i) (.int j)) μ QD:=AN (QC h) q
theorem OC (h:0 < j) (h2:j < 1073741824) (q:QD (.int (i / j)) μ):WP (AW (.int i) (.int j)) μ QD:=AN (NL h h2) q
theorem HD (h:(-(2 ^ 64) < i /\ i < 2 ^ 64) ∨ (-(2 ^ 64) < j /\ j < 2 ^ 64)) (q:QD (.int (i * j)) μ):WP (EG (.int i) (.int j)) μ QD:=AN (QA h) q
theorem SO (q:QD (.bl (decide (i < j))) μ):WP (Jj (.int i) (.int j)) μ QD:=⟨_,μ,rfl,q⟩
theorem SR (q:QD (.bl (decide (j < i))) μ):WP (LP (.int i) (.int j)) μ QD:=⟨_,μ,rfl,q⟩
theorem SS (q:QD (.bl (decide (j <= i))) μ):WP (Q7 (.int i) (.int j)) μ QD:=⟨_,μ,rfl,q⟩
theorem Qh (q:QD (.bl (i == j)) μ):WP (CI (.int i) (.int j)) μ QD:=⟨_,μ,rfl,q⟩
theorem OA {b:Bool} (q:QD (.int (if b then 1 else 0)) μ):WP (NT [.bl b]) μ QD:=⟨_,μ,rfl,q⟩
theorem N6 (h:ds.length <= sizeLine) (q:QD (.tup ds) μ):WP (A2 ds) μ QD:=by
  refine AN (a:=.tup ds) (μ':=μ) ?_ q
  unfold A2; rw [A4 (Ek h _)]; rfl
theorem Bl (h:ds.length <= sizeLine) (q:QD (.lst ds) μ):WP (BA ds) μ QD:=by
  refine AN (a:=.lst ds) (μ':=μ) ?_ q
  unfold BA; rw [A4 (Ek h _)]; rfl
theorem HB (h:ds.length <= sizeLine) (q:QD (.ref μ.length) (μ ++ [.lst ds])):WP (DW ds) μ QD:=by
  refine AN (a:=.ref μ.length) (μ':=μ ++ [.lst ds]) ?_ q
  unfold DW; rw [A4 (Ek h _)]
theorem CU (h2:atI ds i=some d) (q:QD d μ):WP (Ab (.tup ds) (.int i)) μ QD:=AN (QE h2) q
theorem CV (h2:atI ds i=some d) (q:QD d μ):WP (Ab (.lst ds) (.int i)) μ QD:=AN (QF h2) q
theorem QX (h:WP (ma τ) μ fun d μ1=>WP (Kx d) μ1 QL):WP (Dz ma τ) μ QL:=AR h
theorem Nx (q:QL ds μ):WP (Kx (.tup ds)) μ QL:=⟨_,μ,rfl,q⟩
theorem Ny (q:QL ds μ):WP (Kx (.lst ds)) μ QL:=⟨_,μ,rfl,q⟩
theorem N2 (h:WP (ra τ) μ fun ds μ1=>∃ j:Nat,ds=[.int j] /\ j < 1000000 /\ QL ((List.range j).map fun (i:Nat)=>.int (i:Int)) μ1):WP (Dr ra τ) μ QL:=AR (AO h fun ds μ1 ⟨j,e,hj,q⟩=>by
  subst e
  refine AN (a:=IP 0 j) (μ':=μ1) ?_ ?_
  . have hj2 : -(2 ^ 62) <= (j:Int) /\ (j:Int) < 2 ^ 62:=⟨by omega,by omega⟩
    unfold Mb
    simp only []
    rw [if_pos hj2]
  . have e:IP 0 (j:Int)=(List.range j).map fun (i:Nat)=>.int (i:Int):=by
      unfold IP
      rw [show ((j:Int) - 0).toNat=j by omega]
      congr 1
      funext i
      rw [Int.zero_add]
    rw [e]
    exact q)
theorem Nu (q:QD (.tup ds) μ):WP (CB [.lst ds]) μ QD:=⟨_,μ,rfl,q⟩
theorem G8 (h:μ[n]? = some (.lst ds)) (q:QD (.tup ds) μ):WP (CB [.ref n]) μ QD:=by
  refine AN (a:=.tup ds) (μ':=μ) ?_ q
  show bnd (A6 (.ref n)) (fun ds=>ret (D.tup ds)) μ=_
  rw [A4 (show A6 (.ref n) μ=some (ds,μ) from by show (match μ[n]? with | some (.lst ds)=>some (ds,μ) | _=>none)=_; rw [h])]
  rfl
theorem N7 (q:QD (.int ds.length) μ):WP (D3 [.tup ds]) μ QD:=⟨_,μ,rfl,q⟩
def Xs (μ:Mh) (n k:Nat):Prop:=∃ xs:List Int,μ[n]? = some (.lst (xs.map D.int)) /\ k <= xs.length
def XU (n:Nat) (μ μ':Mh):Prop:=∃ xs:List Int,μ'=μ.set n (.lst (xs.map D.int))
theorem Xs.lt {k:Nat} (h:Xs μ n k):n < μ.length:=by
  obtain ⟨_,h,_⟩:=h
  exact (List.getElem?_eq_some_iff.mp h).1
theorem Xs.mono {k k':Nat} (h:Xs μ n k) (le:k' <= k):Xs μ n k':=by
  obtain ⟨xs,h1,h2⟩:=h
  exact ⟨xs,h1,by omega⟩
theorem Xs.refl {k:Nat} (h:Xs μ n k):XU n μ μ:=by
  obtain ⟨xs,h1,_⟩:=h
  refine ⟨xs,?_⟩
  apply List.ext_getElem?
  intro j
  rw [List.getElem?_set]
  split
  . rename_i e
    subst e
    rw [if_pos (List.getElem?_eq_some_iff.mp h1).1]
    exact h1
  . rfl
theorem XU.trans {μ2:Mh} (h:XU n μ μ1) (h2:XU n μ1 μ2):XU n μ μ2:=by
  obtain ⟨xs,rfl⟩:=h
  obtain ⟨ys,rfl⟩:=h2
  exact ⟨ys,by rw [List.set_set]⟩
theorem XU.len (h:XU n μ μ1):μ1.length=μ.length:=by
  obtain ⟨xs,rfl⟩:=h
  simp
theorem XU.other (h:XU n μ μ1) {j:Nat} (hj:j ≠ n):μ1[j]? = μ[j]?:=by
  obtain ⟨xs,rfl⟩:=h
  rw [List.getElem?_set_ne fun e=>hj e.symm]
theorem SD {k:Nat}:∀ xs:List Int,ClL k (xs.map D.int)
  | []=>by unfold List.map ClL; trivial
  | x :: xs=>by unfold List.map ClL; exact ⟨by unfold Cl; trivial,SD xs⟩
theorem BW {gs:Mh} {k:Nat} {i:Nat} (ht:τ[i]? = some (some (.ref n))) (x:Xs μ n k) (hk:1 <= k) (q:∀ v μ1,XU n μ μ1->Xs μ1 n (k - 1)->QD (.int v) (μ1 ++ gs)):WP (AS BN (AC i) τ) (μ ++ gs) QD:=by
  have hlt:=x.lt
  obtain ⟨xs,h1,h2⟩:=x
  have hne:xs ≠ []:=fun e=>by rw [e] at h2; simp at h2; omega
  have h1':(μ ++ gs)[n]? = some (.lst (xs.map D.int)):=by rw [List.getElem?_append_left hlt]; exact h1
  have hlast:(xs.map D.int)[(xs.map D.int).length - 1]? = some (.int (xs.getLast hne)):=by
    rw [List.length_map,List.getElem?_map,← List.getLast?_eq_getElem?,List.getLast?_eq_some_getLast hne]
    rfl
  refine AN (a:=.int (xs.getLast hne)) (μ':=μ.set n (.lst (xs.dropLast.map D.int)) ++ gs) ?_ (q _ _ ⟨_,rfl⟩ ⟨xs.dropLast,by rw [List.getElem?_set_self hlt],by rw [List.length_dropLast]; omega⟩)
  unfold AS
  rw [A4 (DI ht)]
  have hg:CO (.ref n) (μ ++ gs)=some ((),μ ++ gs):=by
    unfold CO
    rw [A4 (show A6 (.ref n) (μ ++ gs)=some (xs.map D.int,μ ++ gs) from by show (match (μ ++ gs)[n]? with | some (.lst ds)=>some (ds,μ ++ gs) | _=>none)=_; rw [h1'])]
    rfl
  rw [A4 hg]
  show D9 n (fun ds=>(ds[ds.length - 1]?).map fun d=>(d,ds.dropLast)) (μ ++ gs)=_
  unfold D9
  rw [h1']
  dsimp only
  rw [hlast]
  show some (D.int (xs.getLast hne),(μ ++ gs).set n (.lst (xs.map D.int).dropLast))=_
  rw [List.set_append_left _ _ hlt,List.map_dropLast]
theorem Bw {k:Nat} {i:Nat} (ht:τ[i]? = some (some (.ref n))) (x:Xs μ n k) (hk:1 <= k) (q:∀ v μ1,XU n μ μ1->Xs μ1 n (k - 1)->QD (.int v) μ1):WP (AS BN (AC i) τ) μ QD:=by
  have:=BW (gs:=[]) (QD:=QD) ht x hk fun v μ1 u x=>by rw [List.append_nil]; exact q v μ1 u x
  rw [List.append_nil] at this
  exact this
theorem Db {gs:Mh} {i:Nat} (ht:τ[i]? = some (some (.ref gs.length))) (hs:ds.length < sizeLine) (h:WP (ra τ) (gs ++ [.lst ds]) fun es μ1=>∃ gs' y,es=[y] /\ μ1=gs' ++ [.lst ds] /\ gs'.length=gs.length /\ QD .non (gs' ++ [.lst (ds ++ [y])])):WP (BL Gd (AC i) ra τ) (gs ++ [.lst ds]) QD:=by
  unfold BL
  refine AR (AN (DI ht) ?_)
  have hg:CO (.ref gs.length) (gs ++ [.lst ds])=some ((),gs ++ [.lst ds]):=by
    unfold CO
    rw [A4 (show A6 (.ref gs.length) (gs ++ [.lst ds])=some (ds,gs ++ [.lst ds]) from by show (match (gs ++ [MO.lst ds])[gs.length]? with | some (.lst ds')=>some (ds',gs ++ [MO.lst ds]) | _=>none)=some (ds,gs ++ [MO.lst ds]); rw [List.getElem?_append_right (Nat.le_refl _)]; simp)]
    rfl
  refine AR (AN hg (AR (AO h ?_)))
  rintro es μ1 ⟨gs',y,rfl,rfl,hl,q⟩
  refine AN (a:=.non) (μ':=gs' ++ [.lst (ds ++ [y])]) ?_ q
  show D9 gs.length (fun ds=>if ds.length < sizeLine then some (.non,ds ++ [y]) else none) (gs' ++ [.lst ds])=_
  unfold D9
  rw [← hl,List.getElem?_append_right (Nat.le_refl _)]
  simp [hs]
theorem DQ {N ps:Nat} {mb:Sl->M (Fl × Sl)} {ds:List D} {QD:D->Mh->Prop} (hl:ds.length=ps) (h:WP (mb (Ba N ds)) μ fun r μ2=>∃ d τ2 μ1 gs,r=(.rt d,τ2) /\ μ2=μ1 ++ gs /\ XU n μ μ1 /\ Cl μ.length d /\ QD d μ1):WP (Az .drop N ps mb ds) μ QD:=by
  obtain ⟨r,μ2,e,d,τ2,μ1,gs,rfl,rfl,u,c,q⟩:=h
  have t:IU μ (μ1 ++ gs) .drop=μ1:=by show (μ1 ++ gs).take μ.length=μ1; rw [← u.len,List.take_left]
  refine AN (a:=d) (μ':=μ1) ?_ q
  have hh:=C5 (hw:=.drop) e hl (.inr ⟨d,rfl⟩) (by
    rw [t]
    refine ⟨⟨gs,rfl⟩,by rw [u.len]; exact Nat.le_refl _,fun j o e=>?_,.inl ⟨rfl,by rw [u.len]; exact c⟩⟩
    by_cases hj:j=n
    . subst hj
      obtain ⟨xs,rfl⟩:=u
      right
      rw [List.getElem?_set] at e
      simp at e
      obtain ⟨_,rfl⟩:=e
      exact SD xs
    . left; rw [← u.other hj]; exact e)
  rw [t] at hh
  exact hh
theorem By {N ps:Nat} {mb:Sl->M (Fl × Sl)} {ds:List D} {QD:D->Mh->Prop} (hl:ds.length=ps) (h:WP (mb (Ba N ds)) μ fun r μ2=>∃ d τ2 gs,r=(.rt d,τ2) /\ μ2=μ ++ gs /\ Cl μ.length d /\ QD d μ):WP (Az .drop N ps mb ds) μ QD:=by
  obtain ⟨r,μ2,e,d,τ2,gs,rfl,rfl,c,q⟩:=h
  exact AN (Jy e hl c) q
end
end Mi
namespace Mi
open PySem L2
mutual
def Pz:D->Prop
  | .non=>True
  | .int _=>True
  | .str x=>PyData.strOk x=true
  | .tup ds=>PzL ds
  | .lst ds=>PzL ds
  | _=>False
def PzL:List D->Prop
  | []=>True
  | d :: ds=>Pz d /\ PzL ds
end
mutual
def dpt:D->Nat
  | .tup ds=>Br ds + 1
  | .lst ds=>Br ds + 1
  | _=>0
def Br:List D->Nat
  | []=>0
  | d :: ds=>max (dpt d) (Br ds)
end
mutual
def toZ:D->PyData
  | .int i=>.int i
  | .str x=>.str x
  | .tup ds=>.tuple (Cj ds)
  | .lst ds=>.list (Cj ds)
  | _=>.none
def Cj:List D->List PyData
  | []=>[]
  | d :: ds=>toZ d :: Cj ds
end
mutual
theorem JY (μ:Mh):∀ {d:D},Pz d->toP μ d=some (toZ d)
  | .non,_=>rfl
  | .int _,_=>rfl
  | .str _,_=>rfl
  | .tup ds,h=>by unfold Pz at h; unfold toP toZ; rw [HH μ h]; rfl
  | .lst ds,h=>by unfold Pz at h; unfold toP toZ; rw [HH μ h]; rfl
  | .bl _,h | .ty _,h | .scr _,h | .ref _,h=>by unfold Pz at h; exact h.elim
theorem HH (μ:Mh):∀ {ds:List D},PzL ds->Du μ ds=some (Cj ds)
  | [],_=>by unfold Du Cj; rfl
  | d :: ds,h=>by
    unfold PzL at h
    unfold Du Cj
    rw [JY μ h.1,HH μ h.2]; rfl
end
mutual
theorem HG:∀ {d:D},Pz d->PyData.canLay0 (toZ d)=true /\ PyData.depth (toZ d)=dpt d
  | .non,_=>⟨rfl,rfl⟩
  | .int _,_=>⟨rfl,rfl⟩
  | .str _,h=>by unfold Pz at h; exact ⟨h,rfl⟩
  | .tup ds,h=>by
    unfold Pz at h
    obtain ⟨h1,h2⟩:=Fa h
    unfold toZ dpt
    exact ⟨h1,by show PyData.depthAll (Cj ds) + 1=_; rw [h2]⟩
  | .lst ds,h=>by
    unfold Pz at h
    obtain ⟨h1,h2⟩:=Fa h
    unfold toZ dpt
    exact ⟨h1,by show PyData.depthAll (Cj ds) + 1=_; rw [h2]⟩
  | .bl _,h | .ty _,h | .scr _,h | .ref _,h=>by unfold Pz at h; exact h.elim
theorem Fa:∀ {ds:List D},PzL ds->PyData.canLayAll0 (Cj ds)=true /\ PyData.depthAll (Cj ds)=Br ds
  | [],_=>by unfold Cj Br; exact ⟨rfl,rfl⟩
  | d :: ds,h=>by
    unfold PzL at h
    obtain ⟨h1,h2⟩:=HG h.1
    obtain ⟨h3,h4⟩:=Fa h.2
    unfold Cj Br
    refine ⟨?_,?_⟩
    . show (PyData.canLay0 (toZ d) && PyData.canLayAll0 (Cj ds))=true
      rw [h1,h3]; rfl
    . show max (PyData.depth (toZ d)) (PyData.depthAll (Cj ds))=_
      rw [h2,h4]
end
mutual
theorem eqZ:∀ {a b:D},Pz a->Pz b->(PyData.eqv (toZ a) (toZ b)=true ↔ a=b)
  | .non,b,_,hb=>by
    cases b <;> first | exact ⟨fun _=>rfl,fun _=>rfl⟩ | (unfold Pz at hb; exact hb.elim) | (unfold toZ; exact ⟨fun z=>(by cases z),fun z=>(by cases z)⟩)
  | .int i,b,_,hb=>by
    cases b with
    | int j=>exact ⟨fun z=>by have:(i == j)=true:=z; rw [beq_iff_eq.mp this],fun z=>by cases z; show (i == i)=true; simp⟩
    | _=>first | (unfold Pz at hb; exact hb.elim) | (unfold toZ; exact ⟨fun z=>(by cases z),fun z=>(by cases z)⟩)
  | .str i,b,_,hb=>by
    cases b with
    | str j=>exact ⟨fun z=>by have:(i == j)=true:=z; rw [beq_iff_eq.mp this],fun z=>by cases z; show (i == i)=true; simp⟩
    | _=>first | (unfold Pz at hb; exact hb.elim) | (unfold toZ; exact ⟨fun z=>(by cases z),fun z=>(by cases z)⟩)
  | .tup xs,b,ha,hb=>by
    cases b with
    | tup ys=>
      unfold Pz at ha hb
      unfold toZ
      have:=R9 ha hb
      exact ⟨fun z=>by rw [this.mp z],fun z=>by cases z; exact this.mpr rfl⟩
    | _=>first | (unfold Pz at hb; exact hb.elim) | (unfold toZ; exact ⟨fun z=>(by cases z),fun z=>(by cases z)⟩)
  | .lst xs,b,ha,hb=>by
    cases b with
    | lst ys=>
      unfold Pz at ha hb
      unfold toZ
      have:=R9 ha hb
      exact ⟨fun z=>by rw [this.mp z],fun z=>by cases z; exact this.mpr rfl⟩
    | _=>first | (unfold Pz at hb; exact hb.elim) | (unfold toZ; exact ⟨fun z=>(by cases z),fun z=>(by cases z)⟩)
  | .bl _,_,h,_ | .ty _,_,h,_ | .scr _,_,h,_ | .ref _,_,h,_=>by unfold Pz at h; exact h.elim
theorem R9:∀ {as bs:List D},PzL as->PzL bs->(PyData.eqvAll (Cj as) (Cj bs)=true ↔ as=bs)
  | [],[],_,_=>by unfold Cj; exact ⟨fun _=>rfl,fun _=>rfl⟩
  | [],_ :: _,_,_=>by unfold Cj; exact ⟨fun z=>(by cases z),fun z=>(by cases z)⟩
  | _ :: _,[],_,_=>by unfold Cj; exact ⟨fun z=>(by cases z),fun z=>(by cases z)⟩
  | a :: as,b :: bs,ha,hb=>by
    unfold PzL at ha hb
    unfold Cj
    have h1:=eqZ ha.1 hb.1
    have h2:=R9 ha.2 hb.2
    show (PyData.eqv (toZ a) (toZ b) && PyData.eqvAll (Cj as) (Cj bs))=true ↔ _
    rw [Bool.and_eq_true,h1,h2]
    exact ⟨fun ⟨x,y⟩=>by rw [x,y],fun z=>by cases z; exact ⟨rfl,rfl⟩⟩
end
section
variable {μ:Mh} {a b:D} {QD:D->Mh->Prop}
theorem Nd {neg:Bool} (ha:Pz a) (hb:Pz b) (da:dpt a <= 64) (db:dpt b <= 64):∃ e:Bool,(e=true ↔ a=b) /\ DT neg a b μ=some (.bl (if neg then !e else e),μ):=by
  refine ⟨PyData.eqv (toZ a) (toZ b),eqZ ha hb,?_⟩
  obtain ⟨a1,a2⟩:=HG ha
  obtain ⟨b1,b2⟩:=HG hb
  have s1:SeqAt.shaped (toZ a)=true:=by
    show (PyData.canLay0 (toZ a) && decide (PyData.depth (toZ a) <= 64))=true
    rw [a1,decide_eq_true (by omega)]; rfl
  have s2:SeqAt.shaped (toZ b)=true:=by
    show (PyData.canLay0 (toZ b) && decide (PyData.depth (toZ b) <= 64))=true
    rw [b1,decide_eq_true (by omega)]; rfl
  have e1:GT μ a=some (toZ a):=by
    cases a with
    | ref n=>unfold Pz at ha; exact ha.elim
    | _=>exact JY μ ha
  have e2:GT μ b=some (toZ b):=by
    cases b with
    | ref n=>unfold Pz at hb; exact hb.elim
    | _=>exact JY μ hb
  unfold DT
  rw [e1,e2]
  exact if_pos ⟨s1,s2⟩
theorem JS (ha:Pz a) (hb:Pz b) (da:dpt a <= 64) (db:dpt b <= 64) (q:∀ e:Bool,(e=true ↔ a=b)->QD (.bl e) μ):WP (CI a b) μ QD:=by
  obtain ⟨e,h1,h2⟩:=Nd (μ:=μ) (neg:=false) ha hb da db
  exact AN h2 (q e h1)
theorem JR (ha:Pz a) (hb:Pz b) (da:dpt a <= 64) (db:dpt b <= 64) (q:∀ e:Bool,(e=true ↔ a=b)->QD (.bl (!e)) μ):WP (EF a b) μ QD:=by
  obtain ⟨e,h1,h2⟩:=Nd (μ:=μ) (neg:=true) ha hb da db
  exact AN h2 (q e h1)
end
theorem Eh {α:Type} {f:α->D}:∀ {xs:List α},(∀ a ∈ xs,Pz (f a))->PzL (xs.map f)
  | [],_=>by unfold List.map PzL; trivial
  | x :: xs,h=>by unfold List.map PzL; exact ⟨h x List.mem_cons_self,Eh fun a ha=>h a (List.mem_cons_of_mem _ ha)⟩
theorem Dm {α:Type} {f:α->D} {k:Nat}:∀ {xs:List α},(∀ a ∈ xs,dpt (f a) <= k)->Br (xs.map f) <= k
  | [],_=>by unfold List.map Br; omega
  | x :: xs,h=>by
    unfold List.map Br
    have:=h x List.mem_cons_self
    have:=Dm fun a ha=>h a (List.mem_cons_of_mem x ha)
    omega
end Mi
namespace Mi
section
variable {b:Bool} {i:Int} {a c:D}
theorem MB {P:Bool->Prop} (h:P b):∃ b',D.bl b=D.bl b' /\ P b':=⟨b,rfl,h⟩
theorem OK {P:Int->Prop} (h:P i):∃ i',D.int i=D.int i' /\ P i':=⟨i,rfl,h⟩
theorem Cm {n:Nat} {P:Nat->Prop} (e:i=n) (hn:n < 1000000) (h:P n):∃ j:Nat,[D.int i]=[D.int j] /\ j < 1000000 /\ P j:=⟨n,by rw [e],hn,h⟩
end
end Mi
local macro_rules | `(tactic| wtm_at "own qwn")=>`(tactic| first | assumption | decide | omega | exact Nat.le_of_ble_eq_true rfl)
local macro_rules | `(tactic| wtm_at "own qws")=>`(tactic| first
  | (with_reducible apply Mi.L0) | (with_reducible apply Mi.BP) | (with_reducible apply Mi.OG) | (with_reducible apply Mi.Qa) | (with_reducible apply Mi.MC) | (with_reducible apply Mi.CQ) | (with_reducible apply Mi.Co) | (with_reducible apply Mi.SQ) | (with_reducible apply Mi.Ax) | (with_reducible apply Mi.Ad) | (with_reducible apply Mi.SN) | (with_reducible apply Mi.Tu) | ((with_reducible apply Mi.G9); rfl) | (with_reducible apply Mi.L7) | (with_reducible apply Mi.N5) | (with_reducible apply Mi.OD) | (with_reducible apply Mi.Pw)
  | (with_reducible apply Mi.Nw) | (with_reducible apply Mi.MB) | (with_reducible apply Mi.Qc) | (with_reducible apply Mi.Qj) | (with_reducible apply Mi.SM) | (with_reducible apply Mi.Qg) | (with_reducible apply Mi.OE) | (with_reducible apply Mi.QX) | (with_reducible apply Mi.Nx) | (with_reducible apply Mi.Ny) | (with_reducible apply Mi.N2) | (with_reducible apply Mi.QY) | (with_reducible apply Mi.K3) | (with_reducible apply Mi.N3) | (with_reducible apply Mi.OK)
  | (with_reducible apply Mi.OH) | (with_reducible apply Mi.wq_add) | (with_reducible apply Mi.QW) | (with_reducible apply Mi.SO) | (with_reducible apply Mi.SR) | (with_reducible apply Mi.SS) | (with_reducible apply Mi.Qh) | (with_reducible apply Mi.wq_neI) | (with_reducible apply Mi.wq_isF) | (with_reducible apply Mi.wq_isT) | (with_reducible apply Mi.OA) | (with_reducible apply Mi.wq_neB) | (with_reducible apply Mi.wq_tupT) | (with_reducible apply Mi.Nu) | (with_reducible apply Mi.N7) | (with_reducible apply Mi.Nv) | (with_reducible apply Mi.L9)
  | ((with_reducible apply Mi.FU); (wtm_at "own qwn")) | ((with_reducible apply Mi.OC); (wtm_at "own qwn"); (wtm_at "own qwn")) | ((with_reducible apply Mi.N6); (wtm_at "own qwn")) | ((with_reducible apply Mi.Bl); (wtm_at "own qwn")) | ((with_reducible apply Mi.HB); (wtm_at "own qwn")) | ((with_reducible apply Mi.CU); rfl) | ((with_reducible apply Mi.CV); rfl))
local macro_rules | `(tactic| wtm_at "own qwr")=>`(tactic| repeat wtm_at "own qws")
namespace Mi
open PySem L2
section
variable {τ τ1:Sl} {μ μ1:Mh} {d x y:D} {ds:List D} {ma mb:Sl->M D} {ra:Sl->M (List D)} {tc tb:Sl->M Bool} {m1 m2:Sl->M (Fl × Sl)} {QD:D->Mh->Prop} {QL:List D->Mh->Prop} {QS:Fl × Sl->Mh->Prop}
theorem BO {α:Type} (f:α->D) (p:α->Bool) (F:α->D) {bf:D->Sl->M Sl} {τ0:Sl} {xs:List α} (h:∀ a ∈ xs,WP (bf (f a) τ0) μ fun τ1 μ1=>μ1=μ /\ WP (tc τ1) μ fun c μ2=>c=p a /\ μ2=μ /\ (p a=true->WP (ma τ1) μ fun y μ3=>y=F a /\ μ3=μ)) (q:QL ((xs.filter p).map F) μ):WP (Bs bf tc ma τ0 (xs.map f) []) μ QL:=by
  refine FJ (I:=fun rest ys μ'=>∃ a b,a ++ b=xs /\ rest=b.map f /\ ys=(a.filter p).map F /\ μ'=μ) (fun z zs ys μ' hI=>?_) (fun ys μ' hI=>?_) ⟨[],xs,rfl,rfl,rfl,rfl⟩
  . obtain ⟨a,b,hab,hr,rfl,rfl⟩:=hI
    cases b with
    | nil=>cases hr
    | cons w b=>
      rw [List.map_cons] at hr
      obtain ⟨e1,e2⟩:=List.cons.inj hr
      subst e1
      have hw:w ∈ xs:=by rw [← hab]; simp
      refine AO (h w hw) fun τ1 μ1 ⟨e,z⟩=>?_
      subst e
      refine AO z fun c μ2 ⟨e3,e4,z2⟩=>?_
      subst e3 e4
      refine ⟨fun hc=>AO (z2 hc) fun y μ3 ⟨e5,e6⟩=>?_,fun hc=>?_⟩
      . subst e5 e6
        exact ⟨a ++ [w],b,by rw [← hab]; simp,e2,by rw [List.filter_append,List.map_append,List.filter_cons_of_pos hc]; rfl,rfl⟩
      . exact ⟨a ++ [w],b,by rw [← hab]; simp,e2,by rw [List.filter_append,List.map_append,List.filter_cons_of_neg (by rw [hc]; exact Bool.false_ne_true)]; simp,rfl⟩
  . obtain ⟨a,b,hab,hr,rfl,rfl⟩:=hI
    cases b with
    | cons w b=>cases hr
    | nil=>
      rw [List.append_nil] at hab
      subst hab
      exact q
theorem Dt (h:WP (ra τ) μ fun ds μ1=>∃ xs ys,ds=[.tup xs,.tup ys] /\ ys.length=xs.length /\ QL (FB xs ys) μ1):WP (Rp ra τ) μ QL:=AR (AO h fun ds μ1 ⟨xs,ys,e,hl,q⟩=>by
  subst e
  refine AN (a:=FB xs ys) (μ':=μ1) ?_ q
  exact if_pos hl)
theorem Bm {x y:Str} (h1:PyData.strOk x=true) (h2:PyData.strOk y=true) (q:QD (.bl (x == y)) μ):WP (CI (.str x) (.str y)) μ QD:=by
  refine JS (by unfold Pz; exact h1) (by unfold Pz; exact h2) (by show 0 <= 64; omega) (by show 0 <= 64; omega) fun e he=>?_
  have:e=(x == y):=by
    rw [Bool.eq_iff_iff,he,beq_iff_eq]
    exact ⟨fun z=>by cases z; rfl,fun z=>by rw [z]⟩
  rw [this]
  exact q
end
end Mi
set_option maxHeartbeats 1000000
namespace K21
open PySem L2 Mi
inductive Ex where
  | num (n:Int)
  | var (x:Str)
  | neg (e:Ex)
  | bin (w:Str) (a b:Ex)
def Ex.toD:Ex->D
  | .num n=>.tup [.str "num",.int n]
  | .var x=>.tup [.str "var",.str x]
  | .neg e=>.tup [.str "not",e.toD]
  | .bin w a b=>.tup [.str w,a.toD,b.toD]
def Ex.vars:Ex->List Str
  | .num _=>[]
  | .var x=>[x]
  | .neg e=>e.vars
  | .bin _ a b=>a.vars ++ b.vars
abbrev Hz:List Str:=["+", "-", "=", "<", "and", "or", "="]
abbrev CL:List Str:=["x", "y", "v"]
def Ex.Ok:Nat->Ex->Prop
  | _,.num _=>True
  | _,.var x=>x ∈ CL
  | 0,.neg _=>False
  | d + 1,.neg e=>e.Ok d
  | 0,.bin _ _ _=>False
  | d + 1,.bin w a b=>w ∈ Hz /\ a.Ok d /\ b.Ok d
def EU:Nat->Nat
  | 0=>2
  | d + 1=>2 + 2 * EU d
theorem Nl (d:Nat):2 <= EU d:=by cases d <;> unfold EU <;> omega
theorem GD (k:Nat):∀ e:Ex,Cl k e.toD
  | .num n=>by unfold Ex.toD Cl ClL; refine ⟨?_,?_⟩ <;> (simp [Cl,ClL])
  | .var x=>by unfold Ex.toD Cl ClL; refine ⟨?_,?_⟩ <;> (simp [Cl,ClL])
  | .neg e=>by
    have:=GD k e
    unfold Ex.toD
    simp [Cl,ClL,this]
  | .bin w a b=>by
    have:=GD k a
    have:=GD k b
    unfold Ex.toD
    simp [Cl,ClL, *]
theorem GN {xs:List Str} (h:xs ≠ []) (i:Int):∃ w ∈ xs,atI (xs.map D.str) (i % (xs.length:Int))=some (.str w):=by
  have hl:0 < xs.length:=List.length_pos_iff.mpr h
  have h1:=Int.emod_nonneg i (show (xs.length:Int) ≠ 0 by omega)
  have h2:=Int.emod_lt_of_pos i (show (0:Int) < xs.length by omega)
  obtain ⟨k,hk⟩:=Int.eq_ofNat_of_zero_le h1
  have hlt:k < xs.length:=by omega
  refine ⟨xs[k],List.getElem_mem hlt,?_⟩
  rw [hk]
  unfold atI ixN
  rw [if_pos (by omega),if_pos (by rw [List.length_map]; omega)]
  simp [hlt]
theorem FH {μ:Mh} {QD:D->Mh->Prop} {ds:List D} (q:QD (.int ds.length) μ):WP (D3 [.lst ds]) μ QD:=⟨_,μ,rfl,q⟩
theorem OJ {m:M Bool} {QB:Bool->Mh->Prop} {μ:Mh} (h:QB true μ):orK m QB true μ:=h
theorem KB {m:M Bool} {QB:Bool->Mh->Prop} {μ:Mh} (h:WP m μ QB):orK m QB false μ:=h
section
variable {μ:Mh} {QD:D->Mh->Prop} {m k:Nat}
theorem CQ:∀ (d n:Nat) {ns:List Str} {μ:Mh} {QD:D->Mh->Prop} {k:Nat},d < n->ns ≠ []->(∀ x ∈ ns,x ∈ CL)->Xs μ m k->EU d <= k->(∀ e μ1,Ex.Ok d e->XU m μ μ1->Xs μ1 m (k - EU d)->QD e.toD μ1)->WP (Cn n [.ref m,.lst (ns.map D.str),.int (d:Int)]) μ QD
  | d,0,_,_,_,_,h,_,_,_,_,_=>absurd h (Nat.not_lt_zero d)
  | d,n + 1,ns,μ,QD,k,h,h1,h2,x,hk,q=>by
    have cp:=Nl d
    unfold Cn
    refine DQ (n:=m) rfl ?_
    unfold Dj
    wtm_at "own qwr"
    refine Bw (k:=k) rfl x (by omega) fun v μ1 u1 x1=>?_
    wtm_at "own qwr"
    have leaf:WP ((AV (sIf (Ag (mOp CI (mOp Am (AC 3) (mC (.int 2))) (mC (.int 0)))) (A5 (AJ A2 (AD (mC (.str "num")) (AD (mOp Am (mOp AW (AS BN (AC 0)) (mC (.int 3))) (mC (.int 4))) AK)))) Bu)
      (A5 (AJ A2 (AD (mC (.str "var")) (AD (mOp Ab (AC 1) (mOp Am (mOp AW (AS BN (AC 0)) (mC (.int 3))) (AJ D3 (AD (AC 1) AK)))) AK))))) [some (.ref m),some (.lst (ns.map D.str)),some (.int (d:Int)),some (.int (v / 3 % 9)),none,none]) μ1 (fun r μ2=>∃ e τ2 μ3,r=(Fl.rt (Ex.toD e),τ2) /\ μ2=μ3 /\ Ex.Ok d e /\ XU m μ μ3 /\ Xs μ3 m (k - 2)):=by
      wtm_at "own qwr"
      cases e:(v / 3 % 9 % 2 == (0:Int)) with
      | true=>
        refine Ax ?_
        wtm_at "own qwr"
        refine Bw (k:=k - 1) rfl x1 (by omega) fun v2 μ2 u2 x2=>?_
        wtm_at "own qwr"
        exact ⟨.num (v2 / 3 % 4),_,_,rfl,rfl,by unfold Ex.Ok; trivial,u1.trans u2,x2.mono (by omega)⟩
      | false=>
        refine Ad ?_
        wtm_at "own qwr"
        refine Bw (k:=k - 1) rfl x1 (by omega) fun v2 μ2 u2 x2=>?_
        wtm_at "own qwr"
        refine FH ?_
        rw [List.length_map]
        have lp:0 < ns.length:=List.length_pos_iff.mpr h1
        refine FU (by omega) ?_
        obtain ⟨w,hw,ew⟩:=GN h1 (v2 / 3)
        refine CV ew ?_
        wtm_at "own qwr"
        exact ⟨.var w,_,_,rfl,rfl,by unfold Ex.Ok; exact h2 w hw,u1.trans u2,x2.mono (by omega)⟩
    have toEnd:∀ {m2:Sl->M (Fl × Sl)} {r:Fl × Sl} {μ2:Mh},(∃ e τ2 μ3,r=(Fl.rt (Ex.toD e),τ2) /\ μ2=μ3 /\ Ex.Ok d e /\ XU m μ μ3 /\ Xs μ3 m (k - 2))->Fb m2 (fun r μ2=>∃ d τ2 μ1 gs,r=(.rt d,τ2) /\ μ2=μ1 ++ gs /\ XU m μ μ1 /\ Cl μ.length d /\ QD d μ1) r μ2:=fun ⟨e,τ2,μ3,z1,z2,ok,u,x⟩=>by
      rw [z1,z2]
      have x':Xs μ3 m (k - EU d):=x.mono (by omega)
      exact MC ⟨_,_,μ3,[],rfl,by simp,u,GD _ e,q e μ3 ok u x'⟩
    cases d with
    | zero=>
      refine OJ (Ax ?_)
      exact AO leaf fun r μ2 z=>toEnd z
    | succ d=>
      have ne:(((d + 1:Nat):Int) == 0)=false:=beq_eq_false_iff_ne.mpr (by omega)
      rw [ne]
      refine KB ?_
      wtm_at "own qwr"
      by_cases lt:v / 3 % 9 < 4
      . rw [decide_eq_true lt]
        refine Ax ?_
        exact AO leaf fun r μ2 z=>toEnd z
      . rw [decide_eq_false lt]
        refine Ad ?_
        have cd:EU (d + 1)=2 + 2 * EU d:=rfl
        have ed:((d + 1:Nat):Int) - 1=(d:Int):=by omega
        wtm_at "own qwr"
        cases e4:(v / 3 % 9 == (4:Int)) with
        | true=>
          refine Ax ?_
          wtm_at "own qwr"
          rw [ed]
          refine CQ d n (by omega) h1 h2 x1 (by omega) fun e μ2 ok u2 x2=>?_
          wtm_at "own qwr"
          exact ⟨_,_,μ2,[],rfl,by simp,u1.trans u2,GD _ (.neg e),q (.neg e) μ2 ok (u1.trans u2) (x2.mono (by omega))⟩
        | false=>
          refine Ad ?_
          wtm_at "own qwr"
          refine Bw (k:=k - 1) rfl x1 (by omega) fun v2 μ2 u2 x2=>?_
          wtm_at "own qwr"
          obtain ⟨w,hw,ew⟩:=GN (xs:=Hz) (by decide) (v2 / 3)
          refine CV ew ?_
          wtm_at "own qwr"
          rw [ed]
          refine CQ d n (by omega) h1 h2 x2 (by omega) fun ea μ3 oa u3 x3=>?_
          wtm_at "own qwr"
          rw [ed]
          refine CQ d n (by omega) h1 h2 x3 (by omega) fun eb μ4 ob u4 x4=>?_
          wtm_at "own qwr"
          have u:=((u1.trans u2).trans u3).trans u4
          exact ⟨_,_,μ4,[],rfl,by simp,u,GD _ (.bin w ea eb),q (.bin w ea eb) μ4 ⟨hw,oa,ob⟩ u (x4.mono (by omega))⟩
end
end K21
set_option maxHeartbeats 1000000
namespace K21
open PySem L2 Mi
inductive Rw where
  | put (b:Str) (e:Ex)
  | get (x b:Str)
  | lett (x:Str) (e:Ex)
  | unl (e:Ex) (t:Int)
  | jump (t:Int)
  | tell (e:Ex)
  | fin
def Rw.toD:Rw->D
  | .put b e=>.tup [.str "put",.str b,e.toD]
  | .get x b=>.tup [.str "get",.str x,.str b]
  | .lett x e=>.tup [.str "let",.str x,e.toD]
  | .unl e t=>.tup [.str "unless",e.toD,.int t]
  | .jump t=>.tup [.str "jump",.int t]
  | .tell e=>.tup [.str "tell",e.toD]
  | .fin=>.tup [.str "done"]
def Rw.vars:Rw->List Str
  | .put _ e=>e.vars
  | .get x _=>[x]
  | .lett x e=>x :: e.vars
  | .unl e _=>e.vars
  | .jump _=>[]
  | .tell e=>e.vars
  | .fin=>[]
abbrev D7:List Str:=["a", "b", "c"]
def Rw.Ok:Rw->Prop
  | .put b e=>b ∈ D7 /\ e.Ok 2
  | .get x b=>x ∈ CL /\ b ∈ D7
  | .lett x e=>x ∈ CL /\ e.Ok 2
  | .unl e _=>e.Ok 2
  | .tell e=>e.Ok 2
  | _=>True
structure Bx where
  nm:Str
  kd:Str
  sz:Int
  bg:Int
  wr:Str
abbrev Bx.toD (b:Bx):D:=.tup [.str b.nm,.str b.kd,.int b.sz,.int b.bg,.str b.wr]
structure Bx.Ok (b:Bx):Prop where
  nm:b.nm ∈ D7
  kd:b.kd ∈ (["safe", "steady", "whole"]:List Str)
  wr:b.wr ∈ (["w", "r"]:List Str)
theorem Gk (k:Nat) (r:Rw):Cl k r.toD:=by
  cases r <;> unfold Rw.toD <;> simp [Cl,ClL,GD]
theorem QQ (k:Nat):∀ bs:List Bx,ClL k (bs.map Bx.toD)
  | []=>by unfold List.map ClL; trivial
  | b :: bs=>by
    have:=QQ k bs
    rw [List.map_cons]
    simp [ClL,Cl,this]
abbrev Js:List Str:=["w", "r", "s"]
theorem Ly {k:Nat} (h:k < 3):∃ c ∈ Js,∀ μ:Mh,Ab (.str "wrs") (.int (k:Int)) μ=some (.str c,μ):=by
  match k,h with
  | 0,_=>exact ⟨"w",by decide +kernel,fun μ=>by rfl⟩
  | 1,_=>exact ⟨"r",by decide +kernel,fun μ=>by rfl⟩
  | 2,_=>exact ⟨"s",by decide +kernel,fun μ=>by rfl⟩
theorem Pv (i:Int):∃ c ∈ CL,∀ μ:Mh,Ab (.str "xy") (.int (i % 2)) μ=some (.str c,μ):=by
  rcases (show i % 2=0 ∨ i % 2=1 by omega) with z | z <;> rw [z]
  . exact ⟨"x",by decide +kernel,fun μ=>by rfl⟩
  . exact ⟨"y",by decide +kernel,fun μ=>by rfl⟩
theorem TQ:∀ c ∈ Js,PyData.strOk c=true:=by decide +kernel
theorem M9:∀ c ∈ D7,PyData.strOk c=true:=by decide +kernel
end K21
set_option maxHeartbeats 1000000
namespace K21
open PySem L2 Mi
theorem Ix {μ:Mh} {n:Nat} {ds:List D} {neg:Bool} {b:D} (h:μ[n]? = some (.lst ds)):DT neg (.ref n) b μ=DT neg (.lst ds) b μ:=by
  have:GT μ (.ref n)=GT μ (.lst ds):=by
    unfold GT
    dsimp only
    rw [h]
    unfold toP
    rfl
  unfold DT
  rw [this]
theorem D8 {μ:Mh} {QD:D->Mh->Prop} {ds:List D} (hp:PzL ds) (hd:Br ds <= 60) (q:QD (.bl (!ds.isEmpty)) μ):WP (EF (.lst ds) (.lst [])) μ QD:=by
  refine JR (by unfold Pz; exact hp) (by unfold Pz PzL; trivial) (by unfold dpt; omega) (by unfold dpt Br; omega) fun e he=>?_
  have:e=ds.isEmpty:=by
    rw [Bool.eq_iff_iff,he,List.isEmpty_iff]
    exact ⟨fun z=>by cases z; rfl,fun z=>by rw [z]⟩
  rw [this]
  exact q
theorem Gf {μ:Mh} {QD:D->Mh->Prop} {ds:List D} {n:Nat} (h:μ[n]? = some (.lst ds)) (hp:PzL ds) (hd:Br ds <= 60) (q:QD (.bl (!ds.isEmpty)) μ):WP (EF (.ref n) (.lst [])) μ QD:=by
  obtain ⟨a,μ',e,z⟩:=D8 (μ:=μ) (QD:=QD) hp hd q
  exact ⟨a,μ',(Ix h).trans e,z⟩
theorem N8 {μ:Mh} {QD:D->Mh->Prop} {ds:List D} {n:Nat} (h:μ[n]? = some (.lst ds)) (q:QD (.int ds.length) μ):WP (D3 [.ref n]) μ QD:=by
  refine AN (a:=.int ds.length) (μ':=μ) ?_ q
  unfold D3
  dsimp only
  rw [h]
theorem J8 {τ:Sl} {μ:Mh} {QL:List D->Mh->Prop} {i n:Nat} {ds:List D} (ht:τ[i]? = some (some (.ref n))) (h:μ[n]? = some (.lst ds)) (q:QL ds μ):WP (Kg (AC i) τ) μ QL:=by
  refine AR (AN (DI ht) ?_)
  refine AN (a:=ds) (μ':=μ) ?_ q
  unfold QR
  dsimp only
  rw [h]
theorem Eu {m:M Bool} {QB:Bool->Mh->Prop} {b:Bool} {μ:Mh} (h:b=true->WP m μ fun c μ'=>c=false /\ μ'=μ) (q:QB false μ):Pp m QB b μ:=by
  cases b with
  | false=>exact q
  | true=>exact AO (h rfl) fun c μ' ⟨e1,e2⟩=>by rw [e1,e2]; exact q
theorem Ky {m:M Bool} {QB:Bool->Mh->Prop} {b:Bool} {μ:Mh} (hb:b=true) (h:WP m μ fun c μ'=>c=true /\ μ'=μ) (q:QB true μ):Pp m QB b μ:=by
  rw [hb]
  exact AO h fun c μ' ⟨e1,e2⟩=>by rw [e1,e2]; exact q
theorem KR:∀ {xs:List Str},(∀ x ∈ xs,PyData.strOk x=true)->PzL (xs.map D.str):=fun h=>Eh fun x hx=>by unfold Pz; exact h x hx
theorem GE (xs:List Str):Br (xs.map D.str) <= 60:=Nat.le_trans (Dm (k:=0) fun x _=>Nat.le_refl 0) (by decide)
theorem P7:∀ c ∈ (["safe", "steady", "whole"]:List Str),PyData.strOk c=true:=by decide +kernel
theorem P6:∀ c ∈ (["w", "r"]:List Str),PyData.strOk c=true:=by decide +kernel
theorem Mm {bs:List Bx} (h:∀ b ∈ bs,b.Ok):PzL (bs.map Bx.toD):=Eh fun b hb=>by
  have o:=h b hb
  unfold Pz
  refine ⟨by unfold Pz; exact M9 _ o.nm,by unfold Pz; exact P7 _ o.kd,by unfold Pz; trivial,by unfold Pz; trivial,by unfold Pz; exact P6 _ o.wr,?_⟩
  unfold PzL
  trivial
theorem Kr (bs:List Bx):Br (bs.map Bx.toD) <= 60:=Nat.le_trans (Dm (k:=1) fun b _=>by
  show dpt (Bx.toD b) <= 1
  unfold Bx.toD
  simp [dpt,Br]) (by decide)
theorem Tq {bs:List Bx} (h:bs ≠ []) (i:Int):∃ b ∈ bs,atI (bs.map Bx.toD) (i % (bs.length:Int))=some b.toD:=by
  have hl:0 < bs.length:=List.length_pos_iff.mpr h
  have h1:=Int.emod_nonneg i (show (bs.length:Int) ≠ 0 by omega)
  have h2:=Int.emod_lt_of_pos i (show (0:Int) < bs.length by omega)
  obtain ⟨k,hk⟩:=Int.eq_ofNat_of_zero_le h1
  have hlt:k < bs.length:=by omega
  refine ⟨bs[k],List.getElem_mem hlt,?_⟩
  rw [hk]
  unfold atI ixN
  rw [if_pos (by omega),if_pos (by rw [List.length_map]; omega)]
  simp [hlt]
section
variable {μ:Mh} {QD:D->Mh->Prop} {m nb k:Nat} {bs:List Bx}
theorem QZ {kk n:Nat} (hne:nb ≠ m) (hb:μ[nb]? = some (.lst (bs.map Bx.toD))) (hbs:∀ b ∈ bs,b.Ok) (b3:bs.length <= 3) (hk3:kk < 3) (x:Xs μ m k) (h16:16 <= k) (q:∀ r μ1,Rw.Ok r->XU m μ μ1->Xs μ1 m (k - 16)->QD r.toD μ1):WP (GB [.ref m,.int (kk:Int),.ref nb,.int (n:Int)]) μ QD:=by
  have c2:EU 2=14:=rfl
  unfold GB
  refine DQ (n:=m) rfl ?_
  unfold F2
  obtain ⟨ns,hns,nn,hv⟩:∃ ns:List Str,ns ≠ [] /\ (∀ x ∈ ns,x ∈ CL) /\ atI [D.lst [D.str "x",D.str "y",D.str "v"],D.lst [D.str "x",D.str "y"]] (if decide ((0:Int) < (kk:Int))=true then (1:Int) else 0)=some (.lst (ns.map D.str)):=by
    by_cases z:(0:Int) < (kk:Int)
    . rw [decide_eq_true z]
      exact ⟨["x", "y"],by decide,by decide +kernel,rfl⟩
    . rw [decide_eq_false z]
      exact ⟨["x", "y", "v"],by decide,by decide +kernel,rfl⟩
  obtain ⟨c,hc,ec⟩:=Ly hk3
  wtm_at "own qwr"
  refine CV hv ?_
  wtm_at "own qwr"
  refine J8 rfl hb ⟨by rw [List.length_map,sizeLine_eq]; omega,?_⟩
  refine BO _ (fun b=>b.wr == c) (fun b=>D.str b.nm) (fun b hbm=>?_) ?_
  . wtm_at "own qwr"
    refine ⟨rfl,?_⟩
    wtm_at "own qwr"
    refine AN (ec _) ?_
    refine Bm (P6 _ (hbs b hbm).wr) (TQ _ hc) ?_
    wtm_at "own qwr"
    refine ⟨rfl,rfl,fun _=>?_⟩
    wtm_at "own qwr"
    exact ⟨rfl,rfl⟩
  . have em:(bs.filter fun b=>b.wr == c).map (fun b=>D.str b.nm)=((bs.filter fun b=>b.wr == c).map (·.nm)).map D.str:=by rw [List.map_map]; rfl
    rw [em]
    have hmine:∀ y ∈ (bs.filter fun b=>b.wr == c).map (·.nm),y ∈ D7:=fun y hy=>by
      obtain ⟨b,hb1,rfl⟩:=List.mem_map.mp hy
      exact (hbs b (List.mem_filter.mp hb1).1).nm
    have fl:((bs.filter fun b=>b.wr == c).map (·.nm)).length <= 3:=by
      rw [List.length_map]
      exact Nat.le_trans (List.length_filter_le _ _) b3
    generalize (bs.filter fun b=>b.wr == c).map (·.nm)=mine at hmine fl
    refine Bl (by rw [List.length_map,sizeLine_eq]; omega) ?_
    wtm_at "own qwr"
    refine Bw (k:=k) rfl x (by omega) fun v μ1 u1 x1=>?_
    wtm_at "own qwr"
    have pm:PzL (mine.map D.str):=KR fun y hy=>M9 y (hmine y hy)
    have hb1:μ1[nb]? = some (.lst (bs.map Bx.toD)):=by rw [u1.other hne]; exact hb
    rcases (show (v / 3 % 10 < 4 /\ mine ≠ []) ∨ (v / 3 % 10 < 4->mine=[]) by
      by_cases z:v / 3 % 10 < 4 /\ mine ≠ []
      . exact .inl z
      . exact .inr fun a=>Classical.byContradiction fun b=>z ⟨a,b⟩) with ⟨lt,hm⟩ | no
    . refine Ky (decide_eq_true lt) ?_ (Ax ?_)
      . wtm_at "own qwr"
        refine D8 pm (GE _) ?_
        wtm_at "own qwr"
        exact ⟨by cases mine with | nil=>exact absurd rfl hm | cons a l=>rfl,rfl⟩
      . wtm_at "own qwr"
        refine Bw (k:=k - 1) rfl x1 (by omega) fun v2 μ2 u2 x2=>?_
        wtm_at "own qwr"
        refine FH ?_
        rw [List.length_map]
        have lp:0 < mine.length:=List.length_pos_iff.mpr hm
        refine FU (by omega) ?_
        obtain ⟨w,hw,ew⟩:=GN hm (v2 / 3)
        refine CV ew ?_
        wtm_at "own qwr"
        refine CQ 2 4 (by decide) hns nn x2 (by omega) fun e μ3 oe u3 x3=>?_
        wtm_at "own qwr"
        have u:=(u1.trans u2).trans u3
        exact ⟨_,_,μ3,[],rfl,by simp,u,Gk _ (.put w e),q (.put w e) μ3 ⟨hmine w hw,oe⟩ u (x3.mono (by omega))⟩
    . refine Eu (fun lt=>?_) (Ad ?_)
      . have e:=no (of_decide_eq_true lt)
        wtm_at "own qwr"
        refine D8 pm (GE _) ?_
        wtm_at "own qwr"
        exact ⟨by rw [e]; rfl,rfl⟩
      . wtm_at "own qwr"
        rcases (show (v / 3 % 10 < 6 /\ bs ≠ []) ∨ (v / 3 % 10 < 6->bs=[]) by
          by_cases z:v / 3 % 10 < 6 /\ bs ≠ []
          . exact .inl z
          . exact .inr fun a=>Classical.byContradiction fun b=>z ⟨a,b⟩) with ⟨lt,hm⟩ | no2
        . refine Ky (decide_eq_true lt) ?_ (Ax ?_)
          . wtm_at "own qwr"
            refine Gf hb1 (Mm hbs) (Kr _) ?_
            wtm_at "own qwr"
            exact ⟨by cases bs with | nil=>exact absurd rfl hm | cons a l=>rfl,rfl⟩
          . wtm_at "own qwr"
            refine Bw (k:=k - 1) rfl x1 (by omega) fun v2 μ2 u2 x2=>?_
            wtm_at "own qwr"
            obtain ⟨xn,hx,ex⟩:=Pv (v2 / 3)
            refine AN (ex _) ?_
            wtm_at "own qwr"
            refine Bw (k:=k - 1 - 1) rfl x2 (by omega) fun v3 μ3 u3 x3=>?_
            have hb3:μ3[nb]? = some (.lst (bs.map Bx.toD)):=by rw [u3.other hne,u2.other hne]; exact hb1
            wtm_at "own qwr"
            refine N8 hb3 ?_
            rw [List.length_map]
            have lp:0 < bs.length:=List.length_pos_iff.mpr hm
            refine FU (by omega) ?_
            obtain ⟨b,hbm,eb⟩:=Tq hm (v3 / 3)
            refine AN (Kj hb3 eb) ?_
            wtm_at "own qwr"
            have u:=(u1.trans u2).trans u3
            exact ⟨_,_,μ3,[],rfl,by simp,u,Gk _ (.get xn b.nm),q (.get xn b.nm) μ3 ⟨hx,(hbs b hbm).nm⟩ u (x3.mono (by omega))⟩
        . refine Eu (fun lt=>?_) (Ad ?_)
          . have e:=no2 (of_decide_eq_true lt)
            wtm_at "own qwr"
            refine Gf hb1 (Mm hbs) (Kr _) ?_
            wtm_at "own qwr"
            exact ⟨by rw [e]; rfl,rfl⟩
          . wtm_at "own qwr"
            by_cases l8:v / 3 % 10 < 8
            . rw [decide_eq_true l8]
              refine Ax ?_
              wtm_at "own qwr"
              refine Bw (k:=k - 1) rfl x1 (by omega) fun v2 μ2 u2 x2=>?_
              wtm_at "own qwr"
              obtain ⟨xn,hx,ex⟩:=Pv (v2 / 3)
              refine AN (ex _) ?_
              wtm_at "own qwr"
              refine CQ 2 4 (by decide) hns nn x2 (by omega) fun e μ3 oe u3 x3=>?_
              wtm_at "own qwr"
              have u:=(u1.trans u2).trans u3
              exact ⟨_,_,μ3,[],rfl,by simp,u,Gk _ (.lett xn e),q (.lett xn e) μ3 ⟨hx,oe⟩ u (x3.mono (by omega))⟩
            . rw [decide_eq_false l8]
              refine Ad ?_
              wtm_at "own qwr"
              cases e8:(v / 3 % 10 == (8:Int)) with
              | true=>
                refine Ax ?_
                wtm_at "own qwr"
                refine CQ 2 4 (by decide) hns nn x1 (by omega) fun e μ2 oe u2 x2=>?_
                wtm_at "own qwr"
                refine Bw (k:=k - 1 - EU 2) rfl x2 (by omega) fun v2 μ3 u3 x3=>?_
                wtm_at "own qwr"
                have u:=(u1.trans u2).trans u3
                exact ⟨_,_,μ3,[],rfl,by simp,u,Gk _ (.unl e _),q (.unl e _) μ3 oe u (x3.mono (by omega))⟩
              | false=>
                refine Ad ?_
                wtm_at "own qwr"
                refine Bw (k:=k - 1) rfl x1 (by omega) fun v2 μ2 u2 x2=>?_
                wtm_at "own qwr"
                have u:=u1.trans u2
                exact ⟨_,_,μ2,[],rfl,by simp,u,Gk _ (.jump _),q (.jump _) μ2 trivial u (x2.mono (by omega))⟩
end
end K21
set_option maxHeartbeats 1000000
namespace Mi
open PySem L2
theorem Hw {bf:D->Sl->M Sl} {tc:Sl->M Bool} {ma:Sl->M D} {τ0:Sl} {QL:List D->Mh->Prop} {N:Nat} {μ:Mh} (I:Nat->List D->Mh->Prop) (step:∀ (j:Nat) ys μ,j < N->I j ys μ->WP (bf (.int (j:Int)) τ0) μ fun τ1 μ1=>WP (tc τ1) μ1 fun c μ2=>(c=true->WP (ma τ1) μ2 fun y μ3=>I (j + 1) (ys ++ [y]) μ3) /\ (c=false->I (j + 1) ys μ2)) (last:∀ ys μ,I N ys μ->QL ys μ) (h:I 0 [] μ):WP (Bs bf tc ma τ0 ((List.range N).map fun (i:Nat)=>D.int (i:Int)) []) μ QL:=by
  refine FJ (I:=fun rest ys μ=>∃ j,j <= N /\ rest=(List.range' j (N - j)).map (fun (i:Nat)=>D.int (i:Int)) /\ I j ys μ) ?_ ?_ ⟨0,Nat.zero_le _,by rw [Nat.sub_zero,← List.range_eq_range'],h⟩
  . rintro x xs ys μ ⟨j,hj,hr,hI⟩
    have hlt:j < N:=by
      rcases Nat.lt_or_ge j N with z | z
      . exact z
      . rw [show N - j=0 by omega] at hr
        cases hr
    rw [show N - j=(N - (j + 1)) + 1 by omega,List.range'_succ,List.map_cons] at hr
    obtain ⟨e1,e2⟩:=List.cons.inj hr
    subst e1
    refine AO (step j ys μ hlt hI) fun τ1 μ1 z=>AO z fun c μ2 ⟨z1,z2⟩=>⟨fun hc=>AO (z1 hc) fun y μ3 z=>⟨j + 1,hlt,e2,z⟩,fun hc=>⟨j + 1,hlt,e2,z2 hc⟩⟩
  . rintro ys μ ⟨j,hj,hr,hI⟩
    have:j=N:=by
      rcases Nat.lt_or_ge j N with z | z
      . rw [show N - j=(N - (j + 1)) + 1 by omega,List.range'_succ] at hr
        cases hr
      . omega
    subst this
    exact last ys μ hI
theorem Xs.app {μ:Mh} {m k:Nat} (x:Xs μ m k) (gs:Mh):Xs (μ ++ gs) m k:=by
  obtain ⟨xs,h1,h2⟩:=x
  exact ⟨xs,by rw [List.getElem?_append_left (List.getElem?_eq_some_iff.mp h1).1]; exact h1,h2⟩
theorem XU.cut {μ gs μ2:Mh} {m:Nat} (h:XU m (μ ++ gs) μ2) (lt:m < μ.length):∃ μ3,μ2=μ3 ++ gs /\ XU m μ μ3:=by
  obtain ⟨xs,rfl⟩:=h
  exact ⟨μ.set m (.lst (xs.map D.int)),by rw [List.set_append_left m _ lt],xs,rfl⟩
theorem Xs.cut {μ gs:Mh} {m k:Nat} (x:Xs (μ ++ gs) m k) (lt:m < μ.length):Xs μ m k:=by
  obtain ⟨xs,h1,h2⟩:=x
  rw [List.getElem?_append_left lt] at h1
  exact ⟨xs,h1,h2⟩
theorem FV {τ:Sl} {mo mi:Sl->M D} {d:D} {μ:Mh} {QT:Sl->Mh->Prop} (h:WP (mo τ) μ fun x μ1=>WP (mi τ) μ1 fun y μ2=>∃ n k ds j,x=.ref n /\ y=.int k /\ μ2[n]? = some (.lst ds) /\ ixN ds.length k=some j /\ QT τ (μ2.set n (.lst (ds.set j d)))):WP (JL mo mi d τ) μ QT:=by
  unfold JL
  refine AR (AO h fun x μ1 h=>AR (AO h fun y μ2 ⟨n,k,ds,j,e1,e2,e3,e4,q⟩=>?_))
  subst e1 e2
  exact AR (AN (P9 e3 e4) (A3 q))
end Mi
namespace K21
open PySem L2 Mi
section
variable {μ:Mh} {QD:D->Mh->Prop} {m nb k:Nat}
theorem L5 {d n:Nat} {ns:List Str} {gs:Mh} (h:d < n) (h1:ns ≠ []) (h2:∀ x ∈ ns,x ∈ CL) (x:Xs μ m k) (hk:EU d <= k) (q:∀ e μ1,Ex.Ok d e->XU m μ μ1->Xs μ1 m (k - EU d)->QD e.toD (μ1 ++ gs)):WP (Cn n [.ref m,.lst (ns.map D.str),.int (d:Int)]) (μ ++ gs) QD:=
  CQ d n h h1 h2 (x.app gs) hk fun e μ2 ok u2 x2=>by
    obtain ⟨μ3,rfl,u3⟩:=u2.cut x.lt
    exact q e μ3 ok u3 (x2.cut (by rw [u3.len]; exact x.lt))
abbrev Kk:List Str:=["safe", "steady", "whole"]
theorem N9 (x:Xs μ m k) (hk:1 <= k) (q:∀ c μ1,c ∈ Kk->XU m μ μ1->Xs μ1 m (k - 1)->QD (.str c) μ1):WP (EQ [.ref m]) μ QD:=by
  unfold EQ
  refine DQ (n:=m) rfl ?_
  unfold EL
  wtm_at "own qwr"
  refine Bw (k:=k) rfl x hk fun v μ1 u1 x1=>?_
  wtm_at "own qwr"
  obtain ⟨w,hw,ew⟩:=GN (xs:=Kk) (by decide) (v / 3)
  refine CV ew ?_
  wtm_at "own qwr"
  exact ⟨_,_,μ1,[],rfl,by simp,u1,by unfold Cl; trivial,q w μ1 hw u1 x1⟩
theorem Hq {gs:Mh} (x:Xs μ m k) (hk:1 <= k) (q:∀ c μ1,c ∈ Kk->XU m μ μ1->Xs μ1 m (k - 1)->QD (.str c) (μ1 ++ gs)):WP (EQ [.ref m]) (μ ++ gs) QD:=
  N9 (x.app gs) hk fun c μ2 hc u2 x2=>by
    obtain ⟨μ3,rfl,u3⟩:=u2.cut x.lt
    exact q c μ3 hc u3 (x2.cut (by rw [u3.len]; exact x.lt))
end
end K21
set_option maxHeartbeats 1000000
namespace K21
open PySem L2 Mi
structure Hd where
  nm:Str
  wi:Int
  rs:List Rw
abbrev Hd.toD (h:Hd):D:=.tup [.str h.nm,.int h.wi,.tup (h.rs.map Rw.toD)]
structure Hd.Ok (h:Hd):Prop where
  nm:h.nm ∈ Js
  rs:∀ r ∈ h.rs,r.Ok
  few:h.rs.length <= 4
  some_:1 <= h.rs.length
theorem MW (k:Nat):∀ rs:List Rw,ClL k (rs.map Rw.toD)
  | []=>by unfold List.map ClL; trivial
  | r :: rs=>by unfold List.map ClL; exact ⟨Gk k r,MW k rs⟩
theorem QM (k:Nat) (h:Hd):Cl k h.toD:=by
  have:=MW k h.rs
  simp [Cl,ClL,this]
theorem Kb:∀ (d:Nat) (e:Ex),Ex.Ok d e->Ex.Ok (d + 1) e
  | _,.num _,_=>by unfold Ex.Ok; trivial
  | d,.var x,h=>by cases d <;> exact h
  | 0,.neg e,h=>absurd h (by unfold Ex.Ok; exact id)
  | d + 1,.neg e,h=>Kb d e h
  | 0,.bin _ _ _,h=>absurd h (by unfold Ex.Ok; exact id)
  | d + 1,.bin w a b,h=>⟨h.1,Kb d a h.2.1,Kb d b h.2.2⟩
theorem Jb {rs:List Rw} {j:Nat} {r:Rw} (h:∀ x ∈ rs,x.Ok) (hr:r.Ok):∀ x ∈ rs.set j r,x.Ok:=fun x hx=>by
  rcases List.mem_or_eq_of_mem_set hx with z | z
  . exact h x z
  . rw [z]; exact hr
section
variable {μ:Mh} {QD:D->Mh->Prop} {m nb k:Nat} {bs:List Bx}
theorem N0 {kk N:Nat} {QL:List D->Mh->Prop} (hne:nb ≠ m) (hb:μ[nb]? = some (.lst (bs.map Bx.toD))) (hbs:∀ b ∈ bs,b.Ok) (b3:bs.length <= 3) (hk3:kk < 3) (x:Xs μ m k) (h16:16 * N <= k) (q:∀ (rs:List Rw) μ1,rs.length=N->(∀ r ∈ rs,r.Ok)->XU m μ μ1->Xs μ1 m (k - 16 * N)->QL (rs.map Rw.toD) μ1) :
    WP (Bs (AQ 0) Ci (AJ GB (AD (AC 4) (AD (AC 2) (AD (AC 1) (AD (AC 3) AK))))) [none,some (.ref nb),some (.int (kk:Int)),some (.int (N:Int)),some (.ref m)] ((List.range N).map fun (i:Nat)=>D.int (i:Int)) []) μ QL:=by
  refine Hw (I:=fun j ys μ'=>∃ rs:List Rw,rs.length=j /\ ys=rs.map Rw.toD /\ (∀ r ∈ rs,r.Ok) /\ XU m μ μ' /\ Xs μ' m (k - 16 * j)) ?_ ?_ ⟨[],rfl,rfl,(fun r hr=>nomatch hr),x.refl,x⟩
  . rintro j ys μ1 hj ⟨rs,rl,rfl,ok,u1,x1⟩
    wtm_at "own qwr"
    refine ⟨fun _=>?_,fun z=>by cases z⟩
    wtm_at "own qwr"
    refine QZ hne (by rw [u1.other hne]; exact hb) hbs b3 hk3 x1 (by omega) fun r μ2 or u2 x2=>?_
    refine ⟨rs ++ [r],by simp [rl],by simp,fun y hy=>?_,u1.trans u2,x2.mono (by omega)⟩
    rcases List.mem_append.mp hy with z | z
    . exact ok y z
    . rw [List.mem_singleton.mp z]; exact or
  . rintro ys μ1 ⟨rs,rl,rfl,ok,u1,x1⟩
    exact q rs μ1 rl ok u1 x1
theorem FX {m:M Bool} {QB:Bool->Mh->Prop} {μ:Mh} (h:WP m μ QB):Pp m QB true μ:=h
theorem ST (i:Int):∃ c:Int,atI [D.int 12,D.int 12,D.int 5,D.int 2] (i % 4)=some (.int c):=by
  rcases (show i % 4=0 ∨ i % 4=1 ∨ i % 4=2 ∨ i % 4=3 by omega) with z | z | z | z <;> rw [z]
  . exact ⟨12,rfl⟩
  . exact ⟨12,rfl⟩
  . exact ⟨5,rfl⟩
  . exact ⟨2,rfl⟩
theorem OB {kk:Nat} (hne:nb ≠ m) (hb:μ[nb]? = some (.lst (bs.map Bx.toD))) (hbs:∀ b ∈ bs,b.Ok) (b3:bs.length <= 3) (hk3:kk < 3) (x:Xs μ m k) (h76:76 <= k) (q:∀ h μ1,Hd.Ok h->XU m μ μ1->Xs μ1 m (k - 76)->QD h.toD μ1):WP (FR [.ref m,.int (kk:Int),.ref nb,.int 4]) μ QD:=by
  unfold FR
  refine DQ (n:=m) rfl ?_
  unfold EM
  wtm_at "own qwr"
  refine Bw (k:=k) rfl x (by omega) fun v μ1 u1 x1=>?_
  wtm_at "own qwr"
  obtain ⟨N,hN⟩:∃ N:Nat,1 + v / 3 % 4=(N:Int):=⟨(1 + v / 3 % 4).toNat,by omega⟩
  have N4:N <= 4:=by omega
  have N1:1 <= N:=by omega
  rw [hN]
  refine Cm rfl (by omega) ⟨by rw [List.length_map,List.length_range,sizeLine_eq]; omega,?_⟩
  have hb1:μ1[nb]? = some (.lst (bs.map Bx.toD)):=by rw [u1.other hne]; exact hb
  refine N0 hne hb1 hbs b3 hk3 x1 (by omega) fun rs μ2 rl ok u2 x2=>?_
  refine HB (by rw [List.length_map,sizeLine_eq]; omega) ?_
  have u12:=u1.trans u2
  have hb2:μ2[nb]? = some (.lst (bs.map Bx.toD)):=by rw [u2.other hne]; exact hb1
  have last:∀ (rs:List Rw) (μ3:Mh) (o6:Option D),rs.length=N->(∀ r ∈ rs,r.Ok)->XU m μ μ3->Xs μ3 m (k - 75)->WP (A5 (AJ A2 (AD (mOp Ab (mC (.str "wrs")) (AC 1)) (AD (mOp Ab (AJ BA (AD (mC (.int 12)) (AD (mC (.int 12)) (AD (mC (.int 5)) (AD (mC (.int 2)) AK))))) (mOp Am (mOp AW (AS BN (AC 0)) (mC (.int 3))) (mC (.int 4)))) (AD (AJ CB (AD (AC 5) AK)) AK)))) [some (.ref m),some (.int (kk:Int)),some (.ref nb),some (.int 4),some (.int (N:Int)),some (.ref μ.length),o6]) (μ3 ++ [.lst (rs.map Rw.toD)]) (fun r μ2=>∃ d τ2 μ1 gs,r=(Fl.rt d,τ2) /\ μ2=μ1 ++ gs /\ XU m μ μ1 /\ Cl μ.length d /\ QD d μ1):=fun rs μ3 o6 rl ok u3 x3=>by
    obtain ⟨c,hc,ec⟩:=Ly hk3
    wtm_at "own qwr"
    refine AN (ec _) ?_
    wtm_at "own qwr"
    refine BW (k:=k - 75) rfl x3 (by omega) fun v2 μ4 u4 x4=>?_
    wtm_at "own qwr"
    obtain ⟨wi,ew⟩:=ST (v2 / 3)
    refine CV ew ?_
    wtm_at "own qwr"
    refine G8 (n:=μ.length) (ds:=rs.map Rw.toD) ?_ ?_
    . have l4:μ4.length=μ.length:=by rw [u4.len,u3.len]
      rw [← l4,List.getElem?_append_right (Nat.le_refl _),Nat.sub_self]
      rfl
    wtm_at "own qwr"
    exact ⟨_,_,μ4,_,rfl,rfl,u3.trans u4,QM _ ⟨c,wi,rs⟩,q ⟨c,wi,rs⟩ μ4 ⟨hc,ok,by show rs.length <= 4; omega,by show 1 <= rs.length; omega⟩ (u3.trans u4) (x4.mono (by omega))⟩
  have l2:μ2.length=μ.length:=u12.len
  rw [l2]
  have at5:∀ (μ3:Mh) (rs:List Rw),XU m μ μ3->(μ3 ++ [MO.lst (rs.map Rw.toD)])[μ.length]? = some (.lst (rs.map Rw.toD)):=fun μ3 rs u=>by
    rw [← u.len,List.getElem?_append_right (Nat.le_refl _),Nat.sub_self]
    rfl
  have put5:∀ (μ3:Mh) (rs:List Rw) (j:Nat) (r:Rw),XU m μ μ3->(μ3 ++ [MO.lst (rs.map Rw.toD)]).set μ.length (.lst ((rs.map Rw.toD).set j r.toD))=μ3 ++ [MO.lst ((rs.set j r).map Rw.toD)]:=fun μ3 rs j r u=>by
    rw [← u.len,List.set_append_right _ _ (Nat.le_refl _),Nat.sub_self,List.map_set]
    rfl
  have ixl:∀ rs:List Rw,rs.length=N->ixN (rs.map Rw.toD).length (-1)=some (N - 1):=fun rs rl=>by
    unfold ixN
    rw [List.length_map,rl,if_neg (by decide),if_pos (by omega)]
    congr 1
    omega
  have ix0:∀ rs:List Rw,rs.length=N->ixN (rs.map Rw.toD).length 0=some 0:=fun rs rl=>by
    unfold ixN
    rw [List.length_map,rl,if_pos (by decide),if_pos (by omega)]
    rfl
  wtm_at "own qwr"
  by_cases k0:kk=0
  . subst k0
    refine Eu (fun z=>by cases z) (Ad ?_)
    wtm_at "own qwr"
    refine FX ?_
    wtm_at "own qwr"
    refine BW (k:=k - 1 - 16 * N) rfl x2 (by omega) fun v2 μ3 u3 x3=>?_
    wtm_at "own qwr"
    have u:=u12.trans u3
    cases e:(v2 / 3 % 3 == (0:Int)) with
    | true=>
      refine Ax ?_
      (with_reducible apply HF)
      wtm_at "own qwr"
      refine FV ?_
      wtm_at "own qwr"
      refine AN (a:=.int (-1)) (μ':=_) rfl ?_
      refine ⟨μ.length,-1,_,N - 1,rfl,rfl,at5 μ3 rs u,ixl rs rl,?_⟩
      have pe:=put5 μ3 rs (N - 1) .fin u
      rw [show Rw.fin.toD=D.tup [.str "done"] from rfl] at pe
      rw [pe]
      refine BP ?_
      exact last (rs.set (N - 1) .fin) μ3 _ (by rw [List.length_set]; exact rl) (Jb ok trivial) u (x3.mono (by omega))
    | false=>
      refine Ad ?_
      (with_reducible apply Co)
      (with_reducible apply BP)
      exact last rs μ3 _ rl ok u (x3.mono (by omega))
  . have kp:(0:Int) < (kk:Int):=by omega
    have kz:((kk:Int) == 0)=false:=beq_eq_false_iff_ne.mpr (by omega)
    have tellE:∀ (rs:List Rw) (μ4:Mh) (o6:Option D),rs.length=N->(∀ r ∈ rs,r.Ok)->XU m μ μ4->Xs μ4 m (k - 68)->WP ((As (AJ A2 (AD (mC (.str "tell")) (AD (mOp Ab (AJ BA (AD (AJ A2 (AD (mC (.str "var")) (AD (mC (.str "x")) AK))) (AD (AJ (Cn 4) (AD (AC 0) (AD (AJ BA (AD (mC (.str "x")) (AD (mC (.str "y")) AK))) (AD (mC (.int 1)) AK)))) AK))) (mOp AW (mOp Am (mOp AW (AS BN (AC 0)) (mC (.int 3))) (mC (.int 3))) (mC (.int 2)))) AK))) (JL (AC 5) (mUn Ey (mC (.int 1))))) [some (.ref m),some (.int (kk:Int)),some (.ref nb),some (.int 4),some (.int (N:Int)),some (.ref μ.length),o6]) (μ4 ++ [.lst (rs.map Rw.toD)]) (Fb (AV (sIf (HZ (Ag (mOp CI (AC 1) (mC (.int 0)))) (Ag (mOp CI (mOp Am (mOp AW (AS BN (AC 0)) (mC (.int 3))) (mC (.int 3))) (mC (.int 0))))) (As (AJ A2 (AD (mC (.str "done")) AK)) (JL (AC 5) (mUn Ey (mC (.int 1))))) Bu) (A5 (AJ A2 (AD (mOp Ab (mC (.str "wrs")) (AC 1)) (AD (mOp Ab (AJ BA (AD (mC (.int 12)) (AD (mC (.int 12)) (AD (mC (.int 5)) (AD (mC (.int 2)) AK))))) (mOp Am (mOp AW (AS BN (AC 0)) (mC (.int 3))) (mC (.int 4)))) (AD (AJ CB (AD (AC 5) AK)) AK)))))) (fun r μ2=>∃ d τ2 μ1 gs,r=(Fl.rt d,τ2) /\ μ2=μ1 ++ gs /\ XU m μ μ1 /\ Cl μ.length d /\ QD d μ1)):=fun rs μ4 o6 rl ok u4 x4=>by
      have c1:EU 1=6:=rfl
      (with_reducible apply HF)
      wtm_at "own qwr"
      refine L5 (d:=1) (n:=4) (ns:=["x", "y"]) (by decide) (by decide) (by decide +kernel) x4 (by omega) fun e μ5 oe u5 x5=>?_
      wtm_at "own qwr"
      refine BW (k:=k - 68 - EU 1) rfl x5 (by omega) fun v5 μ6 u6 x6=>?_
      wtm_at "own qwr"
      obtain ⟨ee,oe2,eq2⟩:∃ ee:Ex,ee.Ok 2 /\ atI [D.tup [D.str "var",D.str "x"],e.toD] (v5 / 3 % 3 / 2)=some ee.toD:=by
        rcases (show v5 / 3 % 3 / 2=0 ∨ v5 / 3 % 3 / 2=1 by omega) with z | z <;> rw [z]
        . exact ⟨.var "x",by unfold Ex.Ok; decide +kernel,rfl⟩
        . exact ⟨e,Kb 1 e oe,rfl⟩
      refine CV eq2 ?_
      wtm_at "own qwr"
      refine FV ?_
      wtm_at "own qwr"
      refine AN (a:=.int (-1)) (μ':=_) rfl ?_
      have u:=(u4.trans u5).trans u6
      refine ⟨μ.length,-1,_,N - 1,rfl,rfl,at5 μ6 rs u,ixl rs rl,?_⟩
      have pe:=put5 μ6 rs (N - 1) (.tell ee) u
      rw [show (Rw.tell ee).toD=D.tup [.str "tell",ee.toD] from rfl] at pe
      rw [pe]
      wtm_at "own qwr"
      rw [kz]
      refine Eu (fun z=>by cases z) (Ad ?_)
      (with_reducible apply Co)
      (with_reducible apply BP)
      exact last (rs.set (N - 1) (.tell ee)) μ6 _ (by rw [List.length_set]; exact rl) (Jb ok oe2) u (x6.mono (by omega))
    rw [decide_eq_true kp]
    refine FX ?_
    wtm_at "own qwr"
    refine BW (k:=k - 1 - 16 * N) rfl x2 (by omega) fun v2 μ3 u3 x3=>?_
    wtm_at "own qwr"
    have u:=u12.trans u3
    have hb3:∀ (gs:Mh),(μ3 ++ gs)[nb]? = some (.lst (bs.map Bx.toD)):=fun gs=>by
      have e:μ3[nb]? = some (.lst (bs.map Bx.toD)):=by rw [u3.other hne]; exact hb2
      rw [List.getElem?_append_left (List.getElem?_eq_some_iff.mp e).1]
      exact e
    by_cases pos:0 < v2 / 3 % 8
    . rw [decide_eq_true pos]
      refine Ax ?_
      wtm_at "own qwr"
      refine J8 rfl (hb3 _) ⟨by rw [List.length_map,sizeLine_eq]; omega,?_⟩
      refine BO _ (fun _=>true) (fun b=>D.str b.nm) (fun b hbm=>?_) ?_
      . wtm_at "own qwr"
        refine ⟨rfl,?_⟩
        wtm_at "own qwr"
        refine ⟨rfl,rfl,fun _=>?_⟩
        wtm_at "own qwr"
        exact ⟨rfl,rfl⟩
      . rw [List.filter_eq_self.mpr fun _ _=>rfl,show (bs.map fun b=>D.str b.nm)=(bs.map (·.nm)).map D.str by rw [List.map_map]; rfl]
        have hg:∀ y ∈ bs.map (·.nm),y ∈ D7:=fun y hy=>by
          obtain ⟨b,hb1,rfl⟩:=List.mem_map.mp hy
          exact (hbs b hb1).nm
        have gl:(bs.map (·.nm)).length <= 3:=by rw [List.length_map]; exact b3
        generalize bs.map (·.nm)=got at hg gl
        have pg:PzL (got.map D.str):=KR fun y hy=>M9 y (hg y hy)
        refine Bl (by rw [List.length_map,sizeLine_eq]; omega) ?_
        wtm_at "own qwr"
        refine D8 pg (GE _) ?_
        wtm_at "own qwr"
        cases got with
        | nil=>
          refine Eu (fun z=>by cases z) (Ad ?_)
          (with_reducible apply Co)
          (with_reducible apply BP)
          exact tellE rs μ3 _ rl ok u (x3.mono (by omega))
        | cons g0 got=>
          refine FX ?_
          wtm_at "own qwr"
          refine BW (k:=k - 1 - 16 * N - 1) rfl x3 (by omega) fun v3 μ4 u4 x4=>?_
          wtm_at "own qwr"
          have ua:=u.trans u4
          cases e2:(v3 / 3 % 2 == (0:Int)) with
          | false=>
            refine Ad ?_
            (with_reducible apply Co)
            (with_reducible apply BP)
            exact tellE rs μ4 _ rl ok ua (x4.mono (by omega))
          | true=>
            refine Ax ?_
            (with_reducible apply HF)
            wtm_at "own qwr"
            refine BW (k:=k - 1 - 16 * N - 1 - 1) rfl x4 (by omega) fun v4 μ5 u5 x5=>?_
            wtm_at "own qwr"
            refine FH ?_
            rw [List.length_map]
            refine FU (by simp) ?_
            obtain ⟨w,hw,ew⟩:=GN (xs:=g0 :: got) (by simp) (v4 / 3)
            refine CV ew ?_
            wtm_at "own qwr"
            refine FV ?_
            wtm_at "own qwr"
            have ub:=ua.trans u5
            refine ⟨μ.length,0,_,0,rfl,rfl,at5 μ5 rs ub,ix0 rs rl,?_⟩
            have pe:=put5 μ5 rs 0 (.get "x" w) ub
            rw [show (Rw.get "x" w).toD=D.tup [.str "get",.str "x",.str w] from rfl] at pe
            rw [pe]
            refine BP ?_
            exact tellE (rs.set 0 (.get "x" w)) μ5 _ (by rw [List.length_set]; exact rl) (Jb ok ⟨by decide +kernel,hg w hw⟩) ub (x5.mono (by omega))
    . rw [decide_eq_false pos]
      refine Ad ?_
      wtm_at "own qwr"
      rw [kz]
      refine Eu (fun z=>by cases z) (Ad ?_)
      (with_reducible apply Co)
      (with_reducible apply BP)
      exact last rs μ3 _ rl ok u (x3.mono (by omega))
end
end K21
namespace K41
open PySem L2 Mi
end K41
namespace K41
open PySem L2 Mi
end K41
set_option maxHeartbeats 1000000
namespace K41
open PySem L2 Mi Ht Nk Hs
section
variable {μ:Mh} {QD:D->Mh->Prop}
end
end K41
set_option maxHeartbeats 1000000
namespace K41
open PySem L2 Mi Ht Nk Hs
section
variable {μ:Mh} {QD:D->Mh->Prop}
end
end K41
set_option maxHeartbeats 1000000
namespace K41
open PySem L2 Mi Ht Nk Hs
section
variable {μ:Mh} {QD:D->Mh->Prop}
end
end K41
set_option maxHeartbeats 1000000
namespace K41
open PySem L2 Mi Ht Nk Hs
section
variable {μ:Mh} {QD:D->Mh->Prop} {n k:Nat}
end
end K41
set_option maxHeartbeats 1000000
namespace K41
open PySem L2 Mi Ht Nk Hs
section
variable {μ:Mh} {QD:D->Mh->Prop} {n k:Nat}
end
end K41
set_option maxHeartbeats 1000000
namespace K41
open PySem L2 Mi Ht Nk Hs
section
variable {μ:Mh} {QD:D->Mh->Prop} {n k:Nat}
end
end K41
set_option maxHeartbeats 1000000
namespace Mi
open PySem L2
theorem Hy {μ:Mh} {N ps:Nat} {mb:Sl->M (Fl × Sl)} {ds:List D} {QD:D->Mh->Prop} (hl:ds.length=ps) (h:WP (mb (Ba N ds)) μ fun r μ2=>∃ d τ2,r=(.rt d,τ2) /\ μ.length <= μ2.length /\ (∀ (j:Nat) (o:MO),μ2[j]? = some o->μ[j]? = some o ∨ ClO μ2.length o) /\ Cl μ2.length d /\ QD d μ2):WP (Az .all N ps mb ds) μ QD:=by
  obtain ⟨r,μ2,e,d,τ2,rfl,le,old,c,q⟩:=h
  exact AN (C5 (hw:=.all) e hl (.inr ⟨d,rfl⟩) ⟨⟨[],by show μ2=μ2 ++ []; simp⟩,le,old,.inl ⟨rfl,c⟩⟩) q
theorem Qb {i j:Int} {μ:Mh} {QD:D->Mh->Prop} (h:0 <= j /\ j <= 1000000 /\ i.natAbs < 2 ^ 64) (q:QD (.int (i ^ j.toNat)) μ):WP (Mo (.int i) (.int j)) μ QD:=by
  refine AN (a:=.int (i ^ j.toNat)) (μ':=μ) ?_ q
  exact if_pos h
theorem FW {bf:D->Sl->M Sl} {m1:Sl->M (Fl × Sl)} {QS:Fl × Sl->Mh->Prop} {m:Nat} {τ:Sl} {μ:Mh} (I:Nat->Sl->Mh->Prop) (step:∀ (j:Nat) τ μ,j < m->I j τ μ->WP (bf (.int (j:Int)) τ) μ fun τ1 μ1=>WP (m1 τ1) μ1 (Kh (I (j + 1)) QS)) (last:∀ τ μ,I m τ μ->QS (.next,τ) μ) (h:I 0 τ μ):WP (DM bf m1 ((List.range m).map fun (i:Nat)=>D.int (i:Int)) τ) μ QS:=by
  refine C6 (I:=fun rest τ μ=>∃ j,j <= m /\ rest=(List.range' j (m - j)).map (fun (i:Nat)=>D.int (i:Int)) /\ I j τ μ) ?_ ?_ ⟨0,Nat.zero_le _,by rw [Nat.sub_zero,← List.range_eq_range'],h⟩
  . rintro x xs τ μ ⟨j,hj,hr,hI⟩
    have hlt:j < m:=by
      rcases Nat.lt_or_ge j m with z | z
      . exact z
      . rw [show m - j=0 by omega] at hr; cases hr
    rw [show m - j=(m - (j + 1)) + 1 by omega,List.range'_succ,List.map_cons] at hr
    obtain ⟨e3,e4⟩:=List.cons.inj hr
    subst e3
    refine AO (step j τ μ hlt hI) fun τ1 μ1 z=>AO z fun r μ2 z2=>?_
    obtain ⟨fl,τ2⟩:=r
    cases fl
    . exact ⟨j + 1,hlt,e4,z2⟩
    . exact z2
    . exact ⟨j + 1,hlt,e4,z2⟩
    . exact z2
  . rintro τ μ ⟨j,hj,hr,hI⟩
    have hj':j=m:=by
      have:=congrArg List.length hr
      simp at this
      omega
    subst hj'
    exact last τ μ hI
end Mi
namespace K41
open PySem L2 Mi Ht Nk Hs
section
variable {QD:D->Mh->Prop}
end
end K41
set_option maxHeartbeats 1000000
namespace K21
open PySem L2 Mi
structure Mk where
  kd:Str
  sz:Nat
  bg:Int
  bs:List Bx
  hs:List Hd
abbrev Mk.toD (m:Mk):D:=.tup [.str m.kd,.int (m.sz:Int),.int m.bg,.tup (m.bs.map Bx.toD),.tup (m.hs.map Hd.toD)]
structure Mk.Ok (m:Mk):Prop where
  kd:m.kd ∈ Kk
  sz2:2 <= m.sz
  sz3:m.sz <= 3
  bs:∀ b ∈ m.bs,b.Ok
  b3:m.bs.length <= 3
  hs:∀ h ∈ m.hs,h.Ok
  h2:2 <= m.hs.length
  h3:m.hs.length <= 3
theorem NY (k:Nat):∀ hs:List Hd,ClL k (hs.map Hd.toD)
  | []=>by unfold List.map ClL; trivial
  | h :: hs=>by unfold List.map ClL; exact ⟨QM k h,NY k hs⟩
theorem NF (k:Nat) (m:Mk):Cl k m.toD:=by
  have a:=QQ k m.bs
  have b:=NY k m.hs
  simp [Cl,ClL,a,b]
theorem SI {k:Nat} (h:k < 3):∃ c ∈ D7,∀ μ:Mh,Ab (.str "abc") (.int (k:Int)) μ=some (.str c,μ):=by
  match k,h with
  | 0,_=>exact ⟨"a",by decide +kernel,fun μ=>by rfl⟩
  | 1,_=>exact ⟨"b",by decide +kernel,fun μ=>by rfl⟩
  | 2,_=>exact ⟨"c",by decide +kernel,fun μ=>by rfl⟩
theorem QU (i:Int):∃ c ∈ (["w", "r"]:List Str),∀ μ:Mh,Ab (.str "wwr") (.int (i % 3)) μ=some (.str c,μ):=by
  rcases (show i % 3=0 ∨ i % 3=1 ∨ i % 3=2 by omega) with z | z | z <;> rw [z]
  . exact ⟨"w",by decide +kernel,fun μ=>by rfl⟩
  . exact ⟨"w",by decide +kernel,fun μ=>by rfl⟩
  . exact ⟨"r",by decide +kernel,fun μ=>by rfl⟩
section
variable {μ:Mh} {QD:D->Mh->Prop} {m k:Nat}
theorem K4 (x:Xs μ m k) (h245:245 <= k) (q:∀ (M:Mk) μ1,M.Ok->XU m μ μ1->Xs μ1 m (k - 245)->QD M.toD μ1):WP (Dl [.ref m,.int 4]) μ QD:=by
  unfold Dl
  refine DQ (n:=m) rfl ?_
  unfold C3
  wtm_at "own qwr"
  refine Bw (k:=k) rfl x (by omega) fun v μ1 u1 x1=>?_
  wtm_at "own qwr"
  obtain ⟨many,hmany⟩:∃ N:Nat,2 + v / 3 % 3 / 2=(N:Int):=⟨(2 + v / 3 % 3 / 2).toNat,by omega⟩
  have m2:2 <= many:=by omega
  have m3:many <= 3:=by omega
  rw [hmany]
  refine BW (k:=k - 1) rfl x1 (by omega) fun v2 μ2 u2 x2=>?_
  wtm_at "own qwr"
  obtain ⟨nb,hnb⟩:∃ N:Nat,v2 / 3 % 4=(N:Int):=⟨(v2 / 3 % 4).toNat,by omega⟩
  have b3:nb <= 3:=by omega
  rw [hnb]
  refine Cm rfl (by omega) ?_
  have u12:=u1.trans u2
  have l1:μ1.length=μ.length:=u1.len
  rw [l1]
  refine FW (I:=fun j τ μ'=>∃ (bs:List Bx) (μ3:Mh) (o4 o5:Option D),bs.length=j /\ (∀ b ∈ bs,b.Ok) /\ μ'=μ3 ++ [.lst (bs.map Bx.toD)] /\ XU m μ μ3 /\ Xs μ3 m (k - 2 - 4 * j) /\ τ=[some (.ref m),some (.int 4),some (.int (many:Int)),some (.ref μ.length),o4,o5,none]) ?_ ?_ ⟨[],μ2,none,none,rfl,(fun b hb=>nomatch hb),rfl,u12,x2,rfl⟩
  . rintro j τ μ' hj ⟨bs,μ3,o4,o5,bl,ok,rfl,u3,x3,rfl⟩
    wtm_at "own qwr"
    refine BW (k:=k - 2 - 4 * j) rfl x3 (by omega) fun v3 μ4 u4 x4=>?_
    wtm_at "own qwr"
    have u34:=u3.trans u4
    obtain ⟨sz,hsz⟩:∃ N:Nat,2 + v3 / 3 % 2=(N:Int):=⟨(2 + v3 / 3 % 2).toNat,by omega⟩
    rw [hsz]
    have z2:2 <= sz:=by omega
    have l4:μ4.length=μ.length:=u34.len
    refine Db (gs:=μ4) (by rw [l4]; rfl) (by rw [List.length_map,sizeLine_eq]; omega) ?_
    obtain ⟨nm,hnm,enm⟩:=SI (k:=j) (by omega)
    wtm_at "own qwr"
    refine AN (enm _) ?_
    wtm_at "own qwr"
    refine Hq x4 (by omega) fun kd μ5 hkd u5 x5=>?_
    wtm_at "own qwr"
    refine BW (k:=k - 2 - 4 * j - 1 - 1) rfl x5 (by omega) fun v5 μ6 u6 x6=>?_
    wtm_at "own qwr"
    refine BW (k:=k - 2 - 4 * j - 1 - 1 - 1) rfl x6 (by omega) fun v6 μ7 u7 x7=>?_
    wtm_at "own qwr"
    obtain ⟨wr,hwr,ewr⟩:=QU (v6 / 3)
    refine AN (ewr _) ?_
    wtm_at "own qwr"
    have u:=((u34.trans u5).trans u6).trans u7
    refine ⟨μ7,_,rfl,rfl,by rw [u.len,l4],An ⟨bs ++ [⟨nm,kd,(sz:Int),v5 / 3 % (sz:Int),wr⟩],μ7,_,_,by simp [bl],fun b hb=>?_,by simp,u,x7.mono (by omega),rfl⟩⟩
    rcases List.mem_append.mp hb with z | z
    . exact ok b z
    . rw [List.mem_singleton.mp z]
      exact ⟨hnm,hkd,hwr⟩
  . rintro τ μ' ⟨bs,μ3,o4,o5,bl,ok,rfl,u3,x3,rfl⟩
    wtm_at "own qwr"
    refine BW (k:=k - 2 - 4 * nb) rfl x3 (by omega) fun v3 μ4 u4 x4=>?_
    wtm_at "own qwr"
    have u34:=u3.trans u4
    have l4:μ4.length=μ.length:=u34.len
    obtain ⟨sz,hsz⟩:∃ N:Nat,2 + v3 / 3 % 2=(N:Int):=⟨(2 + v3 / 3 % 2).toNat,by omega⟩
    rw [hsz]
    have z2:2 <= sz:=by omega
    have z3:sz <= 3:=by omega
    refine Cm rfl (by omega) ⟨by rw [List.length_map,List.length_range,sizeLine_eq]; omega,?_⟩
    refine Hw (I:=fun j ys μ'=>∃ (hs:List Hd) (μ5:Mh),hs.length=j /\ ys=hs.map Hd.toD /\ (∀ h ∈ hs,h.Ok) /\ μ'=μ5 ++ [.lst (bs.map Bx.toD)] /\ XU m μ μ5 /\ Xs μ5 m (k - 15 - 76 * j)) ?_ ?_ ⟨[],μ4,rfl,rfl,(fun b hb=>nomatch hb),rfl,u34,x4.mono (by omega)⟩
    . rintro j ys μ' hj ⟨hs,μ5,hl,rfl,hok,rfl,u5,x5⟩
      wtm_at "own qwr"
      refine ⟨fun _=>?_,fun z=>by cases z⟩
      wtm_at "own qwr"
      have l5:μ5.length=μ.length:=u5.len
      have lm:=x5.lt
      refine OB (nb:=μ.length) (by omega) (by rw [← l5,List.getElem?_append_right (Nat.le_refl _),Nat.sub_self]; rfl) ok (by omega) (by omega) (x5.app _) (by omega) fun h μ6 oh u6 x6=>?_
      obtain ⟨μ7,rfl,u7⟩:=u6.cut lm
      refine ⟨hs ++ [h],μ7,by simp [hl],by simp,fun y hy=>?_,rfl,u5.trans u7,(x6.cut (by rw [u7.len]; exact lm)).mono (by omega)⟩
      rcases List.mem_append.mp hy with z | z
      . exact hok y z
      . rw [List.mem_singleton.mp z]; exact oh
    . rintro ys μ' ⟨hs,μ5,hl,rfl,hok,rfl,u5,x5⟩
      refine Bl (by rw [List.length_map,sizeLine_eq]; omega) ?_
      wtm_at "own qwr"
      refine Hq x5 (by omega) fun kd μ6 hkd u6 x6=>?_
      wtm_at "own qwr"
      refine BW (k:=k - 15 - 76 * many - 1) rfl x6 (by omega) fun v6 μ7 u7 x7=>?_
      wtm_at "own qwr"
      have u:=(u5.trans u6).trans u7
      refine G8 (n:=μ.length) (ds:=bs.map Bx.toD) (by rw [← u.len,List.getElem?_append_right (Nat.le_refl _),Nat.sub_self]; rfl) ?_
      wtm_at "own qwr"
      exact ⟨_,_,μ7,_,rfl,rfl,u,NF _ ⟨kd,sz,v6 / 3 % (sz:Int),bs,hs⟩,q ⟨kd,sz,v6 / 3 % (sz:Int),bs,hs⟩ μ7 ⟨hkd,z2,z3,ok,by show bs.length <= 3; omega,hok,by show 2 <= hs.length; omega,by show hs.length <= 3; omega⟩ u (x7.mono (by omega))⟩
end
end K21
set_option maxHeartbeats 1000000
namespace Mi
open PySem L2
theorem Cu {μ:Mh} {N ps:Nat} {mb:Sl->M (Fl × Sl)} {ds:List D} {QD:D->Mh->Prop} (hl:ds.length=ps) (h:WP (mb (Ba N ds)) μ fun r μ2=>∃ es τ2 gs,μ2=μ ++ gs /\ ClL μ.length es /\ QD (.lst es) μ /\ (r=(.rt (.lst es),τ2) ∨ ∃ j,r=(.rt (.ref j),τ2) /\ μ.length <= j /\ μ2[j]? = some (.lst es))):WP (Az .frz N ps mb ds) μ QD:=by
  obtain ⟨r,μ2,e,es,τ2,gs,rfl,c,q,z | ⟨j,z,hj,hg⟩⟩:=h
  . subst z
    exact AN (Jz e hl c) q
  . subst z
    exact AN (Lr e hl hj hg c) q
theorem HE {τ:Sl} {gs:Mh} {ds:List D} {i:Nat} {ra:Sl->M (List D)} {QD:D->Mh->Prop} (ht:τ[i]? = some (some (.ref gs.length))) (h:WP (ra τ) (gs ++ [.lst ds]) fun es μ1=>∃ zs,es=[.lst zs] /\ μ1=gs ++ [.lst ds] /\ ds.length + zs.length <= 1000000 /\ QD .non (gs ++ [.lst (ds ++ zs)])):WP (BL Iw (AC i) ra τ) (gs ++ [.lst ds]) QD:=by
  unfold BL
  refine AR (AN (DI ht) ?_)
  have at_:(gs ++ [MO.lst ds])[gs.length]? = some (.lst ds):=by
    rw [List.getElem?_append_right (Nat.le_refl _),Nat.sub_self]
    rfl
  have hg:CO (.ref gs.length) (gs ++ [.lst ds])=some ((),gs ++ [.lst ds]):=by
    unfold CO
    rw [A4 (show A6 (.ref gs.length) (gs ++ [.lst ds])=some (ds,gs ++ [.lst ds]) from by unfold A6; dsimp only; rw [at_])]
    rfl
  refine AR (AN hg (AR (AO h ?_)))
  rintro es μ1 ⟨zs,rfl,rfl,hl,q⟩
  refine AN (a:=.non) (μ':=gs ++ [.lst (ds ++ zs)]) ?_ q
  show D9 gs.length (fun ds=>if ds.length + zs.length <= sizeLine then some (.non,ds ++ zs) else none) (gs ++ [.lst ds])=_
  unfold D9
  rw [at_]
  dsimp only
  rw [if_pos (by rw [sizeLine_eq]; omega)]
  simp
end Mi
namespace K21
open PySem L2 Mi
theorem KZ:∀ c ∈ Hz,PyData.strOk c=true:=by decide +kernel
theorem Dw:PyData.strOk ("num" : Str)=true:=by decide +kernel
theorem DD:PyData.strOk ("var" : Str)=true:=by decide +kernel
theorem HV:PyData.strOk ("not" : Str)=true:=by decide +kernel
theorem Qk:∀ c ∈ Hz,(c == ("num" : Str))=false:=by decide +kernel
theorem MD:∀ c ∈ Hz,(c == ("var" : Str))=false:=by decide +kernel
theorem De (k:Nat):∀ xs:List Str,ClL k (xs.map D.str)
  | []=>by unfold List.map ClL; trivial
  | x :: xs=>by unfold List.map ClL; exact ⟨by unfold Cl; trivial,De k xs⟩
theorem Aj:∀ (d:Nat) (e:Ex),e.Ok d->e.vars.length <= 2 ^ d
  | _,.num _,_=>by unfold Ex.vars; simp
  | d,.var x,_=>by unfold Ex.vars; simp; exact Nat.one_le_two_pow
  | 0,.neg e,h=>absurd h (by unfold Ex.Ok; exact id)
  | d + 1,.neg e,h=>by
    have:=Aj d e h
    unfold Ex.vars
    rw [Nat.pow_succ]
    omega
  | 0,.bin _ _ _,h=>absurd h (by unfold Ex.Ok; exact id)
  | d + 1,.bin w a b,h=>by
    have h1:=Aj d a h.2.1
    have h2:=Aj d b h.2.2
    unfold Ex.vars
    rw [List.length_append,Nat.pow_succ]
    omega
section
variable {μ:Mh} {QD:D->Mh->Prop}
theorem H9 {n:Nat} {x0:Option D} {es:List Ex} (rec:∀ e ∈ es,∀ {μ:Mh} {QD:D->Mh->Prop},QD (.lst (e.vars.map D.str)) μ->WP (Ah n [e.toD]) μ QD) (small:(es.flatMap Ex.vars).length <= 1000) (q:QD (.lst ((es.flatMap Ex.vars).map D.str)) μ) :
    WP (DM (AQ 2) (Cb (BL Iw (AC 1) (AD (AJ (Ah n) (AD (AC 2) AK)) AK))) (es.map Ex.toD) [x0,some (.ref μ.length),none]) (μ ++ [.lst []]) (Fb (A5 (AC 1)) fun r μ2=>∃ es τ2 gs,μ2=μ ++ gs /\ ClL μ.length es /\ QD (.lst es) μ /\ (r=(.rt (.lst es),τ2) ∨ ∃ j,r=(.rt (.ref j),τ2) /\ μ.length <= j /\ μ2[j]? = some (.lst es))):=by
  refine C6 (I:=fun rest τ μ'=>∃ a b o2,a ++ b=es /\ rest=b.map Ex.toD /\ μ'=μ ++ [.lst ((a.flatMap Ex.vars).map D.str)] /\ τ=[x0,some (.ref μ.length),o2]) ?_ ?_ ⟨[],es,none,rfl,rfl,rfl,rfl⟩
  . rintro y ys τ μ' ⟨a,b,o2,hab,hr,rfl,rfl⟩
    cases b with
    | nil=>cases hr
    | cons e b=>
      rw [List.map_cons] at hr
      obtain ⟨e3,e4⟩:=List.cons.inj hr
      subst e3
      have hm:e ∈ es:=by rw [← hab]; simp
      have hsm:(a.flatMap Ex.vars).length + e.vars.length <= 1000:=by
        have:(es.flatMap Ex.vars).length=(a.flatMap Ex.vars).length + (e.vars.length + (b.flatMap Ex.vars).length):=by rw [← hab,List.flatMap_append,List.length_append,List.flatMap_cons,List.length_append]
        omega
      wtm_at "own qwr"
      refine HE rfl ?_
      wtm_at "own qwr"
      refine rec e hm ?_
      wtm_at "own qwr"
      refine ⟨_,rfl,rfl,by rw [List.length_map,List.length_map]; omega,An ⟨a ++ [e],b,_,by rw [← hab]; simp,e4,?_,rfl⟩⟩
      rw [List.flatMap_append,List.map_append,List.flatMap_cons,List.flatMap_nil,List.append_nil]
  . rintro τ μ' ⟨a,b,o2,hab,hr,rfl,rfl⟩
    cases b with
    | cons e b=>cases hr
    | nil=>
      rw [List.append_nil] at hab
      subst hab
      wtm_at "own qwr"
      exact ⟨_,_,_,rfl,De _ _,q,.inr ⟨μ.length,rfl,Nat.le_refl _,by rw [List.getElem?_append_right (Nat.le_refl _),Nat.sub_self]; rfl⟩⟩
theorem G7:∀ (d n:Nat) (e:Ex) {μ:Mh} {QD:D->Mh->Prop},d < n->d <= 4->e.Ok d->QD (.lst (e.vars.map D.str)) μ->WP (Ah n [e.toD]) μ QD
  | d,0,_,_,_,h,_,_,_=>absurd h (Nat.not_lt_zero d)
  | d,n + 1,.num i,μ,QD,h,d4,ok,q=>by
    unfold Ah
    refine Cu rfl ?_
    unfold Ar Ex.toD
    wtm_at "own qwr"
    refine Bm Dw Dw ?_
    wtm_at "own qwr"
    rw [beq_self_eq_true]
    refine Ax ?_
    wtm_at "own qwr"
    exact ⟨[],_,[],by simp,by unfold ClL; trivial,q,.inl rfl⟩
  | d,n + 1,.var y,μ,QD,h,d4,ok,q=>by
    unfold Ah
    refine Cu rfl ?_
    unfold Ar Ex.toD
    wtm_at "own qwr"
    refine Bm DD Dw ?_
    wtm_at "own qwr"
    rw [show ((("var" : Str)) == ("num" : Str))=false from by decide +kernel]
    refine Ad ?_
    wtm_at "own qwr"
    refine Bm DD DD ?_
    wtm_at "own qwr"
    rw [beq_self_eq_true]
    refine Ax ?_
    wtm_at "own qwr"
    exact ⟨[.str y],_,[],by simp,by unfold ClL Cl ClL; exact ⟨trivial,trivial⟩,q,.inl rfl⟩
  | 0,n + 1,.neg e,_,_,_,_,ok,_=>absurd ok (by unfold Ex.Ok; exact id)
  | d + 1,n + 1,.neg e,μ,QD,h,d4,ok,q=>by
    have vl:=Aj d e ok
    have p4:2 ^ d <= 2 ^ 4:=Nat.pow_le_pow_right (by decide) (by omega)
    unfold Ah
    refine Cu rfl ?_
    unfold Ar Ex.toD
    wtm_at "own qwr"
    refine Bm HV Dw ?_
    wtm_at "own qwr"
    rw [show ((("not" : Str)) == ("num" : Str))=false from by decide +kernel]
    refine Ad ?_
    wtm_at "own qwr"
    refine Bm HV DD ?_
    wtm_at "own qwr"
    rw [show ((("not" : Str)) == ("var" : Str))=false from by decide +kernel]
    refine Ad ?_
    wtm_at "own qwr"
    refine AN (a:=.tup [e.toD]) (μ':=_) rfl ?_
    wtm_at "own qwr"
    refine H9 (es:=[e]) (fun e' he=>?_) (by simp; omega) (by simpa [Ex.vars] using q)
    cases List.mem_singleton.mp he
    exact fun {μ QD} q=>G7 d n e (by omega) (by omega) ok q
  | 0,n + 1,.bin _ _ _,_,_,_,_,ok,_=>absurd ok (by unfold Ex.Ok; exact id)
  | d + 1,n + 1,.bin w a b,μ,QD,h,d4,ok,q=>by
    have va:=Aj d a ok.2.1
    have vb:=Aj d b ok.2.2
    have p4:2 ^ d <= 2 ^ 4:=Nat.pow_le_pow_right (by decide) (by omega)
    unfold Ah
    refine Cu rfl ?_
    unfold Ar Ex.toD
    wtm_at "own qwr"
    refine Bm (KZ w ok.1) Dw ?_
    wtm_at "own qwr"
    rw [Qk w ok.1]
    refine Ad ?_
    wtm_at "own qwr"
    refine Bm (KZ w ok.1) DD ?_
    wtm_at "own qwr"
    rw [MD w ok.1]
    refine Ad ?_
    wtm_at "own qwr"
    refine AN (a:=.tup [a.toD,b.toD]) (μ':=_) rfl ?_
    wtm_at "own qwr"
    refine H9 (es:=[a,b]) (fun e' he=>?_) (by simp; omega) (by simpa [Ex.vars] using q)
    rcases List.mem_cons.mp he with z | z
    . cases z
      exact fun {μ QD} q=>G7 d n a (by omega) (by omega) ok.2.1 q
    . cases List.mem_singleton.mp z
      exact fun {μ QD} q=>G7 d n b (by omega) (by omega) ok.2.2 q
end
end K21
set_option maxHeartbeats 1000000
namespace Mi
open PySem L2
theorem CD {bf:D->Sl->M Sl} {m1:Sl->M (Fl × Sl)} {QS:Fl × Sl->Mh->Prop} {x:D} {xs:List D} {τ:Sl} {μ:Mh} (h:WP (bf x τ) μ fun τ1 μ1=>WP (m1 τ1) μ1 (Kh (fun τ2 μ2=>WP (DM bf m1 xs τ2) μ2 QS) QS)):WP (DM bf m1 (x :: xs) τ) μ QS:=
  AR (AO h fun τ1 μ1 z=>AR (AO z fun r μ2 z=>by
    obtain ⟨fl,τ2⟩:=r
    cases fl
    . exact z
    . exact A3 z
    . exact z
    . exact A3 z))
theorem OI {bf:D->Sl->M Sl} {m1:Sl->M (Fl × Sl)} {QS:Fl × Sl->Mh->Prop} {τ:Sl} {μ:Mh} (h:QS (.next,τ) μ):WP (DM bf m1 [] τ) μ QS:=A3 h
end Mi
namespace K21
open PySem L2 Mi
theorem CJ:PyData.strOk ("variable" : Str)=true:=by decide +kernel
theorem Bf:PyData.strOk ("expression" : Str)=true:=by decide +kernel
theorem M8:PyData.strOk ("box" : Str)=true:=by decide +kernel
theorem Go:PyData.strOk ("target" : Str)=true:=by decide +kernel
noncomputable abbrev Kw:Sl->M (Fl × Sl):=(AV (sIf (Ag (mOp CI (AC 2) (mC (.str "variable")))) (Cb (BL Gd (AC 1) (AD (AC 3) AK))) Bu)
    (sIf (Ag (mOp CI (AC 2) (mC (.str "expression")))) (Cb (BL Iw (AC 1) (AD (AJ (Ah 6) (AD (AC 3) AK)) AK))) Bu))
section
variable {μ:Mh} {QD:D->Mh->Prop}
variable {x0 o2 o3:Option D} {ds:List D} {QS:Fl × Sl->Mh->Prop}
theorem IT {y:Str} (hl:ds.length <= 100) (h:∀ o2 o3,QS (.next,[x0,some (.ref μ.length),o2,o3]) (μ ++ [.lst (ds ++ [.str y])])):WP (EV [2,3] (.tup [.str "variable",.str y]) [x0,some (.ref μ.length),o2,o3]) (μ ++ [.lst ds]) fun τ1 μ1=>WP (Kw τ1) μ1 QS:=by
  (with_reducible apply Ct)
  wtm_at "own qwr"
  refine Bm CJ CJ ?_
  wtm_at "own qwr"
  rw [beq_self_eq_true]
  refine Ax ?_
  wtm_at "own qwr"
  refine Db (gs:=μ) rfl (by rw [sizeLine_eq]; omega) ?_
  wtm_at "own qwr"
  refine ⟨μ,_,rfl,rfl,rfl,?_⟩
  wtm_at "own qwr"
  refine Bm CJ Bf ?_
  wtm_at "own qwr"
  rw [show (("variable" : Str) == ("expression" : Str))=false from by decide +kernel]
  refine Ad ?_
  (with_reducible apply Co)
  exact h _ _
theorem EK {e:Ex} (ok:e.Ok 2) (hl:ds.length <= 100) (h:∀ o2 o3,QS (.next,[x0,some (.ref μ.length),o2,o3]) (μ ++ [.lst (ds ++ e.vars.map D.str)])):WP (EV [2,3] (.tup [.str "expression",e.toD]) [x0,some (.ref μ.length),o2,o3]) (μ ++ [.lst ds]) fun τ1 μ1=>WP (Kw τ1) μ1 QS:=by
  have vl:=Aj 2 e ok
  (with_reducible apply Ct)
  wtm_at "own qwr"
  refine Bm Bf CJ ?_
  wtm_at "own qwr"
  rw [show (("expression" : Str) == ("variable" : Str))=false from by decide +kernel]
  refine Ad ?_
  (with_reducible apply Co)
  (with_reducible apply BP)
  wtm_at "own qwr"
  refine Bm Bf Bf ?_
  wtm_at "own qwr"
  rw [beq_self_eq_true]
  refine Ax ?_
  wtm_at "own qwr"
  refine HE rfl ?_
  wtm_at "own qwr"
  refine G7 2 6 e (by decide) (by decide) ok ?_
  wtm_at "own qwr"
  exact ⟨_,rfl,rfl,by rw [List.length_map]; omega,h _ _⟩
theorem FO {w:Str} {y:D} (ow:PyData.strOk w=true) (w1:(w == ("variable" : Str))=false) (w2:(w == ("expression" : Str))=false) (h:∀ o2 o3,QS (.next,[x0,some (.ref μ.length),o2,o3]) (μ ++ [.lst ds])):WP (EV [2,3] (.tup [.str w,y]) [x0,some (.ref μ.length),o2,o3]) (μ ++ [.lst ds]) fun τ1 μ1=>WP (Kw τ1) μ1 QS:=by
  (with_reducible apply Ct)
  wtm_at "own qwr"
  refine Bm ow CJ ?_
  wtm_at "own qwr"
  rw [w1]
  refine Ad ?_
  (with_reducible apply Co)
  (with_reducible apply BP)
  wtm_at "own qwr"
  refine Bm ow Bf ?_
  wtm_at "own qwr"
  rw [w2]
  refine Ad ?_
  (with_reducible apply Co)
  exact h _ _
end
end K21
set_option maxHeartbeats 1000000
namespace K21
open PySem L2 Mi
theorem nb1:(("box" : Str) == ("variable" : Str))=false:=by decide +kernel
theorem nb2:(("box" : Str) == ("expression" : Str))=false:=by decide +kernel
theorem nt1:(("target" : Str) == ("variable" : Str))=false:=by decide +kernel
theorem nt2:(("target" : Str) == ("expression" : Str))=false:=by decide +kernel
section
variable {μ:Mh} {QD:D->Mh->Prop}
theorem QV {r:Rw} (ok:r.Ok) (q:QD (.lst (r.vars.map D.str)) μ):WP (B4 [r.toD]) μ QD:=by
  unfold B4
  refine Cu rfl ?_
  unfold BU
  have fin:∀ (ds:List D) (x0 o2 o3:Option D),ds=r.vars.map D.str->WP (DM (EV [2,3]) Kw [] [x0,some (.ref μ.length),o2,o3]) (μ ++ [.lst ds]) (Fb (A5 (AC 1)) fun r μ2=>∃ es τ2 gs,μ2=μ ++ gs /\ ClL μ.length es /\ QD (.lst es) μ /\ (r=(.rt (.lst es),τ2) ∨ ∃ j,r=(.rt (.ref j),τ2) /\ μ.length <= j /\ μ2[j]? = some (.lst es))):=fun ds x0 o2 o3 e=>by
    subst e
    refine OI ?_
    (with_reducible apply BP)
    wtm_at "own qwr"
    exact ⟨_,_,_,rfl,De _ _,q,.inr ⟨μ.length,rfl,Nat.le_refl _,by rw [List.getElem?_append_right (Nat.le_refl _),Nat.sub_self]; rfl⟩⟩
  cases r with
  | put b e=>
    unfold Rw.toD
    wtm_at "own qwr"
    (with_reducible apply Dt)
    wtm_at "own qwr"
    refine AN (a:=.tup [.str "box",.str "expression"]) (μ':=_) rfl ?_
    wtm_at "own qwr"
    refine AN (a:=.tup [.str b,e.toD]) (μ':=_) rfl ?_
    wtm_at "own qwr"
    refine ⟨_,_,rfl,rfl,?_⟩
    refine CD (FO M8 nb1 nb2 fun o2 o3=>An ?_)
    refine CD (EK ok.2 (by simp) fun o2 o3=>An ?_)
    exact fin _ _ _ _ rfl
  | get y b=>
    unfold Rw.toD
    wtm_at "own qwr"
    (with_reducible apply Dt)
    wtm_at "own qwr"
    refine AN (a:=.tup [.str "variable",.str "box"]) (μ':=_) rfl ?_
    wtm_at "own qwr"
    refine AN (a:=.tup [.str y,.str b]) (μ':=_) rfl ?_
    wtm_at "own qwr"
    refine ⟨_,_,rfl,rfl,?_⟩
    refine CD (IT (by simp) fun o2 o3=>An ?_)
    refine CD (FO M8 nb1 nb2 fun o2 o3=>An ?_)
    exact fin _ _ _ _ rfl
  | lett y e=>
    unfold Rw.toD
    wtm_at "own qwr"
    (with_reducible apply Dt)
    wtm_at "own qwr"
    refine AN (a:=.tup [.str "variable",.str "expression"]) (μ':=_) rfl ?_
    wtm_at "own qwr"
    refine AN (a:=.tup [.str y,e.toD]) (μ':=_) rfl ?_
    wtm_at "own qwr"
    refine ⟨_,_,rfl,rfl,?_⟩
    refine CD (IT (by simp) fun o2 o3=>An ?_)
    refine CD (EK ok.2 (by simp) fun o2 o3=>An ?_)
    exact fin _ _ _ _ rfl
  | unl e t=>
    unfold Rw.toD
    wtm_at "own qwr"
    (with_reducible apply Dt)
    wtm_at "own qwr"
    refine AN (a:=.tup [.str "expression",.str "target"]) (μ':=_) rfl ?_
    wtm_at "own qwr"
    refine AN (a:=.tup [e.toD,.int t]) (μ':=_) rfl ?_
    wtm_at "own qwr"
    refine ⟨_,_,rfl,rfl,?_⟩
    refine CD (EK ok (by simp) fun o2 o3=>An ?_)
    refine CD (FO Go nt1 nt2 fun o2 o3=>An ?_)
    exact fin _ _ _ _ rfl
  | jump t=>
    unfold Rw.toD
    wtm_at "own qwr"
    (with_reducible apply Dt)
    wtm_at "own qwr"
    refine AN (a:=.tup [.str "target"]) (μ':=_) rfl ?_
    wtm_at "own qwr"
    refine AN (a:=.tup [.int t]) (μ':=_) rfl ?_
    wtm_at "own qwr"
    refine ⟨_,_,rfl,rfl,?_⟩
    refine CD (FO Go nt1 nt2 fun o2 o3=>An ?_)
    exact fin _ _ _ _ rfl
  | tell e=>
    unfold Rw.toD
    wtm_at "own qwr"
    (with_reducible apply Dt)
    wtm_at "own qwr"
    refine AN (a:=.tup [.str "expression"]) (μ':=_) rfl ?_
    wtm_at "own qwr"
    refine AN (a:=.tup [e.toD]) (μ':=_) rfl ?_
    wtm_at "own qwr"
    refine ⟨_,_,rfl,rfl,?_⟩
    refine CD (EK ok (by simp) fun o2 o3=>An ?_)
    exact fin _ _ _ _ rfl
  | fin=>
    unfold Rw.toD
    wtm_at "own qwr"
    (with_reducible apply Dt)
    wtm_at "own qwr"
    refine AN (a:=.tup []) (μ':=_) rfl ?_
    wtm_at "own qwr"
    refine AN (a:=.tup []) (μ':=_) rfl ?_
    wtm_at "own qwr"
    refine ⟨_,_,rfl,rfl,?_⟩
    exact fin _ _ _ _ rfl
end
end K21
set_option maxHeartbeats 1000000
namespace K21
open PySem L2 Mi Xt
theorem Fd:∀ xs:List Str,DR (xs.map D.str)=some xs
  | []=>rfl
  | x :: xs=>by
    rw [List.map_cons]
    unfold DR
    rw [Fd xs]
    rfl
theorem Io (x:Str):∀ ys:List Str,(FE x ys).length <= ys.length + 1
  | []=>by simp [FE]
  | y :: ys=>by
    have:=Io x ys
    unfold FE
    split
    . simp
    . split
      . simp
      . rw [List.length_cons,List.length_cons]
        omega
theorem Fh:∀ xs:List Str,(Ck xs).length <= xs.length
  | []=>by simp [Ck]
  | x :: xs=>by
    have:=Fh xs
    have e:Ck (x :: xs)=FE x (Ck xs):=rfl
    rw [e,List.length_cons]
    have:=Io x (Ck xs)
    omega
def hv (rs:List Rw):List Str:=(Ck (rs.flatMap Rw.vars)).filter fun x=>!(x == ("v" : Str))
theorem GC:∀ (d:Nat) (e:Ex),e.Ok d->∀ x ∈ e.vars,x ∈ CL
  | _,.num _,_,x,h=>by unfold Ex.vars at h; cases h
  | d,.var y,ok,x,h=>by
    unfold Ex.vars at h
    rw [List.mem_singleton.mp h]
    cases d <;> exact ok
  | 0,.neg e,ok,_,_=>absurd ok (by unfold Ex.Ok; exact id)
  | d + 1,.neg e,ok,x,h=>GC d e ok x h
  | 0,.bin _ _ _,ok,_,_=>absurd ok (by unfold Ex.Ok; exact id)
  | d + 1,.bin w a b,ok,x,h=>by
    unfold Ex.vars at h
    rcases List.mem_append.mp h with z | z
    . exact GC d a ok.2.1 x z
    . exact GC d b ok.2.2 x z
theorem Sk {r:Rw} (ok:r.Ok):∀ x ∈ r.vars,x ∈ CL:=fun x h=>by
  cases r with
  | put b e=>exact GC 2 e ok.2 x h
  | get y b=>rw [List.mem_singleton.mp h]; exact ok.1
  | lett y e=>
    rcases List.mem_cons.mp h with z | z
    . rw [z]; exact ok.1
    . exact GC 2 e ok.2 x z
  | unl e t=>exact GC 2 e ok x h
  | jump t=>cases h
  | tell e=>exact GC 2 e ok x h
  | fin=>cases h
theorem MY {r:Rw} (ok:r.Ok):r.vars.length <= 5:=by
  cases r with
  | put b e=>exact Nat.le_trans (Aj 2 e ok.2) (by decide)
  | get y b=>show 1 <= 5; decide
  | lett y e=>
    have:=Aj 2 e ok.2
    show (y :: e.vars).length <= 5
    rw [List.length_cons]
    omega
  | unl e t=>exact Nat.le_trans (Aj 2 e ok) (by decide)
  | jump t=>show 0 <= 5; decide
  | tell e=>exact Nat.le_trans (Aj 2 e ok) (by decide)
  | fin=>show 0 <= 5; decide
theorem FM:∀ {rs:List Rw},(∀ r ∈ rs,r.Ok)->(rs.flatMap Rw.vars).length <= 5 * rs.length
  | [],_=>by simp
  | r :: rs,h=>by
    have a:=MY (h r List.mem_cons_self)
    have b:=FM (rs:=rs) fun x hx=>h x (List.mem_cons_of_mem _ hx)
    rw [List.flatMap_cons,List.length_append,List.length_cons]
    omega
theorem Ka:∀ c ∈ CL,PyData.strOk c=true:=by decide +kernel
theorem UF:PyData.strOk ("v" : Str)=true:=by decide +kernel
section
variable {μ:Mh} {QD:D->Mh->Prop}
theorem Lz {rs:List Rw} (ok:∀ r ∈ rs,r.Ok) (r4:rs.length <= 4) (q:QD (.lst ((hv rs).map D.str)) μ):WP (BD [.tup (rs.map Rw.toD)]) μ QD:=by
  unfold BD
  refine By rfl ?_
  unfold A1
  wtm_at "own qwr"
  refine C6 (I:=fun rest τ μ'=>∃ a b o2,a ++ b=rs /\ rest=b.map Rw.toD /\ μ'=μ ++ [.lst ((a.flatMap Rw.vars).map D.str)] /\ τ=[some (.tup (rs.map Rw.toD)),some (.ref μ.length),o2]) ?_ ?_ ⟨[],rs,none,rfl,rfl,rfl,rfl⟩
  . rintro y ys τ μ' ⟨a,b,o2,hab,hr,rfl,rfl⟩
    cases b with
    | nil=>cases hr
    | cons r b=>
      rw [List.map_cons] at hr
      obtain ⟨e3,e4⟩:=List.cons.inj hr
      subst e3
      have hm:r ∈ rs:=by rw [← hab]; simp
      have la:=FM (rs:=a) fun x hx=>ok x (by rw [← hab]; simp [hx])
      have al:a.length <= 4:=by
        have:=congrArg List.length hab
        simp at this
        omega
      have lr:=MY (ok r hm)
      wtm_at "own qwr"
      refine HE rfl ?_
      wtm_at "own qwr"
      refine QV (ok r hm) ?_
      wtm_at "own qwr"
      refine ⟨_,rfl,rfl,by rw [List.length_map,List.length_map]; omega,An ⟨a ++ [r],b,_,by rw [← hab]; simp,e4,?_,rfl⟩⟩
      rw [List.flatMap_append,List.map_append,List.flatMap_cons,List.flatMap_nil,List.append_nil]
  . rintro τ μ' ⟨a,b,o2,hab,hr,rfl,rfl⟩
    cases b with
    | cons r b=>cases hr
    | nil=>
      rw [List.append_nil] at hab
      subst hab
      have la:=FM ok
      have nl:=HX (a.flatMap Rw.vars)
      have si:∀ x ∈ Ck (a.flatMap Rw.vars),x ∈ CL:=fun x hx=>by
        obtain ⟨r,hr,hx2⟩:=List.mem_flatMap.mp ((Fg _ x).mp hx)
        exact Sk (ok r hr) x hx2
      have sl':(Ck (a.flatMap Rw.vars)).length <= 100:=by
        have:=Fh (a.flatMap Rw.vars)
        omega
      wtm_at "own qwr"
      refine AN (a:=.lst ((Ck (a.flatMap Rw.vars)).map D.str)) (μ':=μ ++ [.lst ((a.flatMap Rw.vars).map D.str)]) ?_ ?_
      . unfold Ed
        rw [A4 (show A6 (.ref μ.length) (μ ++ [.lst ((a.flatMap Rw.vars).map D.str)])=some ((a.flatMap Rw.vars).map D.str,μ ++ [.lst ((a.flatMap Rw.vars).map D.str)]) from by unfold A6; dsimp only; rw [List.getElem?_append_right (Nat.le_refl _),Nat.sub_self]; rfl),Fd]
        exact if_pos ⟨by omega,by omega⟩
      wtm_at "own qwr"
      refine ⟨by rw [List.length_map,sizeLine_eq]; omega,?_⟩
      refine BO _ (fun x=>!(x == ("v" : Str))) D.str (fun x hx=>?_) ?_
      . wtm_at "own qwr"
        refine ⟨rfl,?_⟩
        wtm_at "own qwr"
        refine JR (by unfold Pz; exact Ka x (si x hx)) (by unfold Pz; exact UF) (by show 0 <= 64; omega) (by show 0 <= 64; omega) fun e he=>?_
        wtm_at "own qwr"
        refine ⟨?_,rfl,fun _=>?_⟩
        . have:e=(x == ("v" : Str)):=by
            rw [Bool.eq_iff_iff,he,beq_iff_eq]
            exact ⟨fun z=>by cases z; rfl,fun z=>by rw [z]⟩
          rw [this]
        . wtm_at "own qwr"
          exact ⟨rfl,rfl⟩
      . have fl:=List.length_filter_le (fun x=>!(x == ("v" : Str))) (Ck (a.flatMap Rw.vars))
        refine Bl (by rw [List.length_map,sizeLine_eq]; omega) ?_
        wtm_at "own qwr"
        exact ⟨_,_,_,rfl,rfl,by unfold Cl; exact De _ _,q⟩
end
end K21
set_option maxHeartbeats 1000000
namespace K21
open PySem L2 Mi Xt
section
variable {μ:Mh} {QD:D->Mh->Prop}
theorem FI {as bs:List D} (h:as.length + bs.length <= 1000000) (q:QD (.lst (as ++ bs)) μ):WP (BE (.lst as) (.lst bs)) μ QD:=by
  refine AN (a:=.lst (as ++ bs)) (μ':=μ) ?_ q
  show BA (as ++ bs) μ=_
  unfold BA
  rw [A4 (Ek (by rw [List.length_append,sizeLine_eq]; omega) _)]
  rfl
theorem HY {n:Nat} {x:Str} (q:QD (.lst []) μ):WP (Aw (n + 1) [.str x]) μ QD:=by
  unfold Aw
  refine By rfl ?_
  unfold B3
  wtm_at "own qwr"
  refine AN (a:=.bl false) (μ':=μ) rfl ?_
  wtm_at "own qwr"
  refine Ax ?_
  wtm_at "own qwr"
  exact ⟨_,_,[],rfl,by simp,by unfold Cl ClL; trivial,q⟩
theorem NC {n:Nat} {i:Int} (q:QD (.lst []) μ):WP (Aw (n + 1) [.int i]) μ QD:=by
  unfold Aw
  refine By rfl ?_
  unfold B3
  wtm_at "own qwr"
  refine AN (a:=.bl false) (μ':=μ) rfl ?_
  wtm_at "own qwr"
  refine Ax ?_
  wtm_at "own qwr"
  exact ⟨_,_,[],rfl,by simp,by unfold Cl ClL; trivial,q⟩
theorem Cd {n:Nat} {parts:List (D × List Str)} {hd:D} {tl:List D} (eh:parts.map (·.1)=hd :: tl) (ph:Pz hd) (dh:dpt hd <= 60) (nh:hd ≠ .str "var") (rec:∀ p ∈ parts,∀ {μ:Mh} {QD:D->Mh->Prop},QD (.lst (p.2.map D.str)) μ->WP (Aw n [p.1]) μ QD) (small:(parts.flatMap (·.2)).length <= 1000) (lp:parts.length <= 1000) (q:QD (.lst ((parts.flatMap (·.2)).map D.str)) μ):WP (Aw (n + 1) [.tup (parts.map (·.1))]) μ QD:=by
  unfold Aw
  refine By rfl ?_
  unfold B3
  wtm_at "own qwr"
  refine AN (a:=.bl true) (μ':=μ) rfl ?_
  wtm_at "own qwr"
  refine Ad ?_
  wtm_at "own qwr"
  refine AN (a:=.tup [hd]) (μ':=μ) ?_ ?_
  . rw [eh]
    show some (D.tup (Gc (hd :: tl) none (some ((1:Nat):Int))),μ)=_
    unfold Gc
    rw [HT.Oc]
    show some (D.tup (((hd :: tl).drop 0).take (min 1 (hd :: tl).length - 0)),μ)=_
    rw [List.drop_zero,List.length_cons,Nat.min_eq_left (by omega)]
    rfl
  wtm_at "own qwr"
  refine JS (by unfold Pz PzL; exact ⟨ph,by unfold PzL; trivial⟩) (by unfold Pz PzL Pz; exact ⟨DD,by unfold PzL; trivial⟩) (by unfold dpt Br Br; omega) (by show 1 <= 64; omega) fun e he=>?_
  have e0:e=false:=by
    cases e with
    | false=>rfl
    | true=>exact absurd (by have:=he.mp rfl; simpa using this) nh
  subst e0
  wtm_at "own qwr"
  refine C6 (I:=fun rest τ μ'=>∃ a b o2,a ++ b=parts /\ rest=b.map (·.1) /\ μ=μ' /\ τ=[some (.tup (parts.map (·.1))),some (.lst ((a.flatMap (·.2)).map D.str)),o2]) ?_ ?_ ⟨[],parts,none,rfl,rfl,rfl,rfl⟩
  . rintro y ys τ μ' ⟨a,b,o2,hab,hr,rfl,rfl⟩
    cases b with
    | nil=>cases hr
    | cons p b=>
      rw [List.map_cons] at hr
      obtain ⟨e3,e4⟩:=List.cons.inj hr
      subst e3
      have hm:p ∈ parts:=by rw [← hab]; simp
      have hsm:(a.flatMap (·.2)).length + p.2.length <= 1000:=by
        have:(parts.flatMap (·.2)).length=(a.flatMap (·.2)).length + (p.2.length + (b.flatMap (·.2)).length):=by rw [← hab,List.flatMap_append,List.length_append,List.flatMap_cons,List.length_append]
        omega
      wtm_at "own qwr"
      refine rec p hm ?_
      refine FI (by rw [List.length_map,List.length_map]; omega) ?_
      refine An ⟨a ++ [p],b,some p.1,by rw [← hab]; simp,e4,rfl,?_⟩
      rw [List.flatMap_append,List.map_append,List.flatMap_cons,List.flatMap_nil,List.append_nil]
      rfl
  . rintro τ μ' ⟨a,b,o2,hab,hr,rfl,rfl⟩
    cases b with
    | cons p b=>cases hr
    | nil=>
      rw [List.append_nil] at hab
      subst hab
      wtm_at "own qwr"
      exact ⟨_,_,[],rfl,by simp,by unfold Cl; exact De _ _,q⟩
end
end K21
set_option maxHeartbeats 1000000
namespace K21
open PySem L2 Mi Xt
section
variable {μ:Mh} {QD:D->Mh->Prop}
theorem B8 {x:Str} (h:PyData.strOk x=true):Pz (.str x):=by unfold Pz; exact h
theorem Cp {x:Str} (h:(x == ("var" : Str))=false):D.str x ≠ .str "var" := fun z=>by
  have:=D.str.inj z
  rw [this] at h
  simp at h
theorem Kc:∀ (d n:Nat) (e:Ex) {μ:Mh} {QD:D->Mh->Prop},d + 1 < n->d <= 4->e.Ok d->QD (.lst (e.vars.map D.str)) μ->WP (Aw n [e.toD]) μ QD
  | d,0,_,_,_,h,_,_,_=>absurd h (Nat.not_lt_zero _)
  | d,1,_,_,_,h,_,_,_=>absurd h (by omega)
  | d,n + 2,.num i,μ,QD,h,d4,ok,q=>by
    refine Cd (n:=n + 1) (parts:=[(.str "num",[]),(.int i,[])]) (hd:=.str "num") rfl (B8 Dw) (by show 0 <= 60; omega) (Cp (by decide +kernel)) (fun p hp=>?_) (by simp) (by simp) q
    rcases List.mem_cons.mp hp with z | z
    . cases z
      exact fun {μ QD} q=>HY q
    . cases List.mem_singleton.mp z
      exact fun {μ QD} q=>NC q
  | d,n + 2,.var y,μ,QD,h,d4,ok,q=>by
    unfold Aw
    refine By rfl ?_
    unfold B3 Ex.toD
    wtm_at "own qwr"
    refine AN (a:=.bl true) (μ':=μ) rfl ?_
    wtm_at "own qwr"
    refine Ad ?_
    wtm_at "own qwr"
    refine AN (a:=.tup [.str "var"]) (μ':=μ) rfl ?_
    wtm_at "own qwr"
    refine JS (by unfold Pz PzL; exact ⟨B8 DD,by unfold PzL; trivial⟩) (by unfold Pz PzL; exact ⟨B8 DD,by unfold PzL; trivial⟩) (by show 1 <= 64; omega) (by show 1 <= 64; omega) fun e he=>?_
    have e0:e=true:=he.mpr rfl
    subst e0
    wtm_at "own qwr"
    exact ⟨_,_,[],rfl,by simp,by unfold Cl ClL Cl ClL; exact ⟨trivial,trivial⟩,q⟩
  | 0,n + 2,.neg e,_,_,_,_,ok,_=>absurd ok (by unfold Ex.Ok; exact id)
  | d + 1,n + 2,.neg e,μ,QD,h,d4,ok,q=>by
    have vl:=Aj d e ok
    have p4:2 ^ d <= 2 ^ 4:=Nat.pow_le_pow_right (by decide) (by omega)
    refine Cd (n:=n + 1) (parts:=[(.str "not",[]),(e.toD,e.vars)]) (hd:=.str "not") rfl (B8 HV) (by show 0 <= 60; omega) (Cp (by decide +kernel)) (fun p hp=>?_) (by simp; omega) (by simp) (by simpa [Ex.vars] using q)
    rcases List.mem_cons.mp hp with z | z
    . cases z
      exact fun {μ QD} q=>HY q
    . cases List.mem_singleton.mp z
      exact fun {μ QD} q=>Kc d (n + 1) e (by omega) (by omega) ok q
  | 0,n + 2,.bin _ _ _,_,_,_,_,ok,_=>absurd ok (by unfold Ex.Ok; exact id)
  | d + 1,n + 2,.bin w a b,μ,QD,h,d4,ok,q=>by
    have va:=Aj d a ok.2.1
    have vb:=Aj d b ok.2.2
    have p4:2 ^ d <= 2 ^ 4:=Nat.pow_le_pow_right (by decide) (by omega)
    refine Cd (n:=n + 1) (parts:=[(.str w,[]),(a.toD,a.vars),(b.toD,b.vars)]) (hd:=.str w) rfl (B8 (KZ w ok.1)) (by show 0 <= 60; omega) (Cp (MD w ok.1)) (fun p hp=>?_) (by simp; omega) (by simp) (by simpa [Ex.vars] using q)
    rcases List.mem_cons.mp hp with z | z
    . cases z
      exact fun {μ QD} q=>HY q
    . rcases List.mem_cons.mp z with z | z
      . cases z
        exact fun {μ QD} q=>Kc d (n + 1) a (by omega) (by omega) ok.2.1 q
      . cases List.mem_singleton.mp z
        exact fun {μ QD} q=>Kc d (n + 1) b (by omega) (by omega) ok.2.2 q
end
end K21
set_option maxHeartbeats 1000000
namespace K21
open PySem L2 Mi Xt
theorem Fr:∀ (d:Nat) (e:Ex),e.Ok d->Pz e.toD /\ dpt e.toD <= d + 1
  | d,.num i,_=>by
    unfold Ex.toD
    refine ⟨by unfold Pz; exact ⟨B8 Dw,by unfold Pz; trivial,by unfold PzL; trivial⟩,by show 1 <= d + 1; omega⟩
  | d,.var y,ok=>by
    have hy:y ∈ CL:=by cases d <;> exact ok
    unfold Ex.toD
    refine ⟨by unfold Pz; exact ⟨B8 DD,B8 (Ka y hy),by unfold PzL; trivial⟩,by show 1 <= d + 1; omega⟩
  | 0,.neg e,ok=>absurd ok (by unfold Ex.Ok; exact id)
  | d + 1,.neg e,ok=>by
    obtain ⟨a,b⟩:=Fr d e ok
    unfold Ex.toD
    refine ⟨by unfold Pz; exact ⟨B8 HV,a,by unfold PzL; trivial⟩,?_⟩
    show max 0 (max (dpt e.toD) 0) + 1 <= d + 1 + 1
    omega
  | 0,.bin _ _ _,ok=>absurd ok (by unfold Ex.Ok; exact id)
  | d + 1,.bin w a b,ok=>by
    obtain ⟨a1,a2⟩:=Fr d a ok.2.1
    obtain ⟨b1,b2⟩:=Fr d b ok.2.2
    unfold Ex.toD
    refine ⟨by unfold Pz; exact ⟨B8 (KZ w ok.1),a1,b1,by unfold PzL; trivial⟩,?_⟩
    show max 0 (max (dpt a.toD) (max (dpt b.toD) 0)) + 1 <= d + 1 + 1
    omega
def Rw.nam:Rw->List Str
  | .put _ e=>e.vars
  | .get _ _=>[]
  | .lett _ e=>e.vars
  | .unl e _=>e.vars
  | .jump _=>[]
  | .tell e=>e.vars
  | .fin=>[]
section
variable {μ:Mh} {QD:D->Mh->Prop}
theorem Rn {n:Nat} {r:Rw} (hn:5 <= n) (ok:r.Ok) (q:QD (.lst (r.nam.map D.str)) μ):WP (Aw n [r.toD]) μ QD:=by
  obtain ⟨n,rfl⟩:∃ k,n=k + 2:=⟨n - 2,by omega⟩
  have st:∀ {x:Str} {μ:Mh} {QD:D->Mh->Prop},QD (.lst (([]:List Str).map D.str)) μ->WP (Aw (n + 1) [.str x]) μ QD:=fun q=>HY q
  have it:∀ {i:Int} {μ:Mh} {QD:D->Mh->Prop},QD (.lst (([]:List Str).map D.str)) μ->WP (Aw (n + 1) [.int i]) μ QD:=fun q=>NC q
  have et:∀ (e:Ex),e.Ok 2->∀ {μ:Mh} {QD:D->Mh->Prop},QD (.lst (e.vars.map D.str)) μ->WP (Aw (n + 1) [e.toD]) μ QD:=fun e ok {μ QD} q=>Kc 2 (n + 1) e (by omega) (by decide) ok q
  cases r with
  | put b e=>
    have vl:=Aj 2 e ok.2
    refine Cd (n:=n + 1) (parts:=[(.str "put",[]),(.str b,[]),(e.toD,e.vars)]) (hd:=.str "put") rfl (B8 (by decide +kernel)) (by show 0 <= 60; omega) (Cp (by decide +kernel)) (fun p hp=>?_) (by simp; omega) (by simp) (by simpa [Rw.nam] using q)
    simp at hp
    rcases hp with rfl | rfl | rfl
    . exact st
    . exact st
    . exact et e ok.2
  | get y b=>
    refine Cd (n:=n + 1) (parts:=[(.str "get",[]),(.str y,[]),(.str b,[])]) (hd:=.str "get") rfl (B8 (by decide +kernel)) (by show 0 <= 60; omega) (Cp (by decide +kernel)) (fun p hp=>?_) (by simp) (by simp) (by simpa [Rw.nam] using q)
    simp at hp
    rcases hp with rfl | rfl | rfl <;> exact st
  | lett y e=>
    have vl:=Aj 2 e ok.2
    refine Cd (n:=n + 1) (parts:=[(.str "let",[]),(.str y,[]),(e.toD,e.vars)]) (hd:=.str "let") rfl (B8 (by decide +kernel)) (by show 0 <= 60; omega) (Cp (by decide +kernel)) (fun p hp=>?_) (by simp; omega) (by simp) (by simpa [Rw.nam] using q)
    simp at hp
    rcases hp with rfl | rfl | rfl
    . exact st
    . exact st
    . exact et e ok.2
  | unl e t=>
    have vl:=Aj 2 e ok
    refine Cd (n:=n + 1) (parts:=[(.str "unless",[]),(e.toD,e.vars),(.int t,[])]) (hd:=.str "unless") rfl (B8 (by decide +kernel)) (by show 0 <= 60; omega) (Cp (by decide +kernel)) (fun p hp=>?_) (by simp; omega) (by simp) (by simpa [Rw.nam] using q)
    simp at hp
    rcases hp with rfl | rfl | rfl
    . exact st
    . exact et e ok
    . exact it
  | jump t=>
    refine Cd (n:=n + 1) (parts:=[(.str "jump",[]),(.int t,[])]) (hd:=.str "jump") rfl (B8 (by decide +kernel)) (by show 0 <= 60; omega) (Cp (by decide +kernel)) (fun p hp=>?_) (by simp) (by simp) (by simpa [Rw.nam] using q)
    simp at hp
    rcases hp with rfl | rfl
    . exact st
    . exact it
  | tell e=>
    have vl:=Aj 2 e ok
    refine Cd (n:=n + 1) (parts:=[(.str "tell",[]),(e.toD,e.vars)]) (hd:=.str "tell") rfl (B8 (by decide +kernel)) (by show 0 <= 60; omega) (Cp (by decide +kernel)) (fun p hp=>?_) (by simp; omega) (by simp) (by simpa [Rw.nam] using q)
    simp at hp
    rcases hp with rfl | rfl
    . exact st
    . exact et e ok
  | fin=>
    refine Cd (n:=n + 1) (parts:=[(.str "done",[])]) (hd:=.str "done") rfl (B8 (by decide +kernel)) (by show 0 <= 60; omega) (Cp (by decide +kernel)) (fun p hp=>?_) (by simp) (by simp) (by simpa [Rw.nam] using q)
    simp at hp
    rcases hp with rfl
    exact st
end
end K21
set_option maxHeartbeats 1000000
namespace K21
open PySem L2 Mi Xt
theorem Sz {r:Rw} (ok:r.Ok):Pz r.toD /\ dpt r.toD <= 4:=by
  have nl:PzL []:=by unfold PzL; trivial
  have ni:∀ i:Int,Pz (.int i):=fun i=>by unfold Pz; trivial
  cases r with
  | put b e=>
    obtain ⟨a1,a2⟩:=Fr 2 e ok.2
    unfold Rw.toD
    refine ⟨by unfold Pz; exact ⟨B8 (by decide +kernel),B8 (M9 b ok.1),a1,nl⟩,?_⟩
    show max 0 (max 0 (max (dpt e.toD) 0)) + 1 <= 4
    omega
  | get y b=>
    unfold Rw.toD
    exact ⟨by unfold Pz; exact ⟨B8 (by decide +kernel),B8 (Ka y ok.1),B8 (M9 b ok.2),nl⟩,by show 1 <= 4; omega⟩
  | lett y e=>
    obtain ⟨a1,a2⟩:=Fr 2 e ok.2
    unfold Rw.toD
    refine ⟨by unfold Pz; exact ⟨B8 (by decide +kernel),B8 (Ka y ok.1),a1,nl⟩,?_⟩
    show max 0 (max 0 (max (dpt e.toD) 0)) + 1 <= 4
    omega
  | unl e t=>
    obtain ⟨a1,a2⟩:=Fr 2 e ok
    unfold Rw.toD
    refine ⟨by unfold Pz; exact ⟨B8 (by decide +kernel),a1,ni t,nl⟩,?_⟩
    show max 0 (max (dpt e.toD) (max 0 0)) + 1 <= 4
    omega
  | jump t=>
    unfold Rw.toD
    exact ⟨by unfold Pz; exact ⟨B8 (by decide +kernel),ni t,nl⟩,by show 1 <= 4; omega⟩
  | tell e=>
    obtain ⟨a1,a2⟩:=Fr 2 e ok
    unfold Rw.toD
    refine ⟨by unfold Pz; exact ⟨B8 (by decide +kernel),a1,nl⟩,?_⟩
    show max 0 (max (dpt e.toD) 0) + 1 <= 4
    omega
  | fin=>
    unfold Rw.toD
    exact ⟨by unfold Pz; exact ⟨B8 (by decide +kernel),nl⟩,by show 1 <= 4; omega⟩
theorem Qx (r:Rw):r.toD ≠ .str "var" := by cases r <;> (unfold Rw.toD; exact fun z=>nomatch z)
theorem PR {r:Rw} (ok:r.Ok):r.nam.length <= 4:=by
  cases r with
  | put b e=>exact Aj 2 e ok.2
  | lett y e=>exact Aj 2 e ok.2
  | unl e t=>exact Aj 2 e ok
  | tell e=>exact Aj 2 e ok
  | _=>show 0 <= 4; omega
theorem Fy:∀ {rs:List Rw},(∀ r ∈ rs,r.Ok)->(rs.flatMap Rw.nam).length <= 4 * rs.length
  | [],_=>by simp
  | r :: rs,h=>by
    have a:=PR (h r List.mem_cons_self)
    have b:=Fy (rs:=rs) fun x hx=>h x (List.mem_cons_of_mem _ hx)
    rw [List.flatMap_cons,List.length_append,List.length_cons]
    omega
section
variable {μ:Mh} {QD:D->Mh->Prop}
theorem PQ {n:Nat} {rs:List Rw} (hn:6 <= n) (ok:∀ r ∈ rs,r.Ok) (r1:1 <= rs.length) (r4:rs.length <= 4) (q:QD (.lst ((rs.flatMap Rw.nam).map D.str)) μ):WP (Aw n [.tup (rs.map Rw.toD)]) μ QD:=by
  obtain ⟨n,rfl⟩:∃ k,n=k + 1:=⟨n - 1,by omega⟩
  cases rs with
  | nil=>simp at r1
  | cons r0 rs=>
    have l:=Fy ok
    obtain ⟨p1,p2⟩:=Sz (ok r0 List.mem_cons_self)
    have e1:((r0 :: rs).map fun r=>(r.toD,r.nam)).map (·.1)=(r0 :: rs).map Rw.toD:=by rw [List.map_map]; rfl
    have e2:((r0 :: rs).map fun r=>(r.toD,r.nam)).flatMap (·.2)=(r0 :: rs).flatMap Rw.nam:=by rw [List.flatMap_map]
    have:=Cd (n:=n) (μ:=μ) (QD:=QD) (parts:=(r0 :: rs).map fun r=>(r.toD,r.nam)) (hd:=r0.toD) (tl:=rs.map Rw.toD) (by rw [e1]; rfl) p1 (by omega) (Qx r0) (fun p hp=>by
      obtain ⟨r,hr,rfl⟩:=List.mem_map.mp hp
      exact fun {μ QD} q=>Rn (by omega) (ok r hr) q) (by rw [e2]; omega) (by rw [List.length_map]; omega) (by rw [e2]; exact q)
    rwa [e1] at this
end
end K21
set_option maxHeartbeats 1000000
namespace K21
open PySem L2 Mi Xt
def Rw.tgt:Rw->Option Str
  | .get x _=>some x
  | .lett x _=>some x
  | _=>none
theorem FY (r:Rw) (x:Str):x ∈ r.vars ↔ x ∈ r.nam ∨ r.tgt=some x:=by
  cases r <;> simp [Rw.vars,Rw.nam,Rw.tgt,or_comm,eq_comm]
theorem Nj (rs:List Rw):((Av (rs.flatMap Rw.nam ++ rs.filterMap Rw.tgt ++ [("v" : Str)])).length:Int) - 1=((hv rs).length:Int):=by
  obtain ⟨nd,mem⟩:=Fw (rs.flatMap Rw.nam ++ rs.filterMap Rw.tgt ++ [("v" : Str)])
  have nd2:(("v" : Str) :: hv rs).Nodup:=by
    refine List.nodup_cons.mpr ⟨fun z=>?_,?_⟩
    . have:=(List.mem_filter.mp z).2
      simp at this
    . exact ((HJ _).imp fun {a b} z e=>by
        rw [e] at z
        exact List.lt_irrefl _ z:(Ck (rs.flatMap Rw.vars)).Nodup).sublist List.filter_sublist
  have p:(Av (rs.flatMap Rw.nam ++ rs.filterMap Rw.tgt ++ [("v" : Str)])).Perm (("v" : Str) :: hv rs):=by
    refine (List.perm_ext_iff_of_nodup nd nd2).mpr fun x=>?_
    rw [mem,List.mem_cons]
    unfold hv
    rw [List.mem_filter,Fg,List.mem_append,List.mem_append,List.mem_flatMap,List.mem_filterMap,List.mem_flatMap,List.mem_singleton]
    constructor
    . rintro ((⟨r,hr,h⟩ | ⟨r,hr,h⟩) | h)
      . by_cases z:x = "v"
        . exact .inl z
        . exact .inr ⟨⟨r,hr,(FY r x).mpr (.inl h)⟩,by simp [z]⟩
      . by_cases z:x = "v"
        . exact .inl z
        . exact .inr ⟨⟨r,hr,(FY r x).mpr (.inr h)⟩,by simp [z]⟩
      . exact .inl h
    . rintro (h | ⟨⟨r,hr,h⟩,_⟩)
      . exact .inr h
      . rcases (FY r x).mp h with z | z
        . exact .inl (.inl ⟨r,hr,z⟩)
        . exact .inl (.inr ⟨r,hr,z⟩)
  have:=p.length_eq
  rw [List.length_cons] at this
  omega
end K21
set_option maxHeartbeats 1000000
namespace K21
open PySem L2 Mi
section
variable {QD:D->Mh->Prop}
theorem GI {k:Nat} (l:List Int):ClO k (.lst (l.map D.int)):=by unfold ClO; exact SD l
theorem K1 {c:Int} (q:∀ n μ1,Xs μ1 n 500->QD (.ref n) μ1):WP (Dk [.int c,.int 500]) [] QD:=by
  unfold Dk
  refine Hy rfl ?_
  unfold C2
  wtm_at "own qwr"
  refine Qb (by decide) ?_
  wtm_at "own qwr"
  cases e0:decide (((10:Int) ^ (40:Int).toNat) <= c) with
  | true=>
    wtm_at "own qwr"
    refine Cm (n:=500) rfl (by omega) ?_
    refine FW (I:=fun j τ μ'=>∃ (l:List Int) (r:Int) (o4:Option D),l.length=j /\ μ'=[.lst (l.map D.int)] /\ τ=[some (.int c),some (.int 500),some (.ref 0),some (.int r),o4,none,none]) ?_ ?_ ⟨[],c / 7,none,rfl,rfl,rfl⟩
    . rintro j τ μ' hj ⟨l,r,o4,hl,rfl,rfl⟩
      wtm_at "own qwr"
      refine Db (gs:=[]) rfl (by rw [List.length_map,sizeLine_eq]; omega) ?_
      wtm_at "own qwr"
      refine ⟨[],_,rfl,rfl,rfl,?_⟩
      wtm_at "own qwr"
      refine An ⟨l ++ [r % 10000019],r / 10000019,_,by simp [hl],by rw [List.map_append]; rfl,rfl⟩
    . rintro τ μ' ⟨l,r,o4,hl,rfl,rfl⟩
      wtm_at "own qwr"
      refine AN (a:=.int (-1)) (μ':=[.lst (l.map D.int)]) rfl ?_
      refine AN (a:=.ref 1) (μ':=[.lst (l.map D.int),.lst (l.reverse.map D.int)]) ?_ ?_
      . show bnd (A6 (.ref 0)) (fun ds=>DW ds.reverse) [.lst (l.map D.int)]=_
        rw [A4 (show A6 (.ref 0) [.lst (l.map D.int)]=some (l.map D.int,[.lst (l.map D.int)]) from rfl)]
        unfold DW
        rw [A4 (Ek (by rw [List.length_reverse,List.length_map,sizeLine_eq]; omega) _),List.map_reverse]
        rfl
      . wtm_at "own qwr"
        refine ⟨_,_,rfl,Nat.zero_le _,fun j o e=>.inr ?_,by unfold Cl; simp,q 1 _ ⟨l.reverse,rfl,by rw [List.length_reverse]; omega⟩⟩
        match j,e with
        | 0,e=>cases e; exact GI _
        | 1,e=>cases e; exact GI _
  | false=>
    wtm_at "own qwr"
    refine HD (.inr (by decide)) ?_
    wtm_at "own qwr"
    refine HD (.inr (by decide)) ?_
    wtm_at "own qwr"
    refine Cm (n:=500) rfl (by omega) ?_
    refine FW (I:=fun j τ μ'=>∃ (l:List Int) (a b:Int) (o4:Option D),l.length=j /\ μ'=[.lst (l.map D.int)] /\ 0 <= a /\ a < 4000000000 /\ 0 <= b /\ b < 4000000000 /\ τ=[some (.int c),some (.int 500),some (.ref 0),none,o4,some (.int a),some (.int b)]) ?_ ?_ ⟨[],_,_,none,rfl,rfl,Int.emod_nonneg _ (by decide),by have:=Int.emod_lt_of_pos ((c % 2147483647 + 1) * 48271) (show (0:Int) < 2147483647 by decide); omega,Int.emod_nonneg _ (by decide),by have:=Int.emod_lt_of_pos ((c % 1000003 + 1) * 69621) (show (0:Int) < 2147483629 by decide); omega,rfl⟩
    . rintro j τ μ' hj ⟨l,a,b,o4,hl,rfl,ha,ha2,hb,hb2,rfl⟩
      wtm_at "own qwr"
      refine HD (.inl (by omega)) ?_
      wtm_at "own qwr"
      refine HD (.inr (by decide)) ?_
      wtm_at "own qwr"
      refine Db (gs:=[]) rfl (by rw [List.length_map,sizeLine_eq]; omega) ?_
      wtm_at "own qwr"
      refine ⟨[],_,rfl,rfl,rfl,?_⟩
      have m1:=Int.emod_nonneg (a * (a / 1009 + 69621)) (show (2147483647:Int) ≠ 0 by decide)
      have m2:=Int.emod_lt_of_pos (a * (a / 1009 + 69621)) (show (0:Int) < 2147483647 by decide)
      have m3:=Int.emod_nonneg (b * 48271) (show (2147483629:Int) ≠ 0 by decide)
      have m4:=Int.emod_lt_of_pos (b * 48271) (show (0:Int) < 2147483629 by decide)
      refine An ⟨l ++ [_],_,_,_,by simp [hl],by rw [List.map_append]; rfl,?_,?_,m3,by omega,rfl⟩
      . omega
      . omega
    . rintro τ μ' ⟨l,a,b,o4,hl,rfl,ha,ha2,hb,hb2,rfl⟩
      wtm_at "own qwr"
      refine ⟨_,_,rfl,Nat.zero_le _,fun j o e=>.inr ?_,by unfold Cl; simp,q 0 _ ⟨l,rfl,by omega⟩⟩
      match j,e with
      | 0,e=>cases e; exact GI _
end
end K21
set_option maxHeartbeats 1000000
namespace Mi
open PySem L2
section
variable {μ:Mh} {QD:D->Mh->Prop} {QS:Fl × Sl->Mh->Prop} {τ:Sl} {c f:Str} {n:Nat} {l:List (Str × D)} {d:D}
theorem JN (h:μ[n]? = some (.ins c l)):JO c (.ref n) μ=some ((n,l),μ):=by
  unfold JO
  dsimp only
  rw [h]
  exact if_pos rfl
theorem Da (h:μ[n]? = some (.ins c l)) (hl:l.lookup f=some d) (q:QD d μ):WP (Gb c f (.ref n)) μ QD:=by
  refine AN (a:=d) (μ':=μ) ?_ q
  unfold Gb
  rw [A4 (JN h)]
  show (l.lookup f).map _=_
  rw [hl]
  rfl
theorem Nz {mo mv:Sl->M D} (h:WP (mv τ) μ fun y μ1=>WP (mo τ) μ1 fun x μ2=>∃ n l,x=.ref n /\ μ2[n]? = some (.ins c l) /\ l.length < 1000 /\ QS (.next,τ) (μ2.set n (.ins c (DU f y l)))):WP (Dq c f mo mv τ) μ QS:=by
  unfold Dq
  refine AR (AO h fun y μ1 h=>AR (AO h fun x μ2 ⟨n,l,e1,e2,e3,q⟩=>?_))
  subst e1
  refine AR (AN (JN e2) ?_)
  exact ⟨_,_,if_pos e3,q⟩
theorem L4 {φ:List D->M D} {ds:List D} (h:WP (φ (.ref μ.length :: ds)) (μ ++ [.ins c []]) fun d μ'=>d=.non /\ QD (.ref μ.length) μ'):WP (F0 c φ ds) μ QD:=by
  obtain ⟨d,μ',e,rfl,q⟩:=h
  refine AN (a:=.ref μ.length) (μ':=μ') ?_ q
  unfold F0
  rw [e]
end
end Mi
set_option maxHeartbeats 1000000
namespace K21
open PySem L2 Mi
theorem M7:PyData.strOk ("whole" : Str)=true:=by decide +kernel
def beg (M:Mk):D:=if M.kd == ("whole" : Str) then .tup [.tup [.int M.bg,.int (-1),.tup (List.replicate (M.hs.length - 1) (.int (-1)))]] else .tup [.int M.bg,.int (-1),.tup (List.replicate (M.hs.length - 1) .non)]
theorem KO (x:D):∀ k:Nat,(List.replicate k [x]).flatten=List.replicate k x
  | 0=>rfl
  | k + 1=>by rw [List.replicate_succ,List.replicate_succ,List.flatten_cons,KO x k]; rfl
section
variable {μ:Mh} {QD:D->Mh->Prop}
theorem HC {x:D} {k:Nat} (h1:1 <= k) (h2:k <= 1000) (q:QD (.tup (List.replicate k x)) μ):WP (DA (.tup [x]) (.int (k:Int))) μ QD:=by
  refine AN (a:=.tup (List.replicate k x)) (μ':=μ) ?_ q
  obtain ⟨j,rfl⟩:∃ j,k=j + 1:=⟨k - 1,by omega⟩
  have e:DA (.tup [x]) (.int ((j + 1:Nat):Int))=HS (.tup [x]) (.int ((j + 1:Nat):Int)):=rfl
  rw [e]
  show (if [x] ≠ [] /\ [x].length <= 1000 /\ 1 <= ((j + 1:Nat):Int) /\ ((j + 1:Nat):Int) <= 1000 then some (D.tup (List.replicate ((j + 1:Nat):Int).toNat [x]).flatten,μ) else none)=_
  rw [if_pos ⟨by simp,by simp,by omega,by omega⟩,Int.toNat_natCast,KO]
theorem Jd (k j:Nat) (x:D) (h:Cl k x):ClL k (List.replicate j x):=by
  induction j with
  | zero=>unfold List.replicate ClL; trivial
  | succ j ih=>rw [List.replicate_succ]; unfold ClL; exact ⟨h,ih⟩
theorem Nq (k:Nat) (M:Mk):Cl k (beg M):=by
  have a:=Jd k (M.hs.length - 1) (.int (-1)) (by unfold Cl; trivial)
  have b:=Jd k (M.hs.length - 1) .non (by unfold Cl; trivial)
  unfold beg
  split <;> simp [Cl,ClL,a,b]
theorem Hv {M:Mk} (ok:M.Ok) (q:QD (beg M) μ):WP (Bk [M.toD]) μ QD:=by
  have h2:=ok.h2
  have h3:=ok.h3
  unfold Bk
  refine By rfl ?_
  unfold Bi
  have ek:((M.hs.length:Int) - 1)=((M.hs.length - 1:Nat):Int):=by omega
  have bc:=Nq μ.length M
  unfold beg at q bc
  wtm_at "own qwr"
  rw [List.length_map,ek]
  refine Bm (P7 _ ok.kd) M7 ?_
  wtm_at "own qwr"
  cases e:(M.kd == ("whole" : Str)) with
  | true=>
    rw [e] at q bc
    refine Ax ?_
    wtm_at "own qwr"
    refine HC (by omega) (by omega) ?_
    wtm_at "own qwr"
    exact ⟨_,_,[],rfl,by simp,bc,q⟩
  | false=>
    rw [e] at q bc
    refine Ad ?_
    wtm_at "own qwr"
    refine HC (by omega) (by omega) ?_
    wtm_at "own qwr"
    exact ⟨_,_,[],rfl,by simp,bc,q⟩
end
end K21
set_option maxHeartbeats 1000000
namespace K21
open PySem L2 Mi
section
variable {μ:Mh} {QD:D->Mh->Prop} {n:Nat} {l:List (Str × D)} {M:Mk}
def Cz (sz i:Nat):List D:=if i=0 then (List.range sz).map fun (j:Nat)=>D.int (j:Int) else [.int 0]
theorem Oe {sz:Nat} (hs:sz <= 1000) (q:QD (.tup ((List.range sz).map fun (i:Nat)=>D.int (i:Int))) μ):WP (IN D.tup (.int sz)) μ QD:=by
  refine AN (a:=.tup ((List.range sz).map fun (i:Nat)=>D.int (i:Int))) (μ':=μ) ?_ q
  unfold IN
  dsimp only
  rw [if_pos ⟨by omega,by omega⟩,Int.toNat_natCast]
  unfold NE
  first | rfl | (rw [List.map_map]; rfl)
theorem L1 {i:Nat} {z:D} (ok:M.Ok) (h:μ[n]? = some (.ins "Plan" l)) (hl:l.lookup ("making" : Str)=some M.toD) (q:QD (.tup (Cz M.sz i)) μ):WP (DF [.ref n,.int (i:Int),.tup [.int (-1),.non,.int 0,.int 0,z]]) μ QD:=by
  have s3:=ok.sz3
  have pcl:∀ k,ClL k (Cz M.sz i):=fun k=>by
    unfold Cz
    split
    . generalize List.range M.sz=xs
      induction xs with
      | nil=>unfold List.map ClL; trivial
      | cons x xs ih=>unfold List.map ClL; exact ⟨by unfold Cl; trivial,ih⟩
    . unfold ClL Cl ClL; exact ⟨trivial,trivial⟩
  unfold DF
  refine By rfl ?_
  unfold Cf
  wtm_at "own qwr"
  refine AN (a:=.bl true) (μ':=μ) rfl ?_
  wtm_at "own qwr"
  (with_reducible apply Qd)
  wtm_at "own qwr"
  refine ⟨fun e=>?_,fun e=>?_⟩
  . have i0:i=0:=by have:=eq_of_beq e; omega
    subst i0
    wtm_at "own qwr"
    refine Da h hl ?_
    wtm_at "own qwr"
    refine Oe (by omega) ?_
    exact ⟨_,_,[],rfl,by simp,by unfold Cl; exact pcl _,q⟩
  . have i0:i ≠ 0:=fun z=>by subst z; cases e
    have ep:Cz M.sz i=[.int 0]:=by unfold Cz; rw [if_neg i0]
    rw [ep] at q pcl
    wtm_at "own qwr"
    exact ⟨_,_,[],rfl,by simp,by unfold Cl; exact pcl _,q⟩
end
end K21
set_option maxHeartbeats 1000000
namespace Mi
open PySem L2
theorem MA {μ:Mh} {N ps:Nat} {mb:Sl->M (Fl × Sl)} {ds:List D} {QD:D->Mh->Prop} (hl:ds.length=ps) (h:WP (mb (Ba N ds)) μ fun r μ2=>∃ τ2,r=(.next,τ2) /\ μ.length <= μ2.length /\ (∀ (j:Nat) (o:MO),μ2[j]? = some o->μ[j]? = some o ∨ ClO μ2.length o) /\ QD .non μ2):WP (Az .all N ps mb ds) μ QD:=by
  obtain ⟨r,μ2,e,τ2,rfl,le,old,q⟩:=h
  exact AN (C5 (hw:=.all) e hl (.inl rfl) ⟨⟨[],by show μ2=μ2 ++ []; simp⟩,le,old,.inl ⟨rfl,by show Cl _ D.non; unfold Cl; trivial⟩⟩) q
section
variable {μ gs:Mh} {QD:D->Mh->Prop} {QS:Fl × Sl->Mh->Prop} {τ:Sl} {c f:Str} {i:Nat} {l:List (Str × D)} {d:D}
theorem Es (o:MO):(μ ++ o :: gs)[μ.length]? = some o:=by
  rw [List.getElem?_append_right (Nat.le_refl _),Nat.sub_self]
  rfl
theorem OX (o o':MO):(μ ++ o :: gs).set μ.length o'=μ ++ o' :: gs:=by
  rw [List.set_append_right _ _ (Nat.le_refl _),Nat.sub_self]
  rfl
theorem Cr {mv:Sl->M D} (ht:τ[i]? = some (some (.ref μ.length))) (hl:l.length < 1000) (h:WP (mv τ) (μ ++ .ins c l :: gs) fun y μ1=>∃ gs',μ1=μ ++ .ins c l :: gs' /\ QS (.next,τ) (μ ++ .ins c (DU f y l) :: gs')):WP (Dq c f (AC i) mv τ) (μ ++ .ins c l :: gs) QS:=by
  refine Nz (AO h fun y μ1 ⟨gs',e,q⟩=>?_)
  subst e
  refine G9 ht ⟨μ.length,l,rfl,Es _,hl,?_⟩
  rw [OX]
  exact q
theorem HA (q:QD (.ref μ.length) (μ ++ [.dK []])):WP (ND τ) μ QD:=⟨_,_,rfl,q⟩
theorem L6 {kvs:List (Key × D)} {mi mv:Sl->M D} {x:Str} {v:D} (ht:τ[i]? = some (some (.ref μ.length))) (hf:l.lookup f=some (.ref (μ.length + 1))) (hk:kvs.length < 1000) (hv:WP (mv τ) (μ ++ .ins c l :: .dK kvs :: gs) fun y μ1=>y=v /\ μ1=μ ++ .ins c l :: .dK kvs :: gs) (hi:WP (mi τ) (μ ++ .ins c l :: .dK kvs :: gs) fun y μ1=>y=.str x /\ μ1=μ ++ .ins c l :: .dK kvs :: gs) (q:∀ ky,NN (.str x)=some ky->QS (.next,τ) (μ ++ .ins c l :: .dK (GY kvs ky v) :: gs)) (ks:(NN (.str x)).isSome):WP (KN (mUn (Gb c f) (AC i)) mi mv τ) (μ ++ .ins c l :: .dK kvs :: gs) QS:=by
  unfold KN
  refine AR (AO hv fun y μ1 ⟨e1,e2⟩=>?_)
  subst e1 e2
  refine AR (Pw (G9 ht (Da (Es _) hf ?_)))
  refine AR (AO hi fun y μ1 ⟨e1,e2⟩=>?_)
  subst e1 e2
  have ha:Hj (.ref (μ.length + 1)) (μ ++ MO.ins c l :: .dK kvs :: gs)=some ((μ.length + 1,kvs),μ ++ MO.ins c l :: .dK kvs :: gs):=by
    unfold Hj
    dsimp only
    rw [List.getElem?_append_right (by omega),show μ.length + 1 - μ.length=1 by omega]
    rfl
  refine AR (AN ha ?_)
  obtain ⟨ky,hky⟩:=Option.isSome_iff_exists.mp ks
  refine ⟨_,_,?_,q ky hky⟩
  rw [hky]
  dsimp only
  rw [if_pos (by rw [sizeLine_eq]; omega)]
  rw [List.set_append_right _ _ (by omega),show μ.length + 1 - μ.length=1 by omega]
  rfl
end
end Mi
namespace K21
open PySem L2 Mi
theorem Eo {α:Type} {f:α->D}:∀ (k:Nat) (xs:List α),DN k (xs.map f)=(xs.zipIdx k).map fun p=>D.tup [.int (p.2:Int),f p.1]
  | _,[]=>rfl
  | k,x :: xs=>by
    rw [List.map_cons]
    unfold DN
    rw [Eo (k + 1) xs,List.zipIdx_cons,List.map_cons]
theorem Hu {τ:Sl} {μ:Mh} {ra:Sl->M (List D)} {QL:List D->Mh->Prop} (h:WP (ra τ) μ fun as μ1=>∃ ds,as=[.tup ds] /\ QL (DN 0 ds) μ1):WP (F3 ra τ) μ QL:=by
  unfold F3
  refine AR (AO h fun as μ1 ⟨ds,e,q⟩=>?_)
  subst e
  exact AR (AN (a:=ds) (μ':=μ1) rfl (A3 q))
abbrev pf (M:Mk) (n:Nat):List (Str × D):=[("making",M.toD),("names",.lst (M.hs.map fun h=>D.str h.nm)),("variables",.lst (M.hs.map fun h=>D.lst ((hv h.rs).map D.str))),("places",.ref (n + 1)),("ways",.ref (n + 2)),("claims",.ref (n + 3))]
theorem Mq (l:List (Key × D)) (k:Key) (d:D):(GY l k d).length <= l.length + 1:=by
  unfold GY
  split <;> simp
theorem Mr {l:List (Key × D)} {k:Key} {i:Int} (h:∀ kv ∈ l,∃ j:Int,kv.2=.int j):∀ kv ∈ GY l k (.int i),∃ j:Int,kv.2=.int j:=by
  unfold GY
  split
  . intro kv hkv
    obtain ⟨z,hz,rfl⟩:=List.mem_map.mp hkv
    split
    . exact ⟨i,rfl⟩
    . exact h z hz
  . intro kv hkv
    rcases List.mem_append.mp hkv with z | z
    . exact h kv z
    . rw [List.mem_singleton.mp z]; exact ⟨i,rfl⟩
theorem Hb {k:Nat}:∀ {l:List (Key × D)},(∀ kv ∈ l,∃ j:Int,kv.2=.int j)->ClL k (l.map (·.2))
  | [],_=>by unfold List.map ClL; trivial
  | kv :: l,h=>by
    obtain ⟨j,e⟩:=h kv List.mem_cons_self
    unfold List.map ClL
    exact ⟨by rw [e]; unfold Cl; trivial,Hb fun x hx=>h x (List.mem_cons_of_mem _ hx)⟩
theorem Jm (k:Nat):∀ hs:List Hd,ClL k (hs.map fun h=>D.str h.nm)
  | []=>by unfold List.map ClL; trivial
  | h :: hs=>by unfold List.map ClL; exact ⟨by unfold Cl; trivial,Jm k hs⟩
theorem JT (k:Nat):∀ hs:List Hd,ClL k (hs.map fun h=>D.lst ((hv h.rs).map D.str))
  | []=>by unfold List.map ClL; trivial
  | h :: hs=>by unfold List.map ClL; exact ⟨by unfold Cl; exact De _ _,JT k hs⟩
section
variable {μ:Mh} {QD:D->Mh->Prop} {M:Mk}
theorem J9 (ok:M.Ok) (q:∀ kvs,(∀ kv ∈ kvs,∃ i:Int,kv.2=.int i)->QD (.ref μ.length) (μ ++ [.ins "Plan" (pf M μ.length),.dK kvs,.dK [],.dK []])):WP (F0 "Plan" BK [M.toD]) μ QD:=by
  have h3:=ok.h3
  have b3:=ok.b3
  refine L4 ?_
  unfold BK
  refine MA rfl ?_
  unfold BJ
  (with_reducible apply L0)
  refine Cr (i:=0) (gs:=[]) rfl (Nat.le_of_ble_eq_true rfl) ?_
  wtm_at "own qwr"
  refine ⟨[],rfl,?_⟩
  wtm_at "own qwr"
  refine Cr (i:=0) (gs:=[]) rfl (Nat.le_of_ble_eq_true rfl) ?_
  wtm_at "own qwr"
  refine ⟨by rw [List.length_map,sizeLine_eq]; omega,?_⟩
  refine BO _ (fun _=>true) (fun h=>D.str h.nm) (fun h hh=>?_) ?_
  . wtm_at "own qwr"
    refine ⟨rfl,?_⟩
    wtm_at "own qwr"
    refine ⟨rfl,rfl,fun _=>?_⟩
    wtm_at "own qwr"
    exact ⟨rfl,rfl⟩
  rw [List.filter_eq_self.mpr fun _ _=>rfl]
  refine Bl (by rw [List.length_map,sizeLine_eq]; omega) ⟨[],rfl,?_⟩
  wtm_at "own qwr"
  refine Cr (i:=0) (gs:=[]) rfl (Nat.le_of_ble_eq_true rfl) ?_
  wtm_at "own qwr"
  refine ⟨by rw [List.length_map,sizeLine_eq]; omega,?_⟩
  refine BO _ (fun _=>true) (fun h=>D.lst ((hv h.rs).map D.str)) (fun h hh=>?_) ?_
  . wtm_at "own qwr"
    refine ⟨rfl,?_⟩
    wtm_at "own qwr"
    refine ⟨rfl,rfl,fun _=>?_⟩
    wtm_at "own qwr"
    refine Lz (ok.hs h hh).rs (ok.hs h hh).few ?_
    exact ⟨rfl,rfl⟩
  rw [List.filter_eq_self.mpr fun _ _=>rfl]
  refine Bl (by rw [List.length_map,sizeLine_eq]; omega) ⟨[],rfl,?_⟩
  wtm_at "own qwr"
  refine Cr (i:=0) (gs:=[]) rfl (Nat.le_of_ble_eq_true rfl) ?_
  refine HA ⟨[.dK []],by simp,?_⟩
  wtm_at "own qwr"
  (with_reducible apply Hu)
  wtm_at "own qwr"
  refine ⟨_,rfl,?_⟩
  rw [Eo]
  refine C6 (I:=fun rest τ μ'=>∃ (b:List (Bx × Nat)) (kvs:List (Key × D)) (o2 o3:Option D),(∀ p ∈ b,p.1.Ok) /\ rest=b.map (fun p=>D.tup [.int (p.2:Int),p.1.toD]) /\ kvs.length + b.length <= 3 /\ (∀ kv ∈ kvs,∃ i:Int,kv.2=.int i) /\ μ'=μ ++ .ins "Plan" [("making",M.toD),("names",.lst (M.hs.map fun h=>D.str h.nm)),("variables",.lst (M.hs.map fun h=>D.lst ((hv h.rs).map D.str))),("places",.ref (μ.length + 1))] :: .dK kvs :: [] /\ τ=[some (.ref μ.length),some M.toD,o2,o3]) ?_ ?_ ⟨M.bs.zipIdx 0,[],none,none,fun p hp=>ok.bs _ (List.fst_mem_of_mem_zipIdx hp),rfl,by simp; omega,(fun kv h=>nomatch h),by rw [List.length_append]; rfl,rfl⟩
  . rintro x xs τ μ' ⟨b,kvs,o2,o3,hb,hr,hl,hi,rfl,rfl⟩
    cases b with
    | nil=>cases hr
    | cons p b=>
      rw [List.map_cons] at hr
      obtain ⟨e3,e4⟩:=List.cons.inj hr
      subst e3
      have ob:=hb p List.mem_cons_self
      (with_reducible apply Ct)
      refine L6 (i:=0) (v:=.int (p.2:Int)) (x:=p.1.nm) rfl rfl (by omega) ?_ ?_ (fun ky _=>?_) rfl
      . wtm_at "own qwr"
        exact ⟨rfl,rfl⟩
      . wtm_at "own qwr"
        exact ⟨rfl,rfl⟩
      . have:=Mq kvs ky (.int (p.2:Int))
        rw [List.length_cons] at hl
        exact An ⟨b,_,_,_,fun z hz=>hb z (List.mem_cons_of_mem _ hz),e4,by omega,Mr hi,rfl,rfl⟩
  . rintro τ μ' ⟨b,kvs,o2,o3,hb,hr,hl,hi,rfl,rfl⟩
    wtm_at "own qwr"
    refine Cr (i:=0) (gs:=[.dK kvs]) rfl (Nat.le_of_ble_eq_true rfl) ?_
    refine HA ⟨[.dK kvs,.dK []],by simp,?_⟩
    wtm_at "own qwr"
    refine Cr (i:=0) (gs:=[.dK kvs,.dK []]) rfl (Nat.le_of_ble_eq_true rfl) ?_
    refine HA ⟨[.dK kvs,.dK [],.dK []],by simp,?_⟩
    have e:DU "claims" (.ref (μ ++ MO.ins "Plan" (DU "ways" (.ref (μ ++ MO.ins "Plan" [("making",M.toD),("names",.lst (M.hs.map fun h=>D.str h.nm)),("variables",.lst (M.hs.map fun h=>D.lst ((hv h.rs).map D.str))),("places",.ref (μ.length + 1))] :: [.dK kvs]).length) [("making",M.toD),("names",.lst (M.hs.map fun h=>D.str h.nm)),("variables",.lst (M.hs.map fun h=>D.lst ((hv h.rs).map D.str))),("places",.ref (μ.length + 1))]) :: [.dK kvs,.dK []]).length) (DU "ways" (.ref (μ ++ MO.ins "Plan" [("making",M.toD),("names",.lst (M.hs.map fun h=>D.str h.nm)),("variables",.lst (M.hs.map fun h=>D.lst ((hv h.rs).map D.str))),("places",.ref (μ.length + 1))] :: [.dK kvs]).length) [("making",M.toD),("names",.lst (M.hs.map fun h=>D.str h.nm)),("variables",.lst (M.hs.map fun h=>D.lst ((hv h.rs).map D.str))),("places",.ref (μ.length + 1))])=pf M μ.length:=by
      rw [List.length_append,List.length_append]
      rfl
    rw [e]
    refine ⟨_,rfl,by simp,fun j o ej=>?_,rfl,q kvs hi⟩
    by_cases hj:j < μ.length
    . left
      rw [List.getElem?_append_left hj] at ej ⊢
      exact ej
    . right
      rw [List.getElem?_append_right (by omega)] at ej
      have ln:(μ ++ [MO.ins "Plan" (pf M μ.length),.dK kvs,.dK [],.dK []]).length=μ.length + 4:=by simp
      rw [ln]
      match j - μ.length,ej with
      | 0,ej=>
        cases ej
        have a:=NF (μ.length + 4) M
        have b:=Jm (μ.length + 4) M.hs
        have c:=JT (μ.length + 4) M.hs
        show ClL _ [M.toD,.lst (M.hs.map fun h=>D.str h.nm),.lst (M.hs.map fun h=>D.lst ((hv h.rs).map D.str)),.ref (μ.length + 1),.ref (μ.length + 2),.ref (μ.length + 3)]
        refine ⟨a,?_,?_,?_,?_,?_,?_⟩
        . unfold Cl; exact b
        . unfold Cl; exact c
        . unfold Cl; omega
        . unfold Cl; omega
        . unfold Cl; omega
        . unfold ClL; trivial
      | 1,ej=>cases ej; unfold ClO; exact Hb hi
      | 2,ej=>cases ej; unfold ClO List.map ClL; trivial
      | 3,ej=>cases ej; unfold ClO List.map ClL; trivial
end
end K21
set_option maxHeartbeats 1000000
namespace K21
open PySem L2 Mi Xt
abbrev GZ (k:Nat):D:=.tup [.int (-1),.non,.int 0,.int 0,.tup (List.replicate k (.int 0))]
abbrev stD (M:Mk):D:=.tup [.tup (M.hs.map fun h=>GZ (hv h.rs).length),.tup (M.bs.map fun b=>D.tup [.int b.bg,.int (-1)]),beg M]
abbrev pr (sz:Nat) (p:Hd × Nat):List (Str × Nat × D):=(Cz sz p.2).map fun x=>(p.1.nm,p.2,x)
def prs (M:Mk):List (Str × Nat × D):=(M.hs.zipIdx 0).flatMap (pr M.sz)
abbrev mvD (t:Str × Nat × D):D:=.tup [.int (t.2.1:Int),t.2.2]
abbrev spD (t:Str × Nat × D):D:=.tup [.str t.1,t.2.2]
theorem Ei {sz:Nat} (h:sz <= 3) (i:Nat):(Cz sz i).length <= 3:=by
  unfold Cz
  split
  . rw [List.length_map,List.length_range]; exact h
  . simp
theorem FN {sz:Nat} (h:sz <= 3):∀ a:List (Hd × Nat),(a.flatMap (pr sz)).length <= 3 * a.length
  | []=>by simp
  | p :: a=>by
    have:=FN h a
    have:=Ei h p.2
    rw [List.flatMap_cons,List.length_append,List.length_map,List.length_cons]
    omega
theorem LS {sz i:Nat}:∀ x ∈ Cz sz i,∃ j:Int,x=.int j:=by
  unfold Cz
  split
  . intro x hx
    obtain ⟨j,_,rfl⟩:=List.mem_map.mp hx
    exact ⟨_,rfl⟩
  . intro x hx
    rw [List.mem_singleton.mp hx]
    exact ⟨_,rfl⟩
theorem EI {M:Mk} {t:Str × Nat × D} (h:t ∈ prs M):∃ hd:Hd,M.hs[t.2.1]? = some hd /\ hd.nm=t.1 /\ hd ∈ M.hs /\ ∃ j:Int,t.2.2=.int j:=by
  unfold prs at h
  obtain ⟨p,hp,ht⟩:=List.mem_flatMap.mp h
  obtain ⟨x,hx,rfl⟩:=List.mem_map.mp ht
  have e:=List.mk_mem_zipIdx_iff_getElem?.mp (show (p.1,p.2) ∈ M.hs.zipIdx from hp)
  exact ⟨p.1,e,rfl,List.mem_of_getElem? e,LS x hx⟩
theorem TX (k:Nat) {M:Mk}:ClL k ((prs M).map mvD):=by
  have:∀ l:List (Str × Nat × D),(∀ t ∈ l,∃ j:Int,t.2.2=.int j)->ClL k (l.map mvD):=by
    intro l hl
    induction l with
    | nil=>unfold List.map ClL; trivial
    | cons t l ih=>
      obtain ⟨j,e⟩:=hl t List.mem_cons_self
      unfold List.map ClL
      refine ⟨?_,ih fun x hx=>hl x (List.mem_cons_of_mem _ hx)⟩
      simp [mvD,spD,Cl,ClL,e]
  exact this _ fun t ht=>let ⟨_,_,_,_,h⟩:=EI ht; h
theorem Si (k:Nat) {M:Mk}:ClL k ((prs M).map spD):=by
  have:∀ l:List (Str × Nat × D),(∀ t ∈ l,∃ j:Int,t.2.2=.int j)->ClL k (l.map spD):=by
    intro l hl
    induction l with
    | nil=>unfold List.map ClL; trivial
    | cons t l ih=>
      obtain ⟨j,e⟩:=hl t List.mem_cons_self
      unfold List.map ClL
      refine ⟨?_,ih fun x hx=>hl x (List.mem_cons_of_mem _ hx)⟩
      simp [mvD,spD,Cl,ClL,e]
  exact this _ fun t ht=>let ⟨_,_,_,_,h⟩:=EI ht; h
theorem NW {h:Hd} (ok:h.Ok):(hv h.rs).length <= 20:=by
  have a:=FM ok.rs
  have b:=ok.few
  have c:=Fh (h.rs.flatMap Rw.vars)
  have d:=List.length_filter_le (fun x=>!(x == ("v" : Str))) (Ck (h.rs.flatMap Rw.vars))
  unfold hv
  omega
section
variable {μ:Mh} {QD:D->Mh->Prop} {M:Mk} {n:Nat}
theorem KA {x:D} {k:Nat} (h2:k <= 1000) (q:QD (.tup (List.replicate k x)) μ):WP (DA (.tup [x]) (.int (k:Int))) μ QD:=by
  cases k with
  | zero=>exact AN (a:=.tup []) (μ':=μ) rfl q
  | succ k=>exact HC (by omega) h2 q
theorem Ip (k:Nat):∀ hs:List Hd,ClL k (hs.map fun h=>GZ (hv h.rs).length)
  | []=>by unfold List.map ClL; trivial
  | h :: hs=>by
    have:=Jd k (hv h.rs).length (.int 0) (by unfold Cl; trivial)
    unfold List.map ClL
    exact ⟨by simp [Cl,ClL,this],Ip k hs⟩
theorem Nr (k:Nat):∀ bs:List Bx,ClL k (bs.map fun b=>D.tup [.int b.bg,.int (-1)])
  | []=>by unfold List.map ClL; trivial
  | b :: bs=>by unfold List.map ClL; exact ⟨by simp [Cl,ClL],Nr k bs⟩
theorem Py (k:Nat) (M:Mk):Cl k (stD M):=by
  have a:=Ip k M.hs
  have b:=Nr k M.bs
  have c:=Nq k M
  show ClL k _
  exact ⟨by unfold Cl; exact a,by unfold Cl; exact b,c,by unfold ClL; trivial⟩
theorem K2 (ok:M.Ok) (h:μ[n]? = some (.ins "Plan" (pf M n))) (q:QD (stD M) μ):WP (CG [.ref n]) μ QD:=by
  have h3:=ok.h3
  have b3:=ok.b3
  unfold CG
  refine By rfl ?_
  unfold Bg
  wtm_at "own qwr"
  refine Da h rfl ?_
  wtm_at "own qwr"
  refine ⟨by rw [List.length_map,sizeLine_eq]; omega,?_⟩
  refine BO _ (fun _=>true) (fun h=>GZ (hv h.rs).length) (fun h hh=>?_) ?_
  . have:=NW (ok.hs h hh)
    wtm_at "own qwr"
    refine ⟨rfl,?_⟩
    wtm_at "own qwr"
    refine ⟨rfl,rfl,fun _=>?_⟩
    wtm_at "own qwr"
    refine FH ?_
    rw [List.length_map]
    refine KA (by omega) ?_
    wtm_at "own qwr"
    exact ⟨rfl,rfl⟩
  rw [List.filter_eq_self.mpr fun _ _=>rfl]
  refine Bl (by rw [List.length_map,sizeLine_eq]; omega) ?_
  wtm_at "own qwr"
  refine Da h rfl ?_
  wtm_at "own qwr"
  refine ⟨by rw [List.length_map,sizeLine_eq]; omega,?_⟩
  refine BO _ (fun _=>true) (fun b=>D.tup [.int b.bg,.int (-1)]) (fun b hb=>?_) ?_
  . wtm_at "own qwr"
    refine ⟨rfl,?_⟩
    wtm_at "own qwr"
    refine ⟨rfl,rfl,fun _=>?_⟩
    wtm_at "own qwr"
    exact ⟨rfl,rfl⟩
  rw [List.filter_eq_self.mpr fun _ _=>rfl]
  refine Bl (by rw [List.length_map,sizeLine_eq]; omega) ?_
  wtm_at "own qwr"
  refine Da h rfl ?_
  wtm_at "own qwr"
  refine Hv ok ?_
  wtm_at "own qwr"
  exact ⟨_,_,[],rfl,by simp,Py _ M,q⟩
theorem Hr (ok:M.Ok) (q:QD (stD M) μ):WP (CH [M.toD]) μ QD:=by
  unfold CH
  refine By rfl ?_
  unfold Bh
  wtm_at "own qwr"
  refine J9 ok fun kvs hk=>?_
  wtm_at "own qwr"
  refine K2 ok (Es _) ?_
  wtm_at "own qwr"
  exact ⟨_,_,_,rfl,rfl,Py _ M,q⟩
theorem L3 (ok:M.Ok) (h:μ[n]? = some (.ins "Plan" (pf M n))) (q:QD (.lst ((prs M).map mvD)) μ):WP (DG [.ref n,stD M]) μ QD:=by
  have h3:=ok.h3
  have s3:=ok.sz3
  have hh:∀ gs,(μ ++ gs)[n]? = some (.ins "Plan" (pf M n)):=fun gs=>by
    rw [List.getElem?_append_left (List.getElem?_eq_some_iff.mp h).1]
    exact h
  unfold DG
  refine Cu rfl ?_
  unfold Cg
  wtm_at "own qwr"
  (with_reducible apply Hu)
  wtm_at "own qwr"
  refine ⟨_,rfl,?_⟩
  rw [Eo]
  refine C6 (I:=fun rest τ μ'=>∃ (a b:List (Hd × Nat)) (o3 o4 o5:Option D),a ++ b=M.hs.zipIdx 0 /\ rest=b.map (fun p=>D.tup [.int (p.2:Int),GZ (hv p.1.rs).length]) /\ μ'=μ ++ [.lst ((a.flatMap (pr M.sz)).map mvD)] /\ τ=[some (.ref n),some (stD M),some (.ref μ.length),o3,o4,o5]) ?_ ?_ ⟨[],M.hs.zipIdx 0,none,none,none,rfl,rfl,rfl,rfl⟩
  . rintro x xs τ μ' ⟨a,b,o3,o4,o5,hab,hr,rfl,rfl⟩
    cases b with
    | nil=>cases hr
    | cons p b=>
      rw [List.map_cons] at hr
      obtain ⟨e3,e4⟩:=List.cons.inj hr
      subst e3
      have al:a.length <= 3:=by
        have:=congrArg List.length hab
        rw [List.length_append,List.length_zipIdx] at this
        omega
      have pl:=FN s3 a
      have kl:=Ei s3 p.2
      (with_reducible apply Ct)
      wtm_at "own qwr"
      refine L1 ok (hh _) rfl ?_
      wtm_at "own qwr"
      refine C6 (I:=fun rest τ μ'=>∃ (u v:List D) (o5:Option D),u ++ v=Cz M.sz p.2 /\ rest=v /\ μ'=μ ++ [.lst ((a.flatMap (pr M.sz) ++ u.map fun x=>(p.1.nm,p.2,x)).map mvD)] /\ τ=[some (.ref n),some (stD M),some (.ref μ.length),some (.int (p.2:Int)),some (GZ (hv p.1.rs).length),o5]) ?_ ?_ ⟨[],_,o5,rfl,rfl,by simp,rfl⟩
      . rintro y ys τ μ' ⟨u,v,o5,huv,rfl,rfl,rfl⟩
        have ul:u.length <= 3:=by
          have:=congrArg List.length huv
          rw [List.length_append] at this
          omega
        wtm_at "own qwr"
        refine Db rfl (by rw [List.length_map,List.length_append,List.length_map,sizeLine_eq]; omega) ?_
        wtm_at "own qwr"
        refine ⟨μ,_,rfl,rfl,rfl,An ⟨u ++ [y],ys,_,by rw [← huv]; simp,rfl,?_,rfl⟩⟩
        simp
      . rintro τ μ' ⟨u,v,o5,huv,rfl,rfl,rfl⟩
        rw [List.append_nil] at huv
        subst huv
        refine An ⟨a ++ [p],b,_,_,_,by rw [← hab]; simp,e4,?_,rfl⟩
        rw [List.flatMap_append,List.flatMap_cons,List.flatMap_nil,List.append_nil]
  . rintro τ μ' ⟨a,b,o3,o4,o5,hab,hr,rfl,rfl⟩
    cases b with
    | cons p b=>cases hr
    | nil=>
      rw [List.append_nil] at hab
      subst hab
      wtm_at "own qwr"
      exact ⟨_,_,_,rfl,TX _,q,.inr ⟨μ.length,rfl,Nat.le_refl _,by rw [List.getElem?_append_right (Nat.le_refl _),Nat.sub_self]; rfl⟩⟩
theorem O4 (ok:M.Ok):(prs M).length <= 9:=by
  have a:=FN ok.sz3 (M.hs.zipIdx 0)
  have b:=ok.h3
  rw [List.length_zipIdx] at a
  unfold prs
  omega
theorem Ho (ok:M.Ok) (q:∀ kvs,QD (.ref (μ.length + 4)) (μ ++ [.ins "Plan" (pf M μ.length),.dK kvs,.dK [],.dK [],.lst ((prs M).map spD)])):WP (DE [M.toD,stD M]) μ QD:=by
  have pl:=O4 ok
  unfold DE
  refine Hy rfl ?_
  unfold Ce
  wtm_at "own qwr"
  refine J9 ok fun kvs hk=>?_
  wtm_at "own qwr"
  refine L3 ok (Es _) ?_
  wtm_at "own qwr"
  refine ⟨by rw [List.length_map,sizeLine_eq]; omega,?_⟩
  refine BO _ (fun _=>true) spD (fun t ht=>?_) ?_
  . obtain ⟨hd,e1,e2,_⟩:=EI ht
    (with_reducible apply Ct)
    refine ⟨rfl,?_⟩
    wtm_at "own qwr"
    refine ⟨rfl,rfl,fun _=>?_⟩
    wtm_at "own qwr"
    refine Da (Es _) rfl ?_
    wtm_at "own qwr"
    refine CV (d:=.str t.1) ?_ ?_
    . refine Hh (by rw [List.getElem?_map,e1,← e2]; rfl)
    wtm_at "own qwr"
    exact ⟨rfl,rfl⟩
  rw [List.filter_eq_self.mpr fun _ _=>rfl]
  refine HB (by rw [List.length_map,sizeLine_eq]; omega) ?_
  have ln:(μ ++ [MO.ins "Plan" (pf M μ.length),.dK kvs,.dK [],.dK []]).length=μ.length + 4:=by simp
  rw [ln,List.append_assoc]
  refine ⟨_,_,rfl,by simp,fun j o ej=>?_,by unfold Cl; simp,q kvs⟩
  by_cases hj:j < μ.length
  . left
    rw [List.getElem?_append_left hj] at ej
    exact ej
  . right
    rw [List.getElem?_append_right (by omega)] at ej
    have ln:(μ ++ ([MO.ins "Plan" (pf M μ.length),.dK kvs,.dK [],.dK []] ++ [MO.lst ((prs M).map spD)])).length=μ.length + 5:=by simp
    rw [ln]
    match j - μ.length,ej with
    | 0,ej=>
      cases ej
      have a:=NF (μ.length + 5) M
      have b:=Jm (μ.length + 5) M.hs
      have c:=JT (μ.length + 5) M.hs
      show ClL _ [M.toD,.lst (M.hs.map fun h=>D.str h.nm),.lst (M.hs.map fun h=>D.lst ((hv h.rs).map D.str)),.ref (μ.length + 1),.ref (μ.length + 2),.ref (μ.length + 3)]
      refine ⟨a,?_,?_,?_,?_,?_,?_⟩
      . unfold Cl; exact b
      . unfold Cl; exact c
      . unfold Cl; omega
      . unfold Cl; omega
      . unfold Cl; omega
      . unfold ClL; trivial
    | 1,ej=>cases ej; unfold ClO; exact Hb hk
    | 2,ej=>cases ej; unfold ClO List.map ClL; trivial
    | 3,ej=>cases ej; unfold ClO List.map ClL; trivial
    | 4,ej=>cases ej; unfold ClO; exact Si _
end
end K21
set_option maxHeartbeats 1000000
namespace K21
open PySem L2 Mi Xt
section
variable {μ:Mh} {QD:D->Mh->Prop} {M:Mk} {n:Nat}
theorem OF {sc:List Int} (q:∀ x:Int,QD (.int x) μ):WP (DH [.scr sc,.int 0]) μ QD:=by
  unfold DH
  refine By rfl ?_
  unfold Ch
  wtm_at "own qwr"
  refine AN (a:=.int (sc.length:Int)) (μ':=μ) ?_ ?_
  . show some (D.int (((sc.map D.int).length:Nat):Int),μ)=_
    rw [List.length_map]
  wtm_at "own qwr"
  cases sc with
  | nil=>
    rw [show decide ((0:Int) < ((([]:List Int).length:Nat):Int))=false from rfl]
    refine Ad ?_
    wtm_at "own qwr"
    exact ⟨_,_,[],rfl,by simp,by unfold Cl; trivial,q 0⟩
  | cons c sc=>
    rw [decide_eq_true (show (0:Int) < (((c :: sc).length:Nat):Int) by rw [List.length_cons]; omega)]
    refine Ax ?_
    wtm_at "own qwr"
    refine AN (a:=.int c) (μ':=μ) ?_ ?_
    . show bnd (B6 (.scr (c :: sc))) (fun ds=>ixD ds 0) μ=_
      rw [A4 (show B6 (.scr (c :: sc)) μ=some ((c :: sc).map D.int,μ) from rfl)]
      unfold ixD
      rw [show atI ((c :: sc).map D.int) 0=some (.int c) from Hh (j:=0) rfl]
      rfl
    exact ⟨_,_,[],rfl,by simp,by unfold Cl; trivial,q c⟩
theorem EY {d:D} (hp:Pz d) (hd:dpt d <= 64) (q:QD (.bl false) μ):WP (EF d d) μ QD:=by
  refine JR hp hp hd hd fun e he=>?_
  have:e=true:=he.mpr rfl
  subst this
  exact q
theorem FT {ds:List D} (h:μ[n]? = some (.lst ds)) (hp:PzL ds) (hd:Br ds <= 60) (q:QD (.bl false) μ):WP (EF (.ref n) (.lst ds)) μ QD:=by
  obtain ⟨a,μ',e,z⟩:=EY (d:=.lst ds) (μ:=μ) (QD:=QD) (by unfold Pz; exact hp) (by unfold dpt; omega) q
  exact ⟨a,μ',(Ix h).trans e,z⟩
theorem Qi {τ:Sl} {i:Nat} {ds:List D} (ht:τ[i]? = some (some (.ref n))) (h:μ[n]? = some (.lst ds)) (q:QD .non (μ.set n (.lst []))):WP (AS Pm (AC i) τ) μ QD:=by
  refine AN (a:=.non) (μ':=μ.set n (.lst [])) ?_ q
  unfold AS
  rw [A4 (DI ht)]
  have hg:CO (.ref n) μ=some ((),μ):=by
    unfold CO
    rw [A4 (show A6 (.ref n) μ=some (ds,μ) from by show (match μ[n]? with | some (.lst ds)=>some (ds,μ) | _=>none)=_; rw [h])]
    rfl
  rw [A4 hg]
  show D9 n (fun _=>some (.non,[])) μ=_
  unfold D9
  rw [h]
  rfl
theorem K5 {ss:List Str} (h:ss.length <= 1000) (q:QD (.int (Av ss).length) μ):WP (FQ (.lst (ss.map D.str))) μ QD:=by
  refine AN (a:=.int (Av ss).length) (μ':=μ) ?_ q
  unfold FQ
  rw [A4 (show A6 (.lst (ss.map D.str)) μ=some (ss.map D.str,μ) from rfl)]
  show (match DR (ss.map D.str) with | some ss=>if ss.length + 2 < scanBound then some (D.int (Av ss).length,μ) else none | none=>none)=_
  rw [Fd]
  dsimp only
  rw [if_pos (by unfold scanBound; omega)]
theorem Q5 (k:Nat):PzL (List.replicate k (D.int 0)):=by
  induction k with
  | zero=>unfold List.replicate PzL; trivial
  | succ k ih=>rw [List.replicate_succ]; unfold PzL; exact ⟨by unfold Pz; trivial,ih⟩
theorem KS (k:Nat) (d:D) (hd:Pz d):PzL (List.replicate k d):=by
  induction k with
  | zero=>unfold List.replicate PzL; trivial
  | succ k ih=>rw [List.replicate_succ]; unfold PzL; exact ⟨hd,ih⟩
theorem Hg (k:Nat) (d:D) (hd:dpt d=0):Br (List.replicate k d)=0:=by
  induction k with
  | zero=>unfold List.replicate Br; rfl
  | succ k ih=>rw [List.replicate_succ]; unfold Br; rw [hd,ih]; rfl
theorem Q6 (M:Mk):Pz (beg M) /\ dpt (beg M) <= 10:=by
  have a:=KS (M.hs.length - 1) (.int (-1)) (by unfold Pz; trivial)
  have b:=KS (M.hs.length - 1) .non (by unfold Pz; trivial)
  have c:=Hg (M.hs.length - 1) (.int (-1)) rfl
  have d:=Hg (M.hs.length - 1) .non rfl
  unfold beg
  split
  . exact ⟨by simp [Pz,PzL,a],by simp [dpt,Br,c]⟩
  . exact ⟨by simp [Pz,PzL,b],by simp [dpt,Br,d]⟩
theorem Sx (M:Mk):Pz (stD M) /\ dpt (stD M) <= 20:=by
  obtain ⟨b1,b2⟩:=Q6 M
  have a1:PzL (M.hs.map fun h=>GZ (hv h.rs).length):=Eh fun h _=>by
    have:=Q5 (hv h.rs).length
    simp [Pz,PzL,this]
  have a2:Br (M.hs.map fun h=>GZ (hv h.rs).length) <= 10:=Dm fun h _=>by
    have:=Hg (hv h.rs).length (.int 0) rfl
    simp [dpt,Br,this]
  have c1:PzL (M.bs.map fun b=>D.tup [.int b.bg,.int (-1)]):=Eh fun h _=>by simp [Pz,PzL]
  have c2:Br (M.bs.map fun b=>D.tup [.int b.bg,.int (-1)]) <= 10:=Dm fun h _=>by simp [dpt,Br]
  refine ⟨by simp [Pz,PzL,a1,c1,b1],?_⟩
  have e:dpt (stD M)=max (Br (M.hs.map fun h=>GZ (hv h.rs).length) + 1) (max (Br (M.bs.map fun b=>D.tup [.int b.bg,.int (-1)]) + 1) (max (dpt (beg M)) 0)) + 1:=rfl
  rw [e]
  omega
theorem Sy (ok:M.Ok):PzL ((prs M).map spD) /\ Br ((prs M).map spD) <= 10:=by
  refine ⟨Eh fun t ht=>?_,Dm fun t ht=>?_⟩
  . obtain ⟨hd,_,e2,e3,j,e4⟩:=EI ht
    have o:=TQ _ (ok.hs hd e3).nm
    rw [e2] at o
    show PzL [D.str t.1,t.2.2]
    rw [e4]
    simp [Pz,PzL,o]
  . obtain ⟨hd,_,e2,e3,j,e4⟩:=EI ht
    show dpt (.tup [D.str t.1,t.2.2]) <= 10
    rw [e4]
    simp [dpt,Br]
theorem ON (rs:List Rw):(rs.filter fun r=>r.tgt.isSome).map (fun r=>D.str (r.tgt.getD ""))=(rs.filterMap Rw.tgt).map D.str:=by
  induction rs with
  | nil=>rfl
  | cons r rs ih=>
    rw [List.filterMap_cons]
    cases e:r.tgt with
    | none=>rw [List.filter_cons_of_neg (by rw [e]; exact Bool.false_ne_true)]; exact ih
    | some x=>
      rw [List.filter_cons_of_pos (by rw [e]; rfl)]
      dsimp only
      rw [List.map_cons,List.map_cons,ih,e]
      rfl
theorem Qf {rs:List Rw} {QL:List D->Mh->Prop} (q:QL ((rs.filterMap Rw.tgt).map D.str) μ):WP (Bs (AQ 0) (Ag (mOp (Ou false) (mOp Ab (AC 0) (mC (.int 0))) (AJ A2 (AD (mC (.str "get")) (AD (mC (.str "let")) AK))))) (mOp Ab (AC 0) (mC (.int 1))) [none] (rs.map Rw.toD) []) μ QL:=by
  refine BO _ (fun r=>r.tgt.isSome) (fun r=>D.str (r.tgt.getD "")) (fun r _=>?_) ?_
  . wtm_at "own qwr"
    refine ⟨rfl,?_⟩
    wtm_at "own qwr"
    cases r with
    | get x b=>
      refine CU rfl ?_
      wtm_at "own qwr"
      refine AN (a:=.bl true) (μ':=μ) rfl ?_
      wtm_at "own qwr"
      refine ⟨rfl,rfl,fun _=>?_⟩
      wtm_at "own qwr"
      refine CU rfl ⟨rfl,rfl⟩
    | lett x b=>
      refine CU rfl ?_
      wtm_at "own qwr"
      refine AN (a:=.bl true) (μ':=μ) rfl ?_
      wtm_at "own qwr"
      refine ⟨rfl,rfl,fun _=>?_⟩
      wtm_at "own qwr"
      refine CU rfl ⟨rfl,rfl⟩
    | put x b=>
      refine CU rfl ?_
      wtm_at "own qwr"
      refine AN (a:=.bl false) (μ':=μ) rfl ?_
      wtm_at "own qwr"
      exact ⟨rfl,rfl,fun z=>nomatch z⟩
    | unl x b=>
      refine CU rfl ?_
      wtm_at "own qwr"
      refine AN (a:=.bl false) (μ':=μ) rfl ?_
      wtm_at "own qwr"
      exact ⟨rfl,rfl,fun z=>nomatch z⟩
    | jump x=>
      refine CU rfl ?_
      wtm_at "own qwr"
      refine AN (a:=.bl false) (μ':=μ) rfl ?_
      wtm_at "own qwr"
      exact ⟨rfl,rfl,fun z=>nomatch z⟩
    | tell x=>
      refine CU rfl ?_
      wtm_at "own qwr"
      refine AN (a:=.bl false) (μ':=μ) rfl ?_
      wtm_at "own qwr"
      exact ⟨rfl,rfl,fun z=>nomatch z⟩
    | fin=>
      refine CU rfl ?_
      wtm_at "own qwr"
      refine AN (a:=.bl false) (μ':=μ) rfl ?_
      wtm_at "own qwr"
      exact ⟨rfl,rfl,fun z=>nomatch z⟩
  . rw [ON]
    exact q
theorem MJ (rs:List Rw):(rs.filterMap Rw.tgt).length <= rs.length:=List.length_filterMap_le _ _
end
end K21
set_option maxHeartbeats 1000000
namespace K21
open PySem L2 Mi Xt
theorem Qe {sc:List Int}:WP (Iv [.scr sc]) [] fun d _=>d=.bl true:=by
  unfold Iv
  refine By rfl ?_
  unfold Ie
  wtm_at "own qwr"
  refine OF fun x=>?_
  wtm_at "own qwr"
  refine K1 fun n μ1 x1=>?_
  wtm_at "own qwr"
  refine Cm (n:=2) rfl (by omega) ?_
  refine FW (I:=fun j τ μ'=>∃ (o2 o3 o4 o5 o6 o7 o8 o9 o10 o11 o12 o13 o14:Option D),Xs μ' n (500 - 245 * j) /\ τ=[some (.scr sc),some (.ref n),o2,o3,o4,o5,o6,o7,o8,o9,o10,o11,o12,o13,o14]) ?_ ?_ ⟨none,none,none,none,none,none,none,none,none,none,none,none,none,x1,rfl⟩
  . rintro j τ μ2 hj ⟨o2,o3,o4,o5,o6,o7,o8,o9,o10,o11,o12,o13,o14,x2,rfl⟩
    wtm_at "own qwr"
    refine K4 x2 (by omega) fun M μ3 ok u3 x3=>?_
    have h3:=ok.h3
    have b3:=ok.b3
    have s3:=ok.sz3
    wtm_at "own qwr"
    rw [List.length_map]
    refine Cm (n:=M.hs.length) rfl (by omega) ?_
    refine FW (I:=fun k τ μ'=>∃ (o6 o7 o8 o9 o10 o11:Option D),μ'=μ3 ++ [.lst ((M.hs.take k).map fun h=>GZ (hv h.rs).length)] /\ τ=[some (.scr sc),some (.ref n),some (.int (j:Int)),some M.toD,some (.ref μ3.length),some (.lst ((((M.hs.zipIdx 0).take k).flatMap (pr M.sz)).map spD)),o6,o7,o8,o9,o10,o11,o12,o13,o14]) ?_ ?_ ⟨o6,o7,o8,o9,o10,o11,rfl,rfl⟩
    . rintro k τ μ' hk ⟨o6,o7,o8,o9,o10,o11,rfl,rfl⟩
      obtain ⟨hd,ehd⟩:∃ hd,M.hs[k]? = some hd:=⟨M.hs[k],List.getElem?_eq_getElem hk⟩
      have oh:=ok.hs hd (List.mem_of_getElem? ehd)
      have nl:=Fy oh.rs
      have tl:=MJ hd.rs
      have r4:=oh.few
      have vl:=NW oh
      have zk:(M.hs.zipIdx 0)[k]? = some (hd,k):=by rw [List.getElem?_zipIdx,ehd]; simp
      have zt:(M.hs.zipIdx 0).take (k + 1)=(M.hs.zipIdx 0).take k ++ [(hd,k)]:=by rw [List.take_add_one,zk]; rfl
      have ht:M.hs.take (k + 1)=M.hs.take k ++ [hd]:=by rw [List.take_add_one,ehd]; rfl
      have pl:=FN s3 ((M.hs.zipIdx 0).take k)
      have kl:((M.hs.zipIdx 0).take k).length <= 3:=by rw [List.length_take,List.length_zipIdx]; omega
      have pk:=Ei s3 k
      wtm_at "own qwr"
      (with_reducible apply HF)
      wtm_at "own qwr"
      refine CU (d:=hd.toD) (Hh (by rw [List.getElem?_map,ehd]; rfl)) ?_
      (with_reducible apply L8)
      wtm_at "own qwr"
      refine PQ (by decide) oh.rs oh.some_ oh.few ?_
      wtm_at "own qwr"
      refine ⟨by rw [List.length_map,sizeLine_eq]; omega,?_⟩
      refine Qf ?_
      refine Bl (by rw [List.length_map,sizeLine_eq]; omega) ?_
      refine FI (by rw [List.length_map,List.length_map]; omega) ?_
      wtm_at "own qwr"
      refine FI (by rw [List.length_append,List.length_map,List.length_map]; show _ + 1 <= 1000000; omega) ?_
      rw [show (hd.rs.flatMap Rw.nam).map D.str ++ (hd.rs.filterMap Rw.tgt).map D.str ++ [D.str "v"]=(hd.rs.flatMap Rw.nam ++ hd.rs.filterMap Rw.tgt ++ [("v" : Str)]).map D.str by rw [List.map_append,List.map_append]; rfl]
      refine K5 (by rw [List.length_append,List.length_append]; show _ + 1 <= 1000; omega) ?_
      wtm_at "own qwr"
      rw [Nj]
      refine Db rfl (by rw [List.length_map,List.length_take,sizeLine_eq]; omega) ?_
      wtm_at "own qwr"
      refine AN (a:=.int (-1)) (μ':=_) rfl ?_
      wtm_at "own qwr"
      refine KA (by omega) ?_
      wtm_at "own qwr"
      refine ⟨μ3,_,rfl,rfl,rfl,?_⟩
      wtm_at "own qwr"
      have ek:∃ sz:Nat,sz <= 3 /\ atI [D.int (M.sz:Int),D.int 1] (if decide ((0:Int) < (k:Int))=true then 1 else 0)=some (.int (sz:Int)) /\ (List.range sz).map (fun (j:Nat)=>D.int (j:Int))=Cz M.sz k:=by
        unfold Cz
        by_cases k0:k=0
        . subst k0
          exact ⟨M.sz,s3,rfl,rfl⟩
        . refine ⟨1,by omega,?_,by rw [if_neg k0]; rfl⟩
          rw [decide_eq_true (show (0:Int) < (k:Int) by omega)]
          rfl
      obtain ⟨sz,sz3,e1,e2⟩:=ek
      refine CV e1 ?_
      wtm_at "own qwr"
      refine Cm rfl (by omega) ⟨by rw [List.length_map,List.length_range,sizeLine_eq]; omega,?_⟩
      refine BO _ (fun _=>true) (fun (i:Nat)=>D.tup [.str hd.nm,.int (i:Int)]) (fun i _=>?_) ?_
      . wtm_at "own qwr"
        refine ⟨rfl,?_⟩
        wtm_at "own qwr"
        refine ⟨rfl,rfl,fun _=>?_⟩
        wtm_at "own qwr"
        exact ⟨rfl,rfl⟩
      rw [List.filter_eq_self.mpr fun _ _=>rfl]
      refine Bl (by rw [List.length_map,List.length_range,sizeLine_eq]; omega) ?_
      refine FI (by rw [List.length_map,List.length_map,List.length_range]; omega) ?_
      have due:((((M.hs.zipIdx 0).take k).flatMap (pr M.sz)).map spD) ++ ((List.range sz).map fun (i:Nat)=>D.tup [.str hd.nm,.int (i:Int)])=(((M.hs.zipIdx 0).take (k + 1)).flatMap (pr M.sz)).map spD:=by
        rw [zt,List.flatMap_append,List.map_append,List.flatMap_cons,List.flatMap_nil,List.append_nil]
        congr 1
        unfold pr
        rw [← e2,List.map_map,List.map_map]
        rfl
      rw [due]
      exact An ⟨_,_,_,_,_,_,by rw [ht,List.map_append]; rfl,rfl⟩
    . rintro τ μ' ⟨o6,o7,o8,o9,o10,o11,rfl,rfl⟩
      rw [List.take_length,show M.hs.length=(M.hs.zipIdx 0).length by simp,List.take_length,show (M.hs.zipIdx 0).flatMap (pr M.sz)=prs M from rfl]
      obtain ⟨ps1,ps2⟩:=Sx M
      obtain ⟨pp1,pp2⟩:=Sy ok
      wtm_at "own qwr"
      refine ⟨by rw [List.length_map,sizeLine_eq]; omega,?_⟩
      refine BO _ (fun _=>true) (fun b=>D.tup [.int b.bg,.int (-1)]) (fun b hb=>?_) ?_
      . wtm_at "own qwr"
        refine ⟨rfl,?_⟩
        wtm_at "own qwr"
        refine ⟨rfl,rfl,fun _=>?_⟩
        wtm_at "own qwr"
        refine AN (a:=.int (-1)) (μ':=_) rfl ?_
        wtm_at "own qwr"
        exact ⟨rfl,rfl⟩
      rw [List.filter_eq_self.mpr fun _ _=>rfl]
      refine Bl (by rw [List.length_map,sizeLine_eq]; omega) ?_
      wtm_at "own qwr"
      refine Hr ok ?_
      wtm_at "own qwr"
      refine G8 (Es _) ?_
      wtm_at "own qwr"
      refine Hv ok ?_
      wtm_at "own qwr"
      refine EY ps1 (by omega) ?_
      wtm_at "own qwr"
      wtm_at "own qwr"
      refine KB ?_
      wtm_at "own qwr"
      refine Hr ok ?_
      wtm_at "own qwr"
      refine EY ps1 (by omega) ?_
      wtm_at "own qwr"
      generalize hν:μ3 ++ [MO.lst (M.hs.map fun h=>GZ (hv h.rs).length)]=ν
      have xν:Xs ν n (500 - 245 * (j + 1)):=by rw [← hν]; exact (x3.app _).mono (by omega)
      refine Ho ok fun kvs=>?_
      have at4:(ν ++ [MO.ins "Plan" (pf M ν.length),.dK kvs,.dK [],.dK [],.lst ((prs M).map spD)])[ν.length + 4]? = some (.lst ((prs M).map spD)):=by
        rw [List.getElem?_append_right (by omega),show ν.length + 4 - ν.length=4 by omega]
        rfl
      wtm_at "own qwr"
      refine FT at4 pp1 (by omega) ?_
      wtm_at "own qwr"
      refine Qi rfl at4 ?_
      rw [List.set_append_right _ _ (by omega),show ν.length + 4 - ν.length=4 by omega]
      wtm_at "own qwr"
      have xν2:=xν.app ([MO.ins "Plan" (pf M ν.length),.dK kvs,.dK [],.dK [],.lst ((prs M).map spD)].set 4 (.lst []))
      generalize ν ++ [MO.ins "Plan" (pf M ν.length),.dK kvs,.dK [],.dK [],.lst ((prs M).map spD)].set 4 (.lst [])=ν2 at xν2
      refine Ho ok fun kvs=>?_
      wtm_at "own qwr"
      refine FT (by rw [List.getElem?_append_right (by omega),show ν2.length + 4 - ν2.length=4 by omega]; rfl) pp1 (by omega) ?_
      wtm_at "own qwr"
      exact An ⟨_,_,_,_,_,_,_,_,_,_,_,_,_,xν2.app _,rfl⟩
  . rintro τ μ' ⟨o2,o3,o4,o5,o6,o7,o8,o9,o10,o11,o12,o13,o14,x2,rfl⟩
    wtm_at "own qwr"
    exact ⟨_,_,_,rfl,rfl,by unfold Cl; trivial,rfl⟩
theorem UJ (sc:List Int) (h:sc.length <= 63):∃ μ',Iv [.scr sc] []=some (.bl true,μ'):=by
  obtain ⟨a,μ',e,rfl⟩:=Qe (sc:=sc)
  exact ⟨μ',e⟩
end K21
open PySem PySem.W PyProof.Rows
local macro_rules | `(tactic| wtm_at "own qdf")=>`(tactic| (refine' Mi.Tn ?qa ?ql ?qc ?qk; (case qa=>k_is); (case ql=>k_is); (case qc=>k_is); (case qk=>k_is)))
local macro_rules | `(tactic| wtm_at "own qdc")=>`(tactic| (refine' Mi.To ?qa ?qb ?qc ?qd ?qe ?qf; (case qa=>k_is); (case qb=>k_is); (case qc=>k_is); (case qd=>k_is); (case qe=>k_is)))
local macro_rules | `(tactic| wtm_at "own qdi")=>`(tactic| (refine' Mi.Tm ?qa ?qb ?qc ?qd ?qe ?qf ?qg ?qh; (case qa=>k_is); (case qb=>k_is); (case qc=>k_is); (case qd=>k_is); (case qe=>k_is); (case qf=>k_is); (case qg=>k_is); (case qh=>k_is)))
local macro_rules | `(tactic| wtm_at "own qtl")=>`(tactic| (refine' Mi.SW ?pl ?pe; (case pl=>k_is); (case pe=>rfl)))
set_option maxRecDepth 100000 in
set_option maxHeartbeats 0 in
theorem PySem.Challenge.cw_strongboxes_k21_the_first_stand_holds : PySem.Challenge.rw_strongboxes_k21_the_first_stand.Holds := by
  w_on; o_law; k_head; (case hw=>w_witness2)
  k_fill
  refine Mi.SU (k:=13) (l:=PySem.Challenge.rw_strongboxes_k21_the_first_stand) rfl rfl (by decide) (fun w h Y=>PySem.W.kIn_of Y) ?F
  case F=>
    intro w mg fa h KX G hmg
    refine' K21.SH K21.UJ KX G hmg ?e_Lcell_at ?e_Lstream ?e_Lkind ?e_Lexpr ?e_Lrow ?e_Lhand ?e_Lmaking ?e_Lnamed ?e_variables_in ?e_variables_of ?e_variables_of_rows ?e_Plan___init__ ?e_claim_begun ?e_stand_begun ?e_first_stand ?e_picks_of ?e_moves_of ?e_steps_of ?e_law ?e_Plan ?z_enumerate ?z_int ?z_isinstance ?z_len ?z_range ?z_set ?z_sorted ?z_tuple ?z_zip ?g_IDLE ?g_NONE ?k_PARTS
    (case e_Lcell_at=>wtm_at "own qdf")
    (case e_Lstream=>wtm_at "own qdf")
    (case e_Lkind=>wtm_at "own qdf")
    (case e_Lexpr=>wtm_at "own qdf")
    (case e_Lrow=>wtm_at "own qdf")
    (case e_Lhand=>wtm_at "own qdf")
    (case e_Lmaking=>wtm_at "own qdf")
    (case e_Lnamed=>wtm_at "own qdf")
    (case e_variables_in=>wtm_at "own qdf")
    (case e_variables_of=>wtm_at "own qdf")
    (case e_variables_of_rows=>wtm_at "own qdf")
    (case e_Plan___init__=>wtm_at "own qdi")
    (case e_claim_begun=>wtm_at "own qdf")
    (case e_stand_begun=>wtm_at "own qdf")
    (case e_first_stand=>wtm_at "own qdf")
    (case e_picks_of=>wtm_at "own qdf")
    (case e_moves_of=>wtm_at "own qdf")
    (case e_steps_of=>wtm_at "own qdf")
    (case e_law=>wtm_at "own qdf")
    (case e_Plan=>wtm_at "own qdc"; exact ⟨by k_is,by k_is,by k_is,by k_is,by k_is,by k_is,trivial⟩)
    (case z_enumerate=>k_is)
    (case z_int=>k_is)
    (case z_isinstance=>k_is)
    (case z_len=>k_is)
    (case z_range=>k_is)
    (case z_set=>k_is)
    (case z_sorted=>k_is)
    (case z_tuple=>k_is)
    (case z_zip=>k_is)
    (case g_IDLE=>refine' Mi.Ko KX G ?qa; (case qa=>k_is))
    (case g_NONE=>refine' Mi.Ko KX G ?qa; (case qa=>k_is))
    (case k_PARTS=>refine' Mi.PX KX G ?qa ?ql ?qk ?qs ?qT; (case qa=>k_is); (case ql=>k_is); (case qk=>exact ⟨⟨_,_,rfl,rfl⟩,⟨⟨_,_,rfl,rfl⟩,⟨⟨_,_,rfl,rfl⟩,⟨⟨_,_,rfl,rfl⟩,⟨⟨_,_,rfl,rfl⟩,⟨⟨_,_,rfl,rfl⟩,⟨⟨_,_,rfl,rfl⟩,trivial⟩⟩⟩⟩⟩⟩⟩); (case qs=>rfl); (case qT=>refine' ⟨_,_,_,_,_,rfl,rfl,rfl,?qt,?qu,?_⟩; (case qt=>wtm_at "own qtl"); (case qu=>decide); refine' ⟨_,_,_,_,_,rfl,rfl,rfl,?qt,?qu,?_⟩; (case qt=>wtm_at "own qtl"); (case qu=>decide); refine' ⟨_,_,_,_,_,rfl,rfl,rfl,?qt,?qu,?_⟩; (case qt=>wtm_at "own qtl"); (case qu=>decide); refine' ⟨_,_,_,_,_,rfl,rfl,rfl,?qt,?qu,?_⟩; (case qt=>wtm_at "own qtl"); (case qu=>decide); refine' ⟨_,_,_,_,_,rfl,rfl,rfl,?qt,?qu,?_⟩; (case qt=>wtm_at "own qtl"); (case qu=>decide); refine' ⟨_,_,_,_,_,rfl,rfl,rfl,?qt,?qu,?_⟩; (case qt=>wtm_at "own qtl"); (case qu=>decide); refine' ⟨_,_,_,_,_,rfl,rfl,rfl,?qt,?qu,?_⟩; (case qt=>wtm_at "own qtl"); (case qu=>decide); rfl))
