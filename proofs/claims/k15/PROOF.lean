import PyProof.Rows.All
import Wide.All
import Wide.FinOn
import OpenK.KLine
import KE.KPairTest
import KE.KDictSum
import KE.KDictOf
import KE.KRevSl
import KE.KDictList
import KE.KIsAll
import KE.KPairComp
import KE.KItem
import PyProof.EqAt
import PyProof.EqKinds
import PyProof.TupleCall
import OpenK.AllK
import KE.KSortTup
import KE.KSortAsk
import PySem.Challenge.RW_strongboxes_k15_kept_by_the_stronger_kep
set_option Elab.async false
set_option linter.all false
set_option maxRecDepth 100000
set_option maxHeartbeats 4000000
set_option autoImplicit true
set_option relaxedAutoImplicit true
section
open PySem PySem.W PyProof.Rows
abbrev AAA:=@wpAny_bind
abbrev AAB:=@wpAny_pure
abbrev AAC:=@Heap.get?_push_of_some
abbrev AAD:=@Heap.get?_push_size
abbrev AAE:=@Nat.le_refl
abbrev AAF:=@List.length_map
abbrev AAG:=@List.length_append
abbrev AAH:=@List.length_cons
abbrev AAI:=@List.mem_cons
abbrev AAJ:=@List.mem_append
abbrev AAK:=@List.mem_singleton
abbrev AAL:=@List.mem_map
abbrev AAM:=@Nat.lt_of_lt_of_le
abbrev AAN:=@decide_eq_false
abbrev AAO:=@decide_eq_true
abbrev AAP:=@List.mem_cons_self
abbrev AAQ:=@List.mem_cons_of_mem
abbrev AAR:=@List.getElem?_append_right
abbrev AAS:=@List.getElem?_append_left
abbrev AAT:=@List.getElem?_eq_some_iff
abbrev AAU:=@List.mem_of_getElem?
abbrev AAV:=@List.getElem?_map
abbrev AAW:=@List.map_cons
abbrev AAX:=@List.map_append
abbrev AAY:=@Int.emod_nonneg
abbrev AAZ:=@Int.emod_lt_of_pos
abbrev AAa:=@List.append_nil
abbrev AAb:=@List.mem_append_right
abbrev AAc:=@List.mem_append_left
abbrev AAd:=@wpAny_call_entry
abbrev AAe:=@Nat.ne_of_lt
abbrev AAf:=@beq_eq_false_iff_ne
abbrev AAg:=@List.set_append_right
abbrev AAh:=@Bool.false_ne_true
abbrev AAi:=@Nat.lt_succ_of_lt
abbrev AAj:=@wpAny_setState_of
abbrev AAk:=@wpAny_mono
abbrev AAl:=@Nat.zero_le
abbrev AAm:=@List.replicate_succ
abbrev AAn:=@List.append_assoc
abbrev AAo:=@List.length_replicate
abbrev AAp:=@List.getElem?_set_ne
abbrev AAq:=@wpAny_holding
abbrev AAr:=@wpAny_newObj_type
abbrev AAs:=@Nat.lt_of_le_of_lt
abbrev AAt:=@Nat.le_trans
abbrev AAu:=@List.getElem?_eq_getElem
abbrev AAv:=@List.filterMap_cons_some
abbrev AAw:=@wpAny_of_eq
abbrev AAx:=@List.length_set
abbrev AAy:=@Nat.lt_irrefl
abbrev AAz:=@List.pairwise_cons
end
noncomputable def PySem.W.Fast.tw6200586885081297624:Nat:=0
noncomputable def PySem.W.Fast.tw3936442033958927443:Nat:=0
noncomputable def PySem.W.Fast.tw8166863423596349020:Nat:=0
noncomputable def PySem.W.Fast.tw10580826115694811517:Nat:=0
noncomputable def PySem.W.Fast.tw8355457962944917823:Nat:=0
noncomputable def PySem.W.Fast.tw5932191260097978482:Nat:=0
noncomputable def PySem.W.Fast.tw3660058702233331622:Nat:=0
noncomputable def PySem.W.Fast.tw1565461475497000664:Nat:=0
noncomputable def PySem.W.Fast.tw12791787108454574529:Nat:=0
noncomputable def PySem.W.Fast.tw6605210316264174857:Nat:=0
noncomputable def PySem.W.Fast.tw4737888330344889656:Nat:=0
noncomputable def PySem.W.Fast.tw18091582114712918772:Nat:=0
noncomputable def PySem.W.Fast.tw2148258780465344310:Nat:=0
noncomputable def PySem.W.Fast.tw14064135411309181039:Nat:=0
noncomputable def PySem.W.Fast.tw2183404381917834614:Nat:=0
noncomputable def PySem.W.Fast.tw7947572777342144382:Nat:=0
noncomputable def PySem.W.Fast.tw9146080601641932157:Nat:=0
noncomputable def PySem.W.Fast.tw15255439575073808662:Nat:=0
noncomputable def PySem.W.Fast.tw8831495220983013754:Nat:=0
noncomputable def PySem.W.Fast.tw7857699791525451814:Nat:=0
noncomputable def PySem.W.Fast.tw22053131306922631:Nat:=0
noncomputable def PySem.W.Fast.tw6174599205130485781:Nat:=0
noncomputable def PySem.W.Fast.tw10826487307870839298:Nat:=0
noncomputable def PySem.W.Fast.tw15567936712349785974:Nat:=0
noncomputable def PySem.W.Fast.tw11064140726699661660:Nat:=0
noncomputable def PySem.W.Fast.tw5717625371561546133:Nat:=0
noncomputable def PySem.W.Fast.tw5202798261837939599:Nat:=0
noncomputable def PySem.W.Fast.tw8167878699319089579:Nat:=0
noncomputable def PySem.W.Fast.tw998565429948459789:Nat:=0
noncomputable def PySem.W.Fast.tw16173094414310466401:Nat:=0
noncomputable def PySem.W.Fast.tw10820840944085070614:Nat:=0
noncomputable def PySem.W.Fast.tw14272342845005267459:Nat:=0
noncomputable def PySem.W.Fast.tw11815694646325133434:Nat:=0
noncomputable def PySem.W.Fast.tw2445098237837047905:Nat:=0
noncomputable def PySem.W.Fast.tw655621509713084904:Nat:=0
noncomputable def PySem.W.Fast.tw3808683227640714079:Nat:=0
noncomputable def PySem.W.Fast.tw3136871476682548332:Nat:=0
noncomputable def PySem.W.Fast.tw1792105584766520457:Nat:=0
noncomputable def PySem.W.Fast.tw2406372158136094337:Nat:=0
noncomputable def PySem.W.Fast.tw2486256605083831307:Nat:=0
noncomputable def PySem.W.Fast.tw9326896003407911981:Nat:=0
noncomputable def PySem.W.Fast.tw6520978613134747995:Nat:=0
noncomputable def PySem.W.Fast.tw9168051881242878793:Nat:=0
noncomputable def PySem.W.Fast.tw9477886847656821564:Nat:=0
noncomputable def PySem.W.Fast.tw11116341743436908222:Nat:=0
noncomputable def PySem.W.Fast.tw10839414299341235916:Nat:=0
noncomputable def PySem.W.Fast.tw3584801892398887789:Nat:=0
noncomputable def PySem.W.Fast.tw2831130736493464451:Nat:=0
noncomputable def PySem.W.Fast.tw16578948081792635551:Nat:=0
noncomputable def PySem.W.Fast.tw3285110539773547445:Nat:=0
noncomputable def PySem.W.Fast.tw6083506884889314580:Nat:=0
noncomputable def PySem.W.Fast.tw5510867837185953822:Nat:=0
noncomputable def PySem.W.Fast.tw17096634205940866582:Nat:=0
noncomputable def PySem.W.Fast.tw10191359483998121569:Nat:=0
noncomputable def PySem.W.Fast.tw18354564867229447746:Nat:=0
noncomputable def PySem.W.Fast.tw7159299887725258529:Nat:=0
noncomputable def PySem.W.Fast.tw18141142292234576996:Nat:=0
noncomputable def PySem.W.Fast.tw8448376287229809953:Nat:=0
noncomputable def PySem.W.Fast.tw15115110768337825601:Nat:=0
noncomputable def PySem.W.Fast.tw10052560803880407146:Nat:=0
noncomputable def PySem.W.Fast.tw2004605664819790696:Nat:=0
noncomputable def PySem.W.Fast.tw16164511280443700208:Nat:=0
noncomputable def PySem.W.Fast.tw10449989506546176844:Nat:=0
noncomputable def PySem.W.Fast.tw502029437498020589:Nat:=0
noncomputable def PySem.W.Fast.tw14999084871109572867:Nat:=0
noncomputable def PySem.W.Fast.tw8906642922991629261:Nat:=0
noncomputable def PySem.W.Fast.tw7375880784008287181:Nat:=0
noncomputable def PySem.W.Fast.tw13736357394439228571:Nat:=0
noncomputable def PySem.W.Fast.tw15139652081953324736:Nat:=0
noncomputable def PySem.W.Fast.tw14432296444864802834:Nat:=0
noncomputable def PySem.W.Fast.tw13507312265133859877:Nat:=0
noncomputable def PySem.W.Fast.tw12342495023231675794:Nat:=0
noncomputable def PySem.W.Fast.tw821240298012081515:Nat:=0
noncomputable def PySem.W.Fast.tw5116122821327588309:Nat:=0
noncomputable def PySem.W.Fast.tw16707414203858969435:Nat:=0
noncomputable def PySem.W.Fast.tw11555704660357886826:Nat:=0
noncomputable def PySem.W.Fast.tw13929080974888095632:Nat:=0
noncomputable def PySem.W.Fast.tw17087739186650952223:Nat:=0
noncomputable def PySem.W.Fast.tw16751312312924791980:Nat:=0
noncomputable def PySem.W.Fast.tw15527737228441820147:Nat:=0
noncomputable def PySem.W.Fast.tw14251352421070410853:Nat:=0
noncomputable def PySem.W.Fast.tw14606191961275449518:Nat:=0
noncomputable def PySem.W.Fast.tw3182689530250139141:Nat:=0
noncomputable def PySem.W.Fast.tw7006932923919322557:Nat:=0
noncomputable def PySem.W.Fast.tw5299588191090048934:Nat:=0
noncomputable def PySem.W.Fast.tw17554513601284746700:Nat:=0
noncomputable def PySem.W.Fast.tw6135983534232241860:Nat:=0
noncomputable def PySem.W.Fast.tw12908323665439870011:Nat:=0
noncomputable def PySem.W.Fast.tw9230493354158477709:Nat:=0
noncomputable def PySem.W.Fast.tw661509481911797530:Nat:=0
noncomputable def PySem.W.Fast.tw13333034879905919636:Nat:=0
noncomputable def PySem.W.Fast.tw8861361876498667979:Nat:=0
noncomputable def PySem.W.Fast.tw5543657953938325104:Nat:=0
noncomputable def PySem.W.Fast.tw14381321349276458582:Nat:=0
noncomputable def PySem.W.Fast.tw2066819308638118751:Nat:=0
noncomputable def PySem.W.Fast.tw13784806195436063126:Nat:=0
noncomputable def PySem.W.Fast.tw9248302959423648878:Nat:=0
noncomputable def PySem.W.Fast.tw11400793414397787444:Nat:=0
noncomputable def PySem.W.Fast.tw3432172223384552388:Nat:=0
noncomputable def PySem.W.Fast.tw4953426238870501578:Nat:=0
noncomputable def PySem.W.Fast.tw873193170947214752:Nat:=0
noncomputable def PySem.W.Fast.tw15431400160474551231:Nat:=0
noncomputable def PySem.W.Fast.tw14199845829573680511:Nat:=0
noncomputable def PySem.W.Fast.tw9518749665419236325:Nat:=0
noncomputable def PySem.W.Fast.tw82283388012591692:Nat:=0
noncomputable def PySem.W.Fast.tw5785682898309949467:Nat:=0
noncomputable def PySem.W.Fast.tw8845017868052675661:Nat:=0
noncomputable def PySem.W.Fast.tw16697128635070613398:Nat:=0
noncomputable def PySem.W.Fast.tw11118509959956812007:Nat:=0
noncomputable def PySem.W.Fast.tw10689881852269354125:Nat:=0
noncomputable def PySem.W.Fast.tw9817865973028328763:Nat:=0
noncomputable def PySem.W.Fast.tw9384528147758465349:Nat:=0
noncomputable def PySem.W.Fast.tw9151283802399320199:Nat:=0
noncomputable def PySem.W.Fast.tw7222973741098176847:Nat:=0
noncomputable def PySem.W.Fast.tw7128325255904797055:Nat:=0
noncomputable def PySem.W.Fast.tw6526302907310427630:Nat:=0
noncomputable def PySem.W.Fast.tw6336490562679387694:Nat:=0
noncomputable def PySem.W.Fast.tw4757534282234851154:Nat:=0
noncomputable def PySem.W.Fast.tw4509419928795081557:Nat:=0
noncomputable def PySem.W.Fast.tw2912893703420444693:Nat:=0
namespace L2
open PySem PySem.Spec PyProof.Rows
noncomputable abbrev Key:=Sum Int Str
noncomputable def JJ:Key->Value->Bool
 | .inl k,v=>Value.isInt k v
 | .inr x,v=>Value.isStrOf x v
noncomputable def Yt(w:World):Key->Int
 | .inl k=>hashInt k
 | .inr x=>hashStr w x
theorem BR:∀{k:Key} {v:Value},JJ k v=true->(∃i t,k=Sum.inl i/\v=Value.int i t)∨(∃x t,k=Sum.inr x/\v=Value.str x t)
 | .inl i,v,h=>by
  obtain⟨t,e⟩:=Value.isInt_shape (k:=i) (v:=v) h;exact .inl ⟨i,t,rfl,e⟩
 | .inr x,v,h=>by
  obtain⟨t,e⟩:=Value.isStrOf_shape (x:=x) (v:=v) h;exact .inr ⟨x,t,rfl,e⟩
theorem Oo(i:Int)(t:Tok):JJ (.inl i) (.int i t)=true:=by simp[JJ,Value.isInt]
theorem On(x:Str)(t:Tok):JJ (.inr x) (.str x t)=true:=by simp[JJ,Value.isStrOf]
theorem WS(a b:Int):decide ((Sum.inl a:Key)=Sum.inl b)=(a==b):=by
 by_cases e:a=b
 ·subst e;simp
 ·have h:¬(Sum.inl a:Key)=Sum.inl b:=λq=>e (Sum.inl.inj q);rw[AAN h];exact(AAf.mpr e).symm
theorem WO(a b:Str):decide ((Sum.inr a:Key)=Sum.inr b)=decide (a=b):=by
 by_cases e:a=b
 ·subst e;simp
 ·have h:¬(Sum.inr a:Key)=Sum.inr b:=λq=>e (Sum.inr.inj q);rw[AAN h,AAN e]
theorem WR(a:Int)(b:Str):decide ((Sum.inl a:Key)=Sum.inr b)=false:=AAN (λq=>nomatch q)
theorem WQ(a:Str)(b:Int):decide ((Sum.inr a:Key)=Sum.inl b)=false:=AAN (λq=>nomatch q)
noncomputable def Bh(prog:Program)(w:World):PySem.KeyKind prog w Key where
 is:=JJ
 hash:=Yt w
 inj:=λv a b ha hb=>by
  rcases BR ha with ⟨i,t,rfl,rfl⟩|⟨x,t,rfl,rfl⟩
  ·rcases BR hb with ⟨j,u,rfl,e⟩|⟨y,u,rfl,e⟩
   ·injection e with e1 _;rw[e1]
   ·exact nomatch e
  ·rcases BR hb with ⟨j,u,rfl,e⟩|⟨y,u,rfl,e⟩
   ·exact nomatch e
   ·injection e with e1 _;rw[e1]
 byValue:=λk v h=>by
  rcases BR h with ⟨i,t,rfl,rfl⟩|⟨x,t,rfl,rfl⟩<;>rfl
 pyHash:=λhv h=>by
  rcases BR hv with ⟨i,t,rfl,rfl⟩|⟨x,t,rfl,rfl⟩
  ·exact wpAny_pyHash_int h
  ·exact wpAny_pyHash_str h
 eqBool:=λhu hv h=>by
  rcases BR hu with ⟨i,t,rfl,rfl⟩|⟨x,t,rfl,rfl⟩
  ·rcases BR hv with ⟨j,u,rfl,rfl⟩|⟨y,u,rfl,rfl⟩
   ·rw[WS] at h;exact wpAny_eqBool_int h
   ·rw[WR] at h;exact SeqAt.EqAt.int_str i t y u _ _ _ _ h
  ·rcases BR hv with ⟨j,u,rfl,rfl⟩|⟨y,u,rfl,rfl⟩
   ·rw[WQ] at h;exact SeqAt.EqAt.str_int x t j u _ _ _ _ h
   ·rw[WO] at h;exact wpAny_eqBool_str h
 «strs»:=λk x t v h=>by
  rcases BR h with ⟨i,u,rfl,e⟩|⟨y,u,rfl,e⟩
  ·exact nomatch e
  ·injection e with e1 _
   subst e1;cases v<;>rfl
theorem LR(prog:Program)(w:World)(i:Int)(t:Tok):(Bh prog w).is (.inl i) (.int i t)=true:=Oo i t
theorem LQ(prog:Program)(w:World)(x:Str)(t:Tok):(Bh prog w).is (.inr x) (.str x t)=true:=On x t
inductive V where
 |non|bl (b:Bool)|int (i:Int)|str (x:Str)|byt (b:Array UInt8)|flt (b:UInt64)|ref (a:Addr)|ty (n:String)
 deriving DecidableEq
def RelV:V->Value->Prop
 | .non,u=>u=Value.none
 | .bl b,u=>u=Value.bool b
 | .int i,u=>∃t,u=Value.int i t
 | .str x,u=>∃t,u=Value.str x t
 | .byt b,u=>∃t,u=Value.bytes b t
 | .flt b,u=>∃t,u=Value.float b t
 | .ref a,u=>u=Value.ref a
 | .ty n,u=>u=Value.type n
abbrev Vals:List V->List Value->Prop:=Paired RelV
theorem Vals.length{xs:List V}{us:List Value}(r:Vals xs us):xs.length=us.length:=Paired.length r
theorem Vals.get:∀{xs:List V} {us:List Value} {i:Nat} {x:V},Vals xs us->xs[i]?=some x->∃u,us[i]?=some u/\RelV x u
 |_,_,_,_,.nil,e=>by simp at e
 |_,_,0,_,.cons r _,e=>by simp at e;subst e;exact⟨_,rfl,r⟩
 |_,_,i+1,x,.cons _ t,e=>by
  obtain⟨u,h1,h2⟩:=Vals.get (i:=i) (x:=x) t (by simpa using e);exact⟨u,by simpa using h1,h2⟩
theorem Vals.append:∀{xs ys:List V} {us ws:List Value},Vals xs us->Vals ys ws->Vals (xs++ys) (us++ws)
 |_,_,_,_,.nil,s=>s
 |_,_,_,_,.cons r t,s=>.cons r (Vals.append t s)
theorem Vals.take:∀{xs:List V} {us:List Value} (n:Nat),Vals xs us->Vals (xs.take n) (us.take n)
 |_,_,0,_=>.nil
 |_,_,_+1,.nil=>.nil
 |_,_,n+1,.cons r t=>.cons r (Vals.take n t)
theorem Vals.drop:∀{xs:List V} {us:List Value} (n:Nat),Vals xs us->Vals (xs.drop n) (us.drop n)
 |_,_,0,r=>r
 |_,_,_+1,.nil=>.nil
 |_,_,n+1,.cons _ t=>Vals.drop n t
noncomputable def RelO:Option V->Option Value->Prop
 |some v,some u=>RelV v u
 |none,none=>True
 |_,_=>False
noncomputable def KV{κ:Type}:List (κ×V)->List (κ×Value)->Prop:=Paired λ(p:κ×V) (q:κ×Value)=>p.1=q.1/\RelV p.2 q.2
noncomputable def kV:Key->V
 | .inl i=>.int i
 | .inr x=>.str x
inductive HO where
 |lst (xs:List V)
 |tup (xs:List V)
 |dK (kvs:List (Key×V))|dT (kvs:List (List Key×V))
 |set (S:Int->Bool) (n:Nat)
 |ins (C dx:Addr) (fs:List (Str×V))
 |own (x:Addr)
 |xd (fs:List (Str×V))
 |met (f x:Addr)
 |rng (lo hi:Int)
 |frz (o:Obj) (u:HO)
 |tbl (ps:Array Value)
 |ext (φ:Heap->Prop)
abbrev Hp:=Addr->Option HO
noncomputable def upd(H:Hp)(a:Addr)(o:HO):Hp:=λb=>if b=a then some o else H b
theorem BZ{H:Hp}{a:Addr}{o:HO}:upd H a o a=some o:=by unfold upd;rw[if_pos rfl]
theorem A0{H:Hp}{a b:Addr}{o:HO}(h:b≠a):upd H a o b=H b:=by unfold upd;rw[if_neg h]
theorem Xw{H:Hp}{a b:Addr}{o u:HO}(h:H a=some o)(h':H b=some u)(d:o≠u):a≠b:=by
 intro e;subst e;rw[h] at h';exact d (Option.some.inj h')
theorem CF{H:Hp}{a b:Addr}{o:HO}(h:H a=some o)(h':H b=none):a≠b:=by
 intro e;subst e;rw[h] at h';cases h'
section
variable(P:Program)(w:World)
noncomputable def ObjOk(H:Hp)(h:Heap)(a:Addr):HO->Prop
 | .lst xs=>xs.length<=sizeLine/\∃(its:List Value) (n:Nat),Vals xs its/\h.get? a=some { cls:=.type "list",data:=.seq its.toArray n }
 | .tup xs=>xs.length<=sizeLine/\∃its:List Value,Vals xs its/\IsTup h a its.toArray
 | .dK kvs=>kvs.length<=sizeLine/\(a==sysModules)=false/\∃vs,KV kvs vs/\h.DictOf (Bh P w) a vs
 | .dT kvs=>kvs.length<=sizeLine/\(a==sysModules)=false/\∃xs:List (List Key×Addr×Value),
   Paired (λ(p:List Key×V) (q:List Key×Addr×Value)=>p.1=q.1/\H q.2.1=some (.tup (p.1.map kV))/\RelV p.2 q.2.2) kvs xs /\
   ∃o es ep,h.get? a=some o/\o.ExactDict/\o.data=.dict es ep/\es.toList=xs.map (entryOfKey (tupleKind (Bh P w)))/\(xs.map (·.1)).Nodup
 | .set S n=>h.SetOf (intKind P w) a S n
 | .ins C dx fs=>H dx=some (.own a)/\fs.length<=1000/\dx≠a/\h.get? a=some (PySem.W.instObj C dx) /\
   ∃mA,h.Ns1 dx mA/\(∀f,RelO (fs.lookup f) (mA f))/\PySem.Within mA (fs.map (·.1))
 | .own _=>∃o,h.get? a=some o
 | .xd fs=>∃mA,h.Ns1 a mA/\∀f,RelO (fs.lookup f) (mA f)
 | .rng lo hi=>∃t u v,h.get? a=some { cls:=.type "range",data:=.fields #[.int lo t,.int hi u,.int 1 v] }
 | .frz o u=>h.get? a=some o/\ObjOk H h a u
 | .tbl ps=>h.get? a=some { cls:=.none,data:=.fields ps }
 | .met f x=>h.get? a=some (PySem.W.methodObj (.ref f) (.ref x))
 | .ext φ=>φ h/\(∃o,h.get? a=some o)/\∀h1 h2:Heap,φ h1->(∀o,h1.get? a=some o->h2.get? a=some o)->φ h2
def HOk(H:Hp)(h:Heap):Prop:=∀a o,H a=some o->ObjOk P w H h a o
end
section
variable{P:Program}{w:World}{H H':Hp}{h h':Heap}{a:Addr}{o:HO}
theorem ObjOk.lt(x:ObjOk P w H h a o):a<h.objs.size:=by
 cases o with
 |lst xs=>obtain⟨_,_,_,_,e⟩:=x;exact Heap.lt_size e
 |tup xs=>obtain⟨_,_,_,p⟩:=x;exact p.lt
 |dK kvs=>obtain⟨_,_,_,_,o,_,_,e,_⟩:=x;exact Heap.lt_size e
 |dT kvs=>obtain⟨_,_,_,_,o,_,_,e,_⟩:=x;exact Heap.lt_size e
 |set S n=>obtain⟨o,_,_,_,e,_⟩:=x;exact Heap.lt_size e
 |ins C dx fs=>obtain⟨_,_,_,e,_⟩:=x;exact Heap.lt_size e
 |own y=>obtain⟨_,e⟩:=x;exact Heap.lt_size e
 |xd fs=>obtain⟨_,⟨_,_,_,e,_⟩,_⟩:=x;exact Heap.lt_size e
 |rng lo hi=>obtain⟨_,_,_,e⟩:=x;exact Heap.lt_size e
 |frz ob u=>obtain⟨e,_⟩:=x;exact Heap.lt_size e
 |tbl ps=>exact Heap.lt_size (show h.get? a=some _ from x)
 |met f y=>exact Heap.lt_size (show h.get? a=some _ from x)
 |ext φ=>obtain⟨_,⟨_,e⟩,_⟩:=x;exact Heap.lt_size e
theorem Paired.mapP{α β:Type}{F G:α->β->Prop}:∀{l₁:List α} {l₂:List β},Paired F l₁ l₂->(∀a b,F a b->G a b)->Paired G l₁ l₂
 |_,_,.nil,_=>.nil
 |_,_,.cons r t,f=>.cons (f _ _ r) (Paired.mapP t f)
theorem ObjOk.stay(x:ObjOk P w H h a o)(k:∀b u,(b=a∨H b=some (.own a))->h.get? b=some u->h'.get? b=some u)
  (ho:∀b,H b=some (.own a)->H' b=some (.own a)) (ht:∀b xs,H b=some (.tup xs)->H' b=some (.tup xs)):ObjOk P w H' h' a o:=by
 induction o with
 |lst xs=>obtain⟨z,its,n,r,e⟩:=x;exact⟨z,its,n,r,k _ _ (.inl rfl) e⟩
 |tup xs=>obtain⟨z,its,r,ob,e,c⟩:=x;exact⟨z,its,r,ob,k _ _ (.inl rfl) e,c⟩
 |dK kvs=>obtain⟨z,y,vs,r,ob,es,ep,e,c⟩:=x;exact⟨z,y,vs,r,ob,es,ep,k _ _ (.inl rfl) e,c⟩
 |dT kvs=>
  obtain⟨z,y,xs,r,ob,es,ep,e,c⟩:=x;exact⟨z,y,xs,Paired.mapP r λp q z=>⟨z.1,ht _ _ z.2.1,z.2.2⟩,ob,es,ep,k _ _ (.inl rfl) e,c⟩
 |set S n=>obtain⟨ob,es,ep,t,e,c⟩:=x;exact⟨ob,es,ep,t,k _ _ (.inl rfl) e,c⟩
 |ins C dx fs=>
  obtain⟨d,z,ne,e,mA,⟨od,es,ep,e2,c⟩,r⟩:=x;exact⟨ho _ d,z,ne,k _ _ (.inl rfl) e,mA,⟨od,es,ep,k _ _ (.inr d) e2,c⟩,r⟩
 |own y=>obtain⟨ob,e⟩:=x;exact⟨ob,k _ _ (.inl rfl) e⟩
 |xd fs=>obtain⟨mA,⟨od,es,ep,e,c⟩,r⟩:=x;exact⟨mA,⟨od,es,ep,k _ _ (.inl rfl) e,c⟩,r⟩
 |rng lo hi=>obtain⟨t,u,v,e⟩:=x;exact⟨t,u,v,k _ _ (.inl rfl) e⟩
 |frz ob u ih=>obtain⟨e,q⟩:=x;exact⟨k _ _ (.inl rfl) e,ih q⟩
 |tbl ps=>
  have e:h.get? a=some { cls:=.none,data:=.fields ps }:=x;show h'.get? a=some { cls:=.none,data:=.fields ps };exact k a _ (.inl rfl) e
 |met f y=>
  have e:h.get? a=some (PySem.W.methodObj (.ref f) (.ref y)):=x;show h'.get? a=some (PySem.W.methodObj (.ref f) (.ref y));exact k a _ (.inl rfl) e
 |ext φ=>obtain⟨p,⟨o,e⟩,st⟩:=x;exact⟨st _ _ p λo q=>k _ _ (.inl rfl) q,⟨o,k _ _ (.inl rfl) e⟩,st⟩
theorem HOk.lt(x:HOk P w H h)(e:H a=some o):a<h.objs.size:=(x a o e).lt
theorem HOk.fresh(x:HOk P w H h)(e:h.objs.size<=a):H a=none:=by
 cases q:H a with
 |none=>rfl
 |some u=>exact absurd (AAM (x.lt q) e) (AAy _)
theorem HOk.kept(x:HOk P w H h)(k:∀b u,h.get? b=some u->h'.get? b=some u):HOk P w H h':=λa o e=>
 (x a o e).stay (λb u _ q=>k b u q) (λ_ q=>q) λ_ _ q=>q
theorem HOk.laid(x:HOk P w H h)(k:∀b u,h.get? b=some u->h'.get? b=some u)(hp:h.objs.size<=a)(new:ObjOk P w (upd H a o) h' a o):HOk P w (upd H a o) h':=λb u e=>by
 have hn:=x.fresh hp;by_cases hb:b=a
 ·subst hb;rw[BZ] at e;cases e;exact new
 ·rw[A0 hb] at e;exact(x b u e).stay (λc v _ q=>k c v q) (λc q=>by rw[A0 (CF q hn)];exact q) λc xs q=>by rw[A0 (CF q hn)];exact q
end
def Rd(H:Hp)(a:Addr)(u:HO):Prop:=H a=some u∨∃o,H a=some (.frz o u)
theorem Rd.ok{P:Program}{w:World}{H:Hp}{h:Heap}{a:Addr}{u:HO}(r:Rd H a u)(x:HOk P w H h):ObjOk P w H h a u:=by
 rcases r with r|⟨o,r⟩
 ·exact x a u r
 ·obtain⟨_,q⟩:=x a _ r;exact q
noncomputable def Mut:Option HO->Prop
 |some (.lst _)=>True
 |some (.dK _)=>True
 |some (.dT _)=>True
 |some (.set _ _)=>True
 |some (.ins _ _ _)=>True
 |some (.ext _)=>True
 |_=>False
section
variable{P:Program}{w:World}{H:Hp}{h h':Heap}{x e:Addr}{o':HO}
theorem HOk.write(ok:HOk P w H h)(mu:Mut (H x))(he:e=x∨H e=some (.own x))(k:∀b u,b≠e->h.get? b=some u->h'.get? b=some u)(heo:∃u,h'.get? e=some u)
  (new:ObjOk P w (upd H x o') h' x o'):HOk P w (upd H x o') h':=λb u q=>by
 have nown:∀c y,H c=some (.own y)->c≠x:=λc y r z=>by subst z;rw[r] at mu;exact mu
 have ntup:∀c xs,H c=some (.tup xs)->c≠x:=λc xs r z=>by subst z;rw[r] at mu;exact mu
 by_cases hb:b=x
 ·subst hb;rw[BZ] at q;cases q;exact new
 ·rw[A0 hb] at q;by_cases hbe:b=e
  ·have q':H b=some (.own x):=by
    rcases he with z|z
    ·exact absurd (hbe.trans z) hb
    ·rw[hbe];exact z
   rw[q] at q';cases q';obtain⟨v,hv⟩:=heo;exact⟨v,by rw[hbe];exact hv⟩
  ·refine(ok b u q).stay (λc v hc r=>k c v ?_ r) (λc r=>by rw[A0 (nown c b r)];exact r) λc xs r=>by rw[A0 (ntup c xs r)];exact r
   rcases hc with rfl|hc
   ·exact hbe
   ·rintro rfl;rcases he with z|z
    ·exact nown c b hc z
    ·rw[hc] at z;cases z;exact hb rfl
end
structure Un(fs ex:List Addr)(H H':Hp)(h h':Heap):Prop where
 keep:∀b o,h.get? b=some o->H b=none->b∉fs->b∉ex->h'.get? b=some o
 slot:∀b o,h.get? b=some o->H b=none->b∈fs->b∉ex->∃sl,h'.get? b=some { o with slots:=sl }
 free:∀b o,h.get? b=some o->H b=none->b∉ex->H' b=none
 there:∀b o,h.get? b=some o->b∉ex->∃o',h'.get? b=some o'
 tups:∀b xs,H b=some (.tup xs)->H' b=some (.tup xs)
 frzs:∀b o u,H b=some (.frz o u)->H' b=some (.frz o u)
 tbls:∀b ps,H b=some (.tbl ps)->∃more,H' b=some (.tbl (ps++more))
section
variable{fs ex:List Addr}{H H1:Hp}{h h1 h':Heap}{a x e:Addr}{o:HO}
theorem Un.any(u:Un fs ex H H1 h h1){b:Addr}{ob:Obj}(q:h.get? b=some ob)(n:H b=none)(hx:b∉ex):∃sl,h1.get? b=some { ob with slots:=sl }:=by
 by_cases hb:b∈fs
 ·exact u.slot b ob q n hb hx
 ·exact⟨ob.slots,u.keep b ob q n hb hx⟩
theorem Un.kept(k:∀b u,h.get? b=some u->h'.get? b=some u):Un fs ex H H h h':=
 ⟨λb ob q _ _ _=>k b ob q,λb ob q _ _ _=>⟨ob.slots,k b ob q⟩,λ_ _ _ n _=>n,λb ob q _=>⟨ob,k b ob q⟩,λ_ _ q=>q,λ_ _ _ q=>q,λ_ ps q=>⟨#[],by rw[q];simp⟩⟩
theorem Un.refl:Un fs ex H H h h:=Un.kept λ_ _ q=>q
theorem Un.laid(k:∀b u,h.get? b=some u->h'.get? b=some u)(hp:h.objs.size<=a)(hn:H a=none):Un fs ex H (upd H a o) h h' where
 keep:=λb u q _ _ _=>k b u q
 slot:=λb u q _ _ _=>⟨u.slots,k b u q⟩
 free:=λb u q n _=>by rw[A0 (AAe (AAM (Heap.lt_size q) hp))];exact n
 there:=λb u q _=>⟨u,k b u q⟩
 tups:=λb xs q=>by rw[A0 (CF q hn)];exact q
 frzs:=λb u xs q=>by rw[A0 (CF q hn)];exact q
 tbls:=λb ps q=>⟨#[],by rw[A0 (CF q hn),q];simp⟩
theorem Un.write(mu:Mut (H x))(he:e=x∨H e=some (.own x))(k:∀b u,b≠e->h.get? b=some u->h'.get? b=some u)(heo:∃u,h'.get? e=some u):Un fs ex H (upd H x o) h h':=by
 have hx:∀b,H b=none->b≠x:=λb n z=>by subst z;rw[n] at mu;exact mu
 have hb:∀b,H b=none->b≠e:=λb n z=>by
  subst z;rcases he with r|r
  ·exact hx b n r
  ·rw[n] at r;cases r
 have hm:∀b u,H b=some u->¬Mut (some u)->b≠x:=λb u q nm z=>by subst z;rw[q] at mu;exact nm mu
 refine⟨λb u q n _ _=>k b u (hb b n) q,λb u q n _ _=>⟨u.slots,k b u (hb b n) q⟩,λb u q n _=>by rw[A0 (hx b n)];exact n,λb u q _=>?_,
  λb xs q=>by rw[A0 (hm b _ q λz=>z)];exact q,λb u xs q=>by rw[A0 (hm b _ q λz=>z)];exact q,λb ps q=>⟨#[],by rw[A0 (hm b _ q λz=>z),q];simp⟩⟩
 by_cases hbe:b=e
 ·subst hbe;exact heo
 ·exact⟨u,k b u hbe q⟩
end
noncomputable def trk(h:Heap)(H:Hp):List Addr:=(List.range h.objs.size).filter λa=>(H a).isSome
noncomputable def KQ(h:Heap)(H:Hp):Heap:=PySem.W.hideAll h (trk h H)
theorem Ou(h:Heap)(H:Hp):(KQ h H).objs.size=h.objs.size:=PySem.W.hideAll_size _ _
theorem Rb{h:Heap}{H:Hp}{b:Addr}{o:Obj}(e:h.get? b=some o)(n:H b=none):(KQ h H).get? b=some o:=
 PySem.W.hideAll_get _ e λhm=>by
  have q:(H b).isSome=true:=(List.mem_filter.mp hm).2;rw[n] at q;simp at q
theorem T7{h:Heap}{H:Hp}{b:Addr}{o:Obj}(e:(KQ h H).get? b=some o):h.get? b=some o/\H b=none:=by
 have e':h.get? b=some o:=PySem.W.of_hideAll (trk h H) e;refine⟨e',?_⟩;cases q:H b with
 |none=>rfl
 |some x=>
  have hm:b∈trk h H:=List.mem_filter.mpr ⟨List.mem_range.mpr (Heap.lt_size e'),by simp[q]⟩;have z:(KQ h H).get? b=none:=PySem.W.hideAll_none (trk h H) hm;rw[z] at e;cases e
structure Mod(K:PySem.W.Frag)(mg:Str->Option Value)(base:Heap):Prop where
 kin:K.In base
 glob:base.Ns mainGlobals mg
 blt:∃mb,base.Ns builtinsNs mb/\∀x:Str,x ≠ "__name__" -> mb x=bootBuiltins x
 nolimit:base.NoLimit
set_option genInjectivity false in
structure Cx where
 prog:Program
 w:World
 K:PySem.W.Frag
 mg:Str->Option Value
 base:Heap
 A:Around
 N:List Str
 s₀:Shared
 H₀:Hp
 env:Env
 outer:List Env
 stack:List Env
 ex:List Addr
 fn:Str->Bool
 calm:Bool
 pn:List (Addr×Obj)
 xe:Value->Shared->Prop
noncomputable def frs(l:List Env):List Addr:=l.filterMap (·.frame)
noncomputable abbrev Cx.fs(X:Cx):List Addr:=frs X.outer
def Vis(sc:Scope)(x:Str):Prop:=sc.names.lookup x=some .local∨sc.names.lookup x=some .cell∨sc.names.lookup x=some .free
def Loc(sc:Scope)(x:Str):Prop:=sc.names.lookup x=some .local∨sc.names.lookup x=some .cell
def Y8(env:Env)(h:Heap)(m:Str->Option Value)(x:Str)(u:Value):Prop:=
 (env.kindOf x=some .local/\m x=some u)∨((env.kindOf x=some .cell∨env.kindOf x=some .free)/\∃c,env.cells.lookup x=some c/\h.IsCell c (some u))
structure Cx.Ok(X:Cx):Prop where
 mod:Mod X.K X.mg X.base
 kind:X.env.scope.kind=.function
 glob:X.env.globals=mainGlobals
 blt:X.env.builtins=builtinsNs
 above:X.s₀.heap.objs.size<=X.env.locals
 inj:∀x y c,X.env.cells.lookup x=some c->X.env.cells.lookup y=some c->x=y
 has:∀x,(X.env.kindOf x=some .cell∨X.env.kindOf x=some .free)->∃c,X.env.cells.lookup x=some c
 cab:∀x c,X.fn x=true->X.env.cells.lookup x=some c->X.s₀.heap.objs.size<=c
 hd:X.calm=true->X.A.handled=none
 frames:X.A.frames=some X.stack
 stk:X.stack=X.outer∨(X.stack=X.env::X.outer/\X.env.frame=some X.env.locals)
 exf:∀b∈X.ex,b≠X.env.locals/\∀x c,X.env.cells.lookup x=some c->c≠b
 bs:∀b o,X.base.get? b=some o->X.s₀.heap.get? b=some o/\X.H₀ b=none
 bsz:X.base.objs.size<=X.s₀.heap.objs.size
 noex:∀b o,X.base.get? b=some o->b∉X.ex
 exfs:∀b∈X.ex,b∉X.fs
 funs:X.s₀.heap.FunFrames X.base X.outer
 frf:∀b∈X.fs,X.H₀ b=none
structure Inv(X:Cx)(w4:List (Addr×Obj))(O:List (Option V))(H:Hp)(s:Shared):Prop where
 ok:X.Ok
 os:s.os=X.s₀.os
 bare:AllBare s.gens
 base:Un X.fs X.ex X.H₀ H X.s₀.heap s.heap
 loc:∃m,s.heap.Ns X.env.locals m/\∀(i:Nat) (x:Str) (v:V),X.N[i]?=some x->O[i]?=some (some v)->Vis X.env.scope x->∃u,RelV v u/\Y8 X.env s.heap m x u
 cell:∀x c,X.env.cells.lookup x=some c->∃v,s.heap.IsCell c v
 free:H X.env.locals=none
 freeC:∀x c,X.env.cells.lookup x=some c->H c=none
 pin:∀p∈X.pn++w4,s.heap.get? p.1=some p.2/\H p.1=none/\p.1≠X.env.locals/\p.1∉X.fs/\∀v,p.2.data≠.cell v
 hok:HOk X.prog X.w H s.heap
 len:O.length=X.N.length
section
variable{X:Cx}{w4:List (Addr×Obj)}{O:List (Option V)}{H H':Hp}{s:Shared}{h':Heap}
theorem Cx.Ok.nofr(ok:X.Ok){b:Addr}{o:Obj}(e:X.base.get? b=some o):b∉X.fs:=λhb=>by
 have:=(ok.funs.mem hb).1;rw[e] at this;cases this
theorem Inv.bs(I:Inv X w4 O H s):∀b o,X.base.get? b=some o->s.heap.get? b=some o/\H b=none:=λb o e=>
 ⟨I.base.keep b o (I.ok.bs b o e).1 (I.ok.bs b o e).2 (I.ok.nofr e) (I.ok.noex b o e),I.base.free b o (I.ok.bs b o e).1 (I.ok.bs b o e).2 (I.ok.noex b o e)⟩
theorem Inv.bk(I:Inv X w4 O H s):∀b o,X.base.get? b=some o->s.heap.get? b=some o:=λb o e=>(I.bs b o e).1
theorem Inv.mod(I:Inv X w4 O H s):Mod X.K X.mg X.base:=I.ok.mod
theorem Inv.kIn(I:Inv X w4 O H s):X.K.In s.heap:=I.ok.mod.kin.keeps I.bk
theorem Inv.lt(I:Inv X w4 O H s):X.env.locals<s.heap.objs.size:=let ⟨_,hn,_⟩:=I.loc;hn.lt
theorem Inv.sz(I:Inv X w4 O H s):X.s₀.heap.objs.size<=s.heap.objs.size:=AAt I.ok.above (Nat.le_of_lt I.lt)
theorem Inv.nofs(I:Inv X w4 O H s){a:Addr}(h:s.heap.objs.size<=a):a∉X.fs:=λhb=>by
 obtain⟨_,o,ho,_⟩:=I.ok.funs.mem hb;exact absurd (AAM (Heap.lt_size ho) (AAt I.sz h)) (AAy _)
theorem Inv.cne(I:Inv X w4 O H s):∀x c,X.env.cells.lookup x=some c->c≠X.env.locals:=λx c e z=>by
 obtain⟨v,o,ho,hd⟩:=I.cell x c e;obtain⟨m,⟨o',es,ep,ho',hd',_⟩,_⟩:=I.loc;rw[z,ho'] at ho;cases ho;rw[hd'] at hd;cases hd
theorem Inv.funs(I:Inv X w4 O H s):s.heap.FunFrames X.base X.outer:=by
 have all:∀(l:List Env),(∀b∈frs l,b∈X.fs)->X.s₀.heap.FunFrames X.base l->s.heap.FunFrames X.base l:=by
  intro l
  induction l with
  |nil=>intro _ _;trivial
  |cons env r ih=>
   intro hs hl;obtain⟨hk,⟨L,o,hf,hn,ho,hd⟩,hr⟩:=hl;have hL:L∈X.fs:=hs L (by unfold frs;rw[List.filterMap_cons,hf];exact AAP);obtain⟨sl,e⟩:=I.base.slot L o ho (I.ok.frf L hL) hL λz=>I.ok.exfs L z hL;exact⟨hk,⟨L,_,hf,hn,e,hd⟩,ih (λb hb=>hs b (by unfold frs;rw[List.filterMap_cons,hf];exact AAQ _ hb)) hr⟩
 exact all X.outer (λ_ hb=>hb) I.ok.funs
theorem Inv.stack(I:Inv X w4 O H s):s.heap.FunFrames X.base X.stack:=by
 rcases I.ok.stk with e|⟨e,hf⟩
 ·rw[e];exact I.funs
 ·rw[e];obtain⟨m,hn,_⟩:=I.loc;refine .cons (by rw[I.ok.kind];decide) hf hn ?_ I.funs;exact Heap.get?_none_of_le (AAt I.ok.bsz I.ok.above)
theorem Inv.stkSub(I:Inv X w4 O H s):∀b∈frs X.stack,b∈X.env.locals::X.fs:=λb hb=>by
 rcases I.ok.stk with e|⟨e,hf⟩
 ·rw[e] at hb;exact AAQ _ hb
 ·rw[e] at hb;unfold frs at hb;rw[List.filterMap_cons,hf] at hb;exact hb
theorem Inv.stkFree(I:Inv X w4 O H s):∀b∈frs X.stack,H b=none:=λb hb=>by
 rcases AAI.mp (I.stkSub b hb) with e|hb
 ·rw[e];exact I.free
 ·obtain⟨_,o,ho,_⟩:=I.ok.funs.mem hb;exact I.base.free b o ho (I.ok.frf b hb) λz=>I.ok.exfs b z hb
theorem Inv.step{g':Array GenState}{t':Nat}{d':Drawn}{ch:List Addr}(I:Inv X w4 O H s)
  (hch:∀b∈ch,(b∈X.ex∨X.s₀.heap.objs.size<=b)/\b≠X.env.locals/\(∀x c,X.env.cells.lookup x=some c->c≠b)/\∀p∈X.pn++w4,p.1≠b)
  (keep:∀b o,b≠X.env.locals->b∉X.fs->b∉ch->s.heap.get? b=some o->H b=none->h'.get? b=some o)
  (slot:∀b o,b≠X.env.locals->b∈X.fs->b∉ch->s.heap.get? b=some o->H b=none->∃sl,h'.get? b=some { o with slots:=sl }) (free:∀b o,b∉ch->s.heap.get? b=some o->H b=none->H' b=none)
  (there:∀b o,b∉ch->s.heap.get? b=some o->∃o',h'.get? b=some o')
  (tups:∀b xs,H b=some (.tup xs)->H' b=some (.tup xs)) (frzs:∀b o u,H b=some (.frz o u)->H' b=some (.frz o u)) (tbls:∀b ps,H b=some (.tbl ps)->∃more,H' b=some (.tbl (ps++more)))
  (ns:∀m,s.heap.Ns X.env.locals m->h'.Ns X.env.locals m) (hok:HOk X.prog X.w H' h') (hg:AllBare g') :
  Inv X w4 O H' { s with heap:=h',gens:=g',drawn:=d',toks:=t' }:=by
 have neL:∀b o,X.s₀.heap.get? b=some o->b≠X.env.locals:=λb o e=>AAe (AAM (Heap.lt_size e) I.ok.above);have neC:∀b o,X.s₀.heap.get? b=some o->b∉X.ex->b∉ch:=λb o e hx hb=>by
  rcases(hch b hb).1 with z|z
  ·exact hx z
  ·exact absurd (AAM (Heap.lt_size e) z) (AAy _)
 have cellK:∀x c,X.env.cells.lookup x=some c->∀v,s.heap.IsCell c v->h'.IsCell c v:=λx c e v ⟨o,ho,hd⟩=>by
  have nch:c∉ch:=λz=>(hch c z).2.2.1 x c e rfl;by_cases hc:c∈X.fs
  ·obtain⟨sl,q⟩:=slot c o (I.cne x c e) hc nch ho (I.freeC x c e);exact⟨_,q,hd⟩
  ·exact⟨o,keep c o (I.cne x c e) hc nch ho (I.freeC x c e),hd⟩
 refine⟨I.ok,I.os,hg,⟨λb o e n hb hx=>?_,λb o e n hb hx=>?_,λb o e n hx=>?_,λb o e hx=>?_,λb xs e=>tups b xs (I.base.tups b xs e),λb o xs e=>frzs b o xs (I.base.frzs b o xs e),λb ps e=>?_⟩,?_,λx c e=>?_,?_,λx c e=>?_,λp hp=>?_,hok,I.len⟩
 ·exact keep b o (neL b o e) hb (neC b o e hx) (I.base.keep b o e n hb hx) (I.base.free b o e n hx)
 ·obtain⟨sl,e1⟩:=I.base.slot b o e n hb hx;obtain⟨sl',e2⟩:=slot b _ (neL b o e) hb (neC b o e hx) e1 (I.base.free b o e n hx);exact⟨sl',e2⟩
 ·obtain⟨o',e1⟩:=I.base.there b o e hx;exact free b o' (neC b o e hx) e1 (I.base.free b o e n hx)
 ·obtain⟨o',e1⟩:=I.base.there b o e hx;exact there b o' (neC b o e hx) e1
 ·obtain⟨m1,e1⟩:=I.base.tbls b ps e;obtain⟨m2,e2⟩:=tbls b _ e1;exact⟨m1++m2,by rw[e2,Array.append_assoc]⟩
 ·obtain⟨m,hn,hl⟩:=I.loc;refine⟨m,ns m hn,λi x v e1 e2 e3=>?_⟩;obtain⟨u,r,l⟩:=hl i x v e1 e2 e3;refine⟨u,r,?_⟩;rcases l with l|⟨k,c,e,z⟩
  ·exact .inl l
  ·exact .inr ⟨k,c,e,cellK x c e _ z⟩
 ·obtain⟨v,z⟩:=I.cell x c e;exact⟨v,cellK x c e v z⟩
 ·obtain⟨m,⟨o,_,_,ho,_⟩,_⟩:=I.loc;exact free _ o (λz=>(hch _ z).2.1 rfl) ho I.free
 ·obtain⟨v,o,ho,hd⟩:=I.cell x c e;exact free c o (λz=>(hch c z).2.2.1 x c e rfl) ho (I.freeC x c e)
 ·obtain⟨e,n,ne,nf,d⟩:=I.pin p hp;have nch:p.1∉ch:=λz=>(hch p.1 z).2.2.2 p hp rfl;exact⟨keep p.1 p.2 ne nf nch e n,free p.1 p.2 nch e n,ne,nf,d⟩
theorem Inv.un{t':Nat}(I:Inv X w4 O H s)(u:Un X.fs [] H H' s.heap h')(hok:HOk X.prog X.w H' h'):Inv X w4 O H' { s with heap:=h',toks:=t' }:=by
 obtain⟨m,⟨o,es,ep,ho,r⟩,_⟩:=id I.loc;obtain⟨sl,hL⟩:=u.any ho I.free (by simp);exact I.step (g':=s.gens) (d':=s.drawn) (ch:=[]) (λ_ z=>nomatch z) (λb o _ hb _ e n=>u.keep b o e n hb (by simp)) (λb o _ hb _ e n=>u.slot b o e n hb (by simp)) (λb o _ e n=>u.free b o e n (by simp)) (λb o _ e=>u.there b o e (by simp)) u.tups u.frzs u.tbls (λm' hm=>by
  obtain⟨o',es',ep',ho',r'⟩:=hm;rw[ho] at ho';cases ho';exact⟨_,es',ep',hL,r'⟩) hok I.bare
theorem Inv.call{g':Array GenState}{t':Nat}{d':Drawn}{ch:List Addr}(I:Inv X w4 O H s)(u:Un (frs X.stack) ch H H' s.heap h')(hok:HOk X.prog X.w H' h')(hg:AllBare g')
  (hch:∀b∈ch,(b∈X.ex∨X.s₀.heap.objs.size<=b)/\b≠X.env.locals/\(∀x c,X.env.cells.lookup x=some c->c≠b)/\∀p∈X.pn++w4,p.1≠b) :
  Inv X w4 O H' { s with heap:=h',gens:=g',drawn:=d',toks:=t' }:=by
 obtain⟨m,⟨o,es,ep,ho,r⟩,_⟩:=id I.loc;obtain⟨sl,hL⟩:=u.any ho I.free λz=>(hch _ z).2.1 rfl;exact I.step (ch:=ch) hch (λb o hL hb hc e n=>u.keep b o e n (λz=>(AAI.mp (I.stkSub b z)).elim hL hb) hc) (λb o _ _ hc e n=>u.any e n hc) (λb o hc e n=>u.free b o e n hc) (λb o hc e=>u.there b o e hc) u.tups u.frzs u.tbls (λm' hm=>by
  obtain⟨o',es',ep',ho',r'⟩:=hm;rw[ho] at ho';cases ho';exact⟨_,es',ep',hL,r'⟩) hok hg
theorem Inv.turned{t':Nat}{it:Addr}(I:Inv X w4 O H s)(k:∀b o,b≠it->s.heap.get? b=some o->h'.get? b=some o)(hn:H it=none)(hL:it≠X.env.locals)
  (h1:it∈X.ex∨X.s₀.heap.objs.size<=it) (h2:∀x c,X.env.cells.lookup x=some c->c≠it) (h3:∀p∈X.pn++w4,p.1≠it):Inv X w4 O H { s with heap:=h',toks:=t' }:=by
 have nit:∀b u,H b=some u->b≠it:=λb u e z=>by rw[z,hn] at e;cases e
 refine I.step (g':=s.gens) (d':=s.drawn) (ch:=[it]) (λb hb=>?_) (λb o _ _ hc e _=>k b o (λz=>hc (by simp[z])) e) (λb o _ _ hc e _=>⟨o.slots,k b o (λz=>hc (by simp[z])) e⟩) (λ_ _ _ _ n=>n)
  (λb o hc e=>⟨o,k b o (λz=>hc (by simp[z])) e⟩) (λ_ _ e=>e) (λ_ _ _ e=>e) (λb ps e=>⟨#[],by rw[e];simp⟩) (λm hm=>?_) (λb u e=>?_) I.bare
 ·have e:b=it:=by simpa using hb
  subst e;exact⟨h1,hL,h2,h3⟩
 ·obtain⟨o,es,ep,ho,r⟩:=hm;exact⟨o,es,ep,k _ o (Ne.symm hL) ho,r⟩
 ·refine(I.hok b u e).stay (λc v hc q=>k c v ?_ q) (λ_ q=>q) λ_ _ q=>q;rcases hc with z|z
  ·rw[z];exact nit b u e
  ·exact nit c _ z
theorem Inv.tok(I:Inv X w4 O H s)(t:Nat):Inv X w4 O H { s with toks:=t }:=I.un (h':=s.heap) (t':=t) Un.refl I.hok
theorem Inv.kept{t':Nat}(I:Inv X w4 O H s)(k:∀b u,s.heap.get? b=some u->h'.get? b=some u):Inv X w4 O H { s with heap:=h',toks:=t' }:=I.un (Un.kept k) (I.hok.kept k)
theorem Inv.laid{a:Addr}{o:HO}{t':Nat}(I:Inv X w4 O H s)(k:∀b u,s.heap.get? b=some u->h'.get? b=some u)(hp:s.heap.objs.size<=a)(new:ObjOk X.prog X.w (upd H a o) h' a o):
  Inv X w4 O (upd H a o) { s with heap:=h',toks:=t' }:=I.un (Un.laid k hp (I.hok.fresh hp)) (I.hok.laid k hp new)
theorem Inv.write{x e:Addr}{o:HO}{t':Nat}(I:Inv X w4 O H s)(mu:Mut (H x))(he:e=x∨H e=some (.own x))(k:∀b u,b≠e->s.heap.get? b=some u->h'.get? b=some u)(heo:∃u,h'.get? e=some u)
  (new:ObjOk X.prog X.w (upd H x o) h' x o):Inv X w4 O (upd H x o) { s with heap:=h',toks:=t' }:=I.un (Un.write mu he k heo) (I.hok.write mu he k heo new)
theorem Inv.weak{O':List (Option V)}(I:Inv X w4 O H s)(hl:O'.length=O.length)(w:∀(i:Nat) v,O'[i]?=some (some v)->O[i]?=some (some v)):Inv X w4 O' H s:=
 ⟨I.ok,I.os,I.bare,I.base,let ⟨m,hn,hl'⟩:=I.loc;⟨m,hn,λi x v e1 e2 e3=>hl' i x v e1 (w i v e2) e3⟩,I.cell,I.free,I.freeC,I.pin,I.hok,hl.trans I.len⟩
theorem Inv.pins_of{pins':List (Addr×Obj)}(I:Inv X w4 O H s)(h:∀p∈pins',s.heap.get? p.1=some p.2/\H p.1=none/\p.1≠X.env.locals/\p.1∉X.fs/\∀v,p.2.data≠.cell v):Inv X pins' O H s:=
 ⟨I.ok,I.os,I.bare,I.base,I.loc,I.cell,I.free,I.freeC,λp hp=>(AAJ.mp hp).elim (λz=>I.pin p (AAc _ z)) (h p),I.hok,I.len⟩
theorem LP{N:List Str}(hN:N.Nodup){i j:Nat}{x:Str}(a:N[i]?=some x)(b:N[j]?=some x):i=j:=by
 obtain⟨h1,e1⟩:=AAT.mp a;obtain⟨h2,e2⟩:=AAT.mp b;exact(List.getElem_inj hN).mp (e1.trans e2.symm)
theorem Il{M:Model}{A:Around}{E:Value->Shared->Prop}{i:Nat}{x:Str}{v:V}{u:Value}{Q:Unit->Shared->Prop}(I:Inv X w4 O H s)(hN:X.N.Nodup)(hi:X.N[i]?=some x)(hx:Loc X.env.scope x)(r:RelV v u)
  (h:∀s',Inv X w4 (O.set i (some v)) H s'->(∃a,Heap.SameBut a s.heap s'.heap/\(a=X.env.locals∨X.env.cells.lookup x=some a))->Q () s') (hf:X.fn x=true∨X.env.scope.names.lookup x=some .local:=by first|exact .inl rfl|exact .inr rfl|assumption):wpAny M A (storeName X.env x u) Q E s:=by
 obtain⟨m,hn,hl⟩:=id I.loc;have hcls:(X.env.scope.kind==.class||(X.env.scope.kind==.module&&X.env.locals != X.env.globals))=false:=by rw[I.ok.kind];rfl
 have hiσ:i<O.length:=by rw[I.len];exact(AAT.mp hi).1
 have cne:=I.cne;have tracked:∀{a:Addr} {h':Heap},(∃o,s.heap.get? a=some o/\H a=none)->Heap.SameBut a s.heap h'->HOk X.prog X.w H h':=λ{a h'} ha hs b ob e=>by
  obtain⟨_,_,hfree⟩:=ha;refine(I.hok b ob e).stay (λc w' hc q=>(hs.2 c ?_).trans q) (λ_ q=>q) λ_ _ q=>q;rintro rfl;rcases hc with rfl|hc
  ·rw[hfree] at e;cases e
  ·rw[hfree] at hc;cases hc
 rcases hx with hk|hk
 ·refine wpAny_storeName_local hk hn (λh' hn' hs=>?_) hcls;obtain⟨oL,_,_,hoL,_⟩:=id hn;refine h _ ⟨I.ok,I.os,I.bare,⟨λb o e n hb hx=>?_,λb o e n hb hx=>?_,I.base.free,λb o e hx=>?_,I.base.tups,I.base.frzs,I.base.tbls⟩,⟨_,hn',λj y v' e1 e2 e3=>?_⟩,λy c e=>?_,I.free,I.freeC,λp hp=>?_,tracked ⟨oL,hoL,I.free⟩ hs,by simpa using I.len⟩ ⟨_,hs,.inl rfl⟩
  ·exact(hs.2 b (AAe (AAM (Heap.lt_size e) I.ok.above))).trans (I.base.keep b o e n hb hx)
  ·obtain⟨sl,e1⟩:=I.base.slot b o e n hb hx;exact⟨sl,(hs.2 b (AAe (AAM (Heap.lt_size e) I.ok.above))).trans e1⟩
  ·obtain⟨o',e1⟩:=I.base.there b o e hx;exact⟨o',(hs.2 b (AAe (AAM (Heap.lt_size e) I.ok.above))).trans e1⟩
  ·by_cases hj:j=i
   ·subst hj;rw[hi] at e1;cases e1;rw[List.getElem?_set_self hiσ] at e2;cases e2;exact⟨u,r,.inl ⟨hk,by simp⟩⟩
   ·rw[AAp (Ne.symm hj)] at e2;obtain⟨u',r',q⟩:=hl j y v' e1 e2 e3;refine⟨u',r',?_⟩;rcases q with ⟨k,e⟩|⟨k,c,e,z⟩
    ·refine .inl ⟨k,?_⟩;have:y≠x:=λe=>hj (LP hN e1 (e ▸ hi));simp[this,e]
    ·exact .inr ⟨k,c,e,z.sameBut hs (cne y c e)⟩
  ·obtain⟨w',z⟩:=I.cell y c e;exact⟨w',z.sameBut hs (cne y c e)⟩
  ·obtain⟨e,n,ne,nf,d⟩:=I.pin p hp;exact⟨(hs.2 p.1 ne).trans e,n,ne,nf,d⟩
 ·have hfn:X.fn x=true:=by
   rcases hf with z|z
   ·exact z
   ·rw[z] at hk;cases hk
  obtain⟨c,hc⟩:=I.ok.has x (.inl hk);obtain⟨w',z⟩:=I.cell x c hc;refine wpAny_storeName_cell I.ok.kind hk hc z (λh' hc' hs=>?_);obtain⟨oc,hoc,hocd⟩:=id z;refine h { s with heap:=h' } ⟨I.ok,I.os,I.bare,⟨λb o e n hb hx=>?_,λb o e n hb hx=>?_,I.base.free,λb o e hx=>?_,I.base.tups,I.base.frzs,I.base.tbls⟩,⟨m,hn.sameBut hs (Ne.symm (cne x c hc)),λj y v' e1 e2 e3=>?_⟩,λy c' e=>?_,I.free,I.freeC,λp hp=>?_,tracked ⟨oc,hoc,I.freeC x c hc⟩ hs,by simpa using I.len⟩ ⟨c,hs,.inr hc⟩
  ·exact(hs.2 b (AAe (AAM (Heap.lt_size e) (I.ok.cab x c hfn hc)))).trans (I.base.keep b o e n hb hx)
  ·obtain⟨sl,e1⟩:=I.base.slot b o e n hb hx;exact⟨sl,(hs.2 b (AAe (AAM (Heap.lt_size e) (I.ok.cab x c hfn hc)))).trans e1⟩
  ·obtain⟨o',e1⟩:=I.base.there b o e hx;exact⟨o',(hs.2 b (AAe (AAM (Heap.lt_size e) (I.ok.cab x c hfn hc)))).trans e1⟩
  ·by_cases hj:j=i
   ·subst hj;rw[hi] at e1;cases e1;rw[List.getElem?_set_self hiσ] at e2;cases e2;exact⟨u,r,.inr ⟨.inl hk,c,hc,hc'⟩⟩
   ·rw[AAp (Ne.symm hj)] at e2;obtain⟨u',r',q⟩:=hl j y v' e1 e2 e3;refine⟨u',r',?_⟩;rcases q with q|⟨k,c',e,z'⟩
    ·exact .inl q
    ·refine .inr ⟨k,c',e,z'.sameBut hs ?_⟩;rintro rfl;exact hj (LP hN e1 (I.ok.inj _ _ _ e hc ▸ hi))
  ·by_cases hcc:c'=c
   ·subst hcc;exact⟨_,hc'⟩
   ·obtain⟨w2,z2⟩:=I.cell y c' e;exact⟨w2,z2.sameBut hs hcc⟩
  ·obtain⟨e,n,ne,nf,d⟩:=I.pin p hp;refine⟨(hs.2 p.1 ?_).trans e,n,ne,nf,d⟩;intro q;rw[q,hoc] at e;have q':oc=p.2:=Option.some.inj e;exact d w' (by rw[←q'];exact hocd)
theorem HG{M:Model}{A:Around}{E:Value->Shared->Prop}{i:Nat}{x:Str}{v:V}{u:Value}{Q:Unit->Shared->Prop}(I:Inv X w4 O H s)(hN:X.N.Nodup)(hi:X.N[i]?=some x)(hx:Loc X.env.scope x)(r:RelV v u)
  (h:∀s',Inv X w4 (O.set i (some v)) H s'->Q () s') (hf:X.fn x=true∨X.env.scope.names.lookup x=some .local:=by first|exact .inl rfl|exact .inr rfl|assumption):wpAny M A (storeName X.env x u) Q E s:=
 Il I hN hi hx r (λs' I' _=>h s' I') hf
theorem Inv.call'{s':Shared}{ch:List Addr}(I:Inv X w4 O H s)(ho:s'.os=s.os)(u:Un (frs X.stack) ch H H' s.heap s'.heap)(hok:HOk X.prog X.w H' s'.heap)(hg:AllBare s'.gens)
  (hch:∀b∈ch,(b∈X.ex∨X.s₀.heap.objs.size<=b)/\b≠X.env.locals/\(∀x c,X.env.cells.lookup x=some c->c≠b)/\∀p∈X.pn++w4,p.1≠b):Inv X w4 O H' s':=by
 obtain⟨h',g',d',t',o'⟩:=s';have e:o'=s.os:=ho;subst e;exact I.call (g':=g') (t':=t') (d':=d') u hok hg hch
end
noncomputable abbrev XK:=Value->Option Addr->Hp->Prop
abbrev St:=List (Option V)
noncomputable abbrev VK:=V->Hp->Prop
noncomputable abbrev TE:=St->Hp->VK->Prop
noncomputable abbrev TT:=St->Hp->(Bool->Hp->Prop)->Prop
noncomputable abbrev TA:=St->Hp->(List V->Hp->Prop)->Prop
structure M9 where
 nx:St->Hp->Prop
 rt:VK
 bk:St->Hp->Prop:=λ_ _=>False
 ct:St->Hp->Prop:=λ_ _=>False
noncomputable abbrev TS:=M9->St->Hp->Prop
def EP(X:Cx)(w4:List (Addr×Obj))(O:St)(Q:VK)(u:Value)(s':Shared):Prop:=∃v H',Inv X w4 O H' s'/\RelV v u/\Q v H'
def TP(X:Cx)(w4:List (Addr×Obj))(O:St)(Q:Bool->Hp->Prop)(b:Bool)(s':Shared):Prop:=∃H',Inv X w4 O H' s'/\Q b H'
def AP(X:Cx)(w4:List (Addr×Obj))(O:St)(Q:List V->Hp->Prop)(us:List Value)(s':Shared):Prop:=∃vs H',Inv X w4 O H' s'/\Vals vs us/\Q vs H'
def SP(X:Cx)(w4:List (Addr×Obj))(D:M9)(f:Flow)(s':Shared):Prop:=
 match f with
 | .next=>∃O' H',Inv X w4 O' H' s'/\D.nx O' H'
 | .brk=>∃O' H',Inv X w4 O' H' s'/\D.bk O' H'
 | .cont=>∃O' H',Inv X w4 O' H' s'/\D.ct O' H'
 | .ret u=>∃v O' H',Inv X w4 O' H' s'/\RelV v u/\D.rt v H'
def PE(X:Cx)(e:Expr)(t:TE):Prop:=
 ∀(w4:List (Addr×Obj)) (s:Shared) (O:St) (H:Hp) (Q:VK),Inv X w4 O H s->t O H Q->wpAny (model X.prog X.w) X.A (eval e X.env) (EP X w4 O Q) X.xe s
def PT(X:Cx)(e:Expr)(t:TT):Prop:=
 ∀(w4:List (Addr×Obj)) (s:Shared) (O:St) (H:Hp) (Q:Bool->Hp->Prop),Inv X w4 O H s->t O H Q->wpAny (model X.prog X.w) X.A (isTrue e X.env (eval e X.env)) (TP X w4 O Q) X.xe s
def PW(X:Cx)(e:Expr)(t:TT):Prop:=
 ∀(whole:Sem Value) (w4:List (Addr×Obj)) (s:Shared) (O:St) (H:Hp) (Q:Bool->Hp->Prop),Inv X w4 O H s->t O H Q->wpAny (model X.prog X.w) X.A (isTrue e X.env whole) (TP X w4 O Q) X.xe s
theorem PW.pt{X:Cx}{e:Expr}{t:TT}(h:PW X e t):PT X e t:=h _
def PA(X:Cx)(es:List Expr)(t:TA):Prop:=
 ∀(pos:Pos) (w4:List (Addr×Obj)) (s:Shared) (O:St) (H:Hp) (Q:List V->Hp->Prop),Inv X w4 O H s->t O H Q->wpAny (model X.prog X.w) X.A (spliced (backTo pos (starEach es X.env))) (AP X w4 O Q) X.xe s
def PS(X:Cx)(st:Stmt)(t:TS):Prop:=
 ∀(w4:List (Addr×Obj)) (s:Shared) (O:St) (H:Hp) (D:M9),Inv X w4 O H s->t D O H->wpAny (model X.prog X.w) X.A (exec st X.env) (SP X w4 D) X.xe s
def PSs(X:Cx)(st:List Stmt)(t:TS):Prop:=
 ∀(w4:List (Addr×Obj)) (s:Shared) (O:St) (H:Hp) (D:M9),Inv X w4 O H s->t D O H->wpAny (model X.prog X.w) X.A (execs st X.env) (SP X w4 D) X.xe s
theorem thn{α:Type}{t:Sem α}{Q Q':α->Shared->Prop}{M:Model}{A:Around}{E:Value->Shared->Prop}{s:Shared}(h:wpAny M A t Q E s)(hQ:∀a s,Q a s->Q' a s):wpAny M A t Q' E s:=AAk h hQ λ_ _ x=>x
section
variable{X:Cx}
noncomputable def YR(i:Nat):TE:=λO H Q=>∃v,O[i]?=some (some v)/\Q v H
noncomputable def tC(v:V):TE:=λ_ H Q=>Q v H
theorem Vt{i:Nat}{x:Str}{pos:Pos}(hN:X.N[i]?=some x)(hv:Vis X.env.scope x)(hd:(x==("__debug__" : Str))=false:=by decide)(hcd:(x==("__classdict__" : Str))=false:=by decide):PE X (.Name x pos) (YR i):=by
 intro w4 s O H Q I h;obtain⟨v,e,h⟩:=h;obtain⟨m,hn,hl⟩:=I.loc;obtain⟨u,r,l⟩:=hl i x v hN e hv;have fin:EP X w4 O Q u s:=⟨v,H,I,r,h⟩;rcases l with ⟨hk,hm⟩|⟨hk,c,hc,hcell⟩
 ·exact wpAny_Name (wpAny_loadName_local I.ok.kind hk hn hm fin) hd
 ·rcases hk with hk|hk
  ·exact wpAny_Name (wpAny_loadName_cell I.ok.kind hk hc hcell fin) hd
  ·exact wpAny_Name (wpAny_loadName_free I.ok.kind hk hc hcell fin hcd) hd
theorem Vz{i j pos}:PE X (.Constant (.int i) j pos) (tC (.int i)):=λ_ _ _ H _ I h=>wpAny_Constant_int ⟨.int i,H,I.tok _,⟨_,rfl⟩,h⟩
theorem Xg{b j pos}:PE X (.Constant (.bool b) j pos) (tC (.bl b)):=λ_ _ _ H _ I h=>Constant_bool ⟨.bl b,H,I,rfl,h⟩
theorem Vy{j pos}:PE X (.Constant .none j pos) (tC .non):=λ_ _ _ H _ I h=>Constant_none ⟨.non,H,I,rfl,h⟩
theorem Vv{x j pos}:PE X (.Constant (.str x) j pos) (tC (.str x)):=λ_ _ _ H _ I h=>Calls.Constant_str ⟨.str x,H,I.tok _,⟨_,rfl⟩,h⟩
def Gl(X:Cx)(x:Str):Prop:=X.env.kindOf x=some .globalImplicit
theorem Nd{E:Value->Shared->Prop}{w4:List (Addr×Obj)}{s:Shared}{O:St}{H:Hp}{x:Str}{u:Value}{pos:Pos}{Q:Value->Shared->Prop}(I:Inv X w4 O H s)(hg:Gl X x)(hm:X.mg x=some u)(h:Q u s)
  (hd:(x==("__debug__" : Str))=false:=by decide):wpAny (model X.prog X.w) X.A (eval (.Name x pos) X.env) Q E s:=
 Calls.Name_function_global I.ok.kind hg (Calls.loadGlobal_global (by rw[I.ok.glob];exact I.mod.glob.keeps I.bk) hm h) hd
theorem GP{E:Value->Shared->Prop}{w4:List (Addr×Obj)}{s:Shared}{O:St}{H:Hp}{x:Str}{u:Value}{pos:Pos}{Q:Value->Shared->Prop}(I:Inv X w4 O H s)(hg:Gl X x)(hm:X.mg x=none)(hv:bootBuiltins x=some u)(h:Q u s)
  (hn:x ≠ "__name__" := by decide) (hd:(x==("__debug__" : Str))=false:=by decide):wpAny (model X.prog X.w) X.A (eval (.Name x pos) X.env) Q E s:=by
 obtain⟨mb,h1,h2⟩:=I.mod.blt;exact Calls.Name_function_global I.ok.kind hg (Calls.loadGlobal_builtin (by rw[I.ok.glob];exact I.mod.glob.keeps I.bk) hm (by rw[I.ok.blt];exact h1.keeps I.bk) ((h2 x hn).trans hv) h) hd
theorem Tv{x:Str}{v:V}{u:Value}{pos:Pos}(hg:Gl X x)(hm:X.mg x=some u)(r:RelV v u)(hd:(x==("__debug__" : Str))=false:=by decide):PE X (.Name x pos) (tC v):=
 λ_ _ _ H _ I h=>Nd I hg hm ⟨v,H,I,r,h⟩ hd
theorem Tz{x:Str}{v:V}{u:Value}{pos:Pos}(hg:Gl X x)(hm:X.mg x=none)(hv:bootBuiltins x=some u)(r:RelV v u)(hn:x ≠ "__name__" := by decide)(hd:(x==("__debug__" : Str))=false:=by decide):PE X (.Name x pos) (tC v):=
 λ_ _ _ H _ I h=>GP I hg hm hv ⟨v,H,I,r,h⟩ hn hd
variable{a b:Expr}{ta tb:TE}{pos:Pos}
def PC(X:Cx)(op:CmpOp)(a b:Expr)(t:TE):Prop:=
 ∀(w4:List (Addr×Obj)) (s:Shared) (O:St) (H:Hp) (Q:VK),Inv X w4 O H s->t O H Q->
  wpAny (model X.prog X.w) X.A (eval a X.env) (λv s₁=>wpAny (model X.prog X.w) X.A (eval b X.env) (λu s₂=>wpAny (model X.prog X.w) X.A (compareOp op v u) (EP X w4 O Q) X.xe s₂) X.xe s₁) X.xe s
noncomputable def tB(t:TE):TT:=λO H Q=>t O H λx H1=>∃c,x=.bl c/\Q c H1
theorem V0{op:CmpOp}{t:TE}(h:PC X op a b t)(h1:behindInMarks op b=false:=by first|exact nobehind _ (by decide) (by decide)|rfl):PE X (.Compare a [op] [b] pos) t:=λw4 s O H Q I hw=>wpAny_Compare1 (h w4 s O H Q I hw) h1
theorem Vm{e:Expr}{t:TE}(h:PE X e t)(he:∀whole,isTrue e X.env whole=(do let v ←whole;standAt e.pos;holding [v] (truthy v)):=by intro _;rfl):PT X e (tB t):=by
 intro w4 s O H Q I hw;refine isTrue_plain (thn (h w4 s O H _ I hw) λv s1 ⟨x,H1,I1,r1,q1⟩=>?_) (he _);obtain⟨d,rfl,q⟩:=q1;cases r1;exact wpAny_truthy_bool ⟨H1,I1,q⟩
variable{tA tB':TT}{rest:List Expr}
noncomputable def Yb(t u:TT):TT:=λO H Q=>t O H λc H1=>if c=true then u O H1 Q else Q false H1
noncomputable def tOr(t u:TT):TT:=λO H Q=>t O H λc H1=>if c=true then Q true H1 else u O H1 Q
noncomputable def YV(t:TT):TT:=λO H Q=>t O H λc H1=>Q (!c) H1
theorem Tj(ha:PT X a tA):PW X (.BoolOp .And [a] pos) tA:=by
 intro wh w4 s O H Q I h;refine isTrue_and (thn (ha w4 s O H Q I h) λc s1 e=>?_);cases c with
 |true=>exact isTrue_and_nil e
 |false=>exact e
theorem Vk(ha:PT X a tA):PW X (.BoolOp .Or [a] pos) tA:=by
 intro wh w4 s O H Q I h;refine isTrue_or (thn (ha w4 s O H Q I h) λc s1 e=>?_);cases c with
 |false=>exact isTrue_or_nil e
 |true=>exact e
theorem Vl(ha:PT X a tA)(hb:PW X (.BoolOp .And (b::rest) pos) tB'):PW X (.BoolOp .And (a::b::rest) pos) (Yb tA tB'):=by
 intro wh w4 s O H Q I h;refine isTrue_and (thn (ha w4 s O H _ I h) λc s1 ⟨H1,I1,q1⟩=>?_);cases c with
 |true=>exact hb wh w4 s1 O H1 Q I1 q1
 |false=>exact⟨H1,I1,q1⟩
theorem XY(ha:PT X a tA)(hb:PW X (.BoolOp .Or (b::rest) pos) tB'):PW X (.BoolOp .Or (a::b::rest) pos) (tOr tA tB'):=by
 intro wh w4 s O H Q I h;refine isTrue_or (thn (ha w4 s O H _ I h) λc s1 ⟨H1,I1,q1⟩=>?_);cases c with
 |true=>exact⟨H1,I1,q1⟩
 |false=>exact hb wh w4 s1 O H1 Q I1 q1
theorem Vn(ha:PT X a tA):PT X (.UnaryOp .Not a pos) (YV tA):=by
 intro w4 s O H Q I h;exact isTrue_not (ha w4 s O H (λc H1=>Q (!c) H1) I h)
noncomputable def XJ(ta tb:TE):TE:=λO H Q=>ta O H λx H1=>∃c,x=.bl c/\if c=true then tb O H1 Q else Q (.bl false) H1
noncomputable def W9(ta:TE):TE:=λO H Q=>ta O H λx H1=>∃c,x=.bl c/\Q (.bl (!c)) H1
theorem Vw{op}{t:TE}(h:PE X a t):PE X (.BoolOp op [a] pos) t:=λw4 s O H Q I hw=>BoolOp_one (h w4 s O H Q I hw)
theorem V2(ha:PE X a ta)(hb:PE X (.BoolOp .And (b::rest) pos) tb):PE X (.BoolOp .And (a::b::rest) pos) (XJ ta tb):=by
 intro w4 s O H Q I h;refine BoolOp_and (thn (ha w4 s O H _ I h) λv s1 ⟨x,H1,I1,r1,q1⟩=>?_);obtain⟨c,rfl,q1⟩:=q1;cases r1;refine wpAny_truthy_bool ?_;cases c with
 |true=>exact hb w4 s1 O H1 Q I1 q1
 |false=>exact⟨.bl false,H1,I1,rfl,q1⟩
theorem Vx(ha:PE X a ta):PE X (.UnaryOp .Not a pos) (W9 ta):=by
 intro w4 s O H Q I h;refine UnaryOp_ (thn (ha w4 s O H _ I h) λv s1 ⟨x,H1,I1,r1,q1⟩=>?_);obtain⟨c,rfl,q1⟩:=q1;cases r1;exact not_of (wpAny_truthy_bool ⟨.bl (!c),H1,I1,rfl,q1⟩)
noncomputable def tIf(t:TT)(ta tb:TE):TE:=λO H Q=>t O H λc H1=>if c=true then ta O H1 Q else tb O H1 Q
theorem Qg{c:Expr}(hc:PT X c tA)(ha:PE X a ta)(hb:PE X b tb):PE X (.IfExp c a b pos) (tIf tA ta tb):=by
 intro w4 s O H Q I h;refine wpAny_IfExp (thn (hc w4 s O H _ I h) λd s1 ⟨H1,I1,q1⟩=>?_);cases d with
 |true=>exact ha w4 s1 O H1 Q I1 q1
 |false=>exact hb w4 s1 O H1 Q I1 q1
end
def SqL(K:PySem.W.Frag)(H:Hp)(a:Addr)(xs:List V):Prop:=
 Rd H a (.lst xs) ∨
  ∃(o:Obj) (its:Array Value) (n:Nat),K.lookup a=some o/\o.cls=.type "list" /\ o.dict=none/\o.data=.seq its n/\its.size<=sizeLine/\Vals xs its.toList
def SqT(K:PySem.W.Frag)(H:Hp)(a:Addr)(xs:List V):Prop:=
 Rd H a (.tup xs) ∨
  ∃(o:Obj) (its:Array Value) (n:Nat),K.lookup a=some o/\o.cls=.type "tuple" /\ o.data=.seq its n/\its.size<=sizeLine/\Vals xs its.toList
noncomputable def Y5:Value->Option V
 | .none=>some .non
 | .bool b=>some (.bl b)
 | .int i _=>some (.int i)
 | .str x _=>some (.str x)
 | .bytes b _=>some (.byt b)
 | .float b _=>some (.flt b)
 | .ref a=>some (.ref a)
 | .type n=>some (.ty n)
 |_=>none
theorem RelV.abs{x:V}{u:Value}(r:RelV x u):Y5 u=some x:=by
 cases x with
 |non=>cases r;rfl
 |bl _=>cases r;rfl
 |int _=>obtain⟨t,rfl⟩:=r;rfl
 |str _=>obtain⟨t,rfl⟩:=r;rfl
 |byt _=>obtain⟨t,rfl⟩:=r;rfl
 |flt _=>obtain⟨t,rfl⟩:=r;rfl
 |ref _=>cases r;rfl
 |ty _=>cases r;rfl
theorem RelV.inj{x y:V}{u:Value}(r:RelV x u)(q:RelV y u):x=y:=Option.some.inj (r.abs.symm.trans q.abs)
theorem Vals.inj:∀{xs ys:List V} {us:List Value},Vals xs us->Vals ys us->xs=ys
 |_,_,_,.nil,.nil=>rfl
 |_,_,_,.cons r t,.cons r' t'=>by rw[r.inj r',Vals.inj t t']
section
variable{X:Cx}{w4:List (Addr×Obj)}{O:St}{H:Hp}{s:Shared}{a:Addr}{xs ys:List V}
theorem SqL.of{K:PySem.W.Frag}(h:H a=some (.lst xs)):SqL K H a xs:=.inl (.inl h)
theorem SqT.of{K:PySem.W.Frag}(h:H a=some (.tup xs)):SqT K H a xs:=.inl (.inl h)
theorem Inv.list(I:Inv X w4 O H s)(h:SqL X.K H a xs):∃its:List Value,Vals xs its/\PlainL s.heap a its.toArray/\xs.length<=sizeLine:=by
 rcases h with h|⟨o,its,n,hk,hc,hd,hs,hz,r⟩
 ·obtain⟨z,its,n,r,e⟩:=h.ok I.hok;exact⟨its,r,⟨_,n,e,rfl,rfl,rfl⟩,z⟩
 ·refine⟨its.toList,r,⟨o,n,I.kIn a o hk,hc,hd,by simpa using hs⟩,?_⟩;have e:=r.length;simp only[Array.length_toList] at e;omega
theorem Inv.tuple(I:Inv X w4 O H s)(h:SqT X.K H a xs):∃its:List Value,Vals xs its/\IsTup s.heap a its.toArray/\xs.length<=sizeLine:=by
 rcases h with h|⟨o,its,n,hk,hc,hs,hz,r⟩
 ·obtain⟨z,its,r,p⟩:=h.ok I.hok;exact⟨its,r,p,z⟩
 ·refine⟨its.toList,r,⟨o,I.kIn a o hk,hc,n,by simpa using hs⟩,?_⟩;have e:=r.length;simp only[Array.length_toList] at e;omega
theorem Inv.list_inj(I:Inv X w4 O H s)(h:SqL X.K H a xs)(h':SqL X.K H a ys):xs=ys:=by
 obtain⟨its,r,⟨o,n,e,_,_,d⟩,_⟩:=I.list h;obtain⟨its',r',⟨o',n',e',_,_,d'⟩,_⟩:=I.list h';rw[e] at e';cases e';rw[d] at d';injection d' with d1 _
 have:its=its':=by simpa using congrArg Array.toList d1
 subst this;exact r.inj r'
theorem Inv.tuple_inj(I:Inv X w4 O H s)(h:SqT X.K H a xs)(h':SqT X.K H a ys):xs=ys:=by
 obtain⟨its,r,⟨o,e,_,n,d⟩,_⟩:=I.tuple h;obtain⟨its',r',⟨o',e',_,n',d'⟩,_⟩:=I.tuple h';rw[e] at e';cases e';rw[d] at d';injection d' with d1 _
 have:its=its':=by simpa using congrArg Array.toList d1
 subst this;exact r.inj r'
end
noncomputable abbrev Cx.wish(X:Cx)(E:Value->Shared->Prop):Cx:={ X with xe:=E }
noncomputable abbrev Cx.nox(X:Cx):Cx:=X.wish λ_ _=>False
theorem Cx.Ok.wish{X:Cx}(ok:X.Ok)(E:Value->Shared->Prop):(X.wish E).Ok:=
 ⟨ok.mod,ok.kind,ok.glob,ok.blt,ok.above,ok.inj,ok.has,ok.cab,ok.hd,ok.frames,ok.stk,ok.exf,ok.bs,ok.bsz,ok.noex,ok.exfs,ok.funs,ok.frf⟩
theorem Cx.Ok.unwish{X:Cx}{E:Value->Shared->Prop}(ok:(X.wish E).Ok):X.Ok:=
 ⟨ok.mod,ok.kind,ok.glob,ok.blt,ok.above,ok.inj,ok.has,ok.cab,ok.hd,ok.frames,ok.stk,ok.exf,ok.bs,ok.bsz,ok.noex,ok.exfs,ok.funs,ok.frf⟩
section
variable{X:Cx}{w4:List (Addr×Obj)}{O:St}{H:Hp}{s:Shared}{E:Value->Shared->Prop}
theorem Inv.wish(I:Inv X w4 O H s)(E:Value->Shared->Prop):Inv (X.wish E) w4 O H s:=⟨I.ok.wish E,I.os,I.bare,I.base,I.loc,I.cell,I.free,I.freeC,I.pin,I.hok,I.len⟩
theorem Inv.unwish(I:Inv (X.wish E) w4 O H s):Inv X w4 O H s:=⟨I.ok.unwish,I.os,I.bare,I.base,I.loc,I.cell,I.free,I.freeC,I.pin,I.hok,I.len⟩
theorem SP.unwish{D:M9}{f:Flow}{s':Shared}(h:SP (X.wish E) w4 D f s'):SP X w4 D f s':=by
 cases f with
 |next=>obtain⟨O',H',I,q⟩:=h;exact⟨O',H',I.unwish,q⟩
 |brk=>obtain⟨O',H',I,q⟩:=h;exact⟨O',H',I.unwish,q⟩
 |cont=>obtain⟨O',H',I,q⟩:=h;exact⟨O',H',I.unwish,q⟩
 |ret u=>obtain⟨v,O',H',I,r,q⟩:=h;exact⟨v,O',H',I.unwish,r,q⟩
theorem PSs.nox{st:List Stmt}{t:TS}(h:PSs X.nox st t):PSs X st t:=λw4 s O H D I hw=>
 AAk (h w4 s O H D (I.wish _) hw) (λ_ _ q=>q.unwish) λ_ _ z=>False.elim z
end
section
variable{X:Cx}{st:Stmt}{rest:List Stmt}{t u:TS}{e:Expr}{te:TE}{pos:Pos}
noncomputable def XA:TS:=λD O H=>D.nx O H
noncomputable def YT(t u:TS):TS:=λD O H=>t { D with nx:=u D } O H
theorem To:PSs X [] XA:=λ_ _ O H _ I h=>wpAny_execs_nil ⟨O,H,I,h⟩
theorem QV(h1:PS X st t)(h2:PSs X rest u):PSs X (st::rest) (YT t u):=by
 intro w4 s O H D I h;refine wpAny_execs_cons (thn (h1 w4 s O H { D with nx:=u D } I h) λf s1 q=>?_);cases f with
 |next=>
  obtain⟨O',H',I',q⟩:=q;exact h2 w4 s1 O' H' D I' q
 |ret v=>exact q
 |brk=>exact q
 |cont=>exact q
theorem Tn(h1:PS X st t):PSs X [st] t:=by
 intro w4 s O H D I h;refine wpAny_execs_cons (thn (h1 w4 s O H D I h) λf s1 q=>?_);cases f with
 |next=>exact wpAny_execs_nil q
 |ret v=>exact q
 |brk=>exact q
 |cont=>exact q
theorem Inv.quiet{w4:List (Addr×Obj)}{O:St}{H:Hp}{s:Shared}(I:Inv X w4 O H s):interactive X.env=false:=by simp[interactive,I.ok.kind]
noncomputable def XC(te:TE):TS:=λD O H=>te O H λ_ H1=>D.nx O H1
theorem Tp(he:PE X e te)(hs:swapsWith e none pos.line X.env=pure false:=by rfl):PS X (.Expr e pos) (XC te):=by
 intro w4 s O H D I h;exact wpAny_Expr_any (thn (he w4 s O H _ I h) λv s1 ⟨x,H1,I1,r1,q1⟩=>⟨O,H1,I1,q1⟩) I.quiet hs
noncomputable def YU(te:TE):TS:=λD O H=>te O H D.rt
theorem Vp(he:PE X e te):PS X (.Return (some e) pos) (YU te):=by
 intro w4 s O H D I h;exact wpAny_Return_some (thn (he w4 s O H _ I h) λv s1 ⟨x,H1,I1,r1,q1⟩=>⟨x,O,H1,I1,r1,q1⟩)
noncomputable def YY(c:TT)(t u:TS):TS:=λD O H=>c O H λb H1=>if b=true then t D O H1 else u D O H1
theorem Xa{c:Expr}{a b:List Stmt}{tc:TT}(hc:PT X c tc)(ha:PSs X a t)(hb:PSs X b u):PS X (.If c a b pos) (YY tc t u):=by
 intro w4 s O H D I h;refine wpAny_If (thn (hc w4 s O H _ I h) λd s1 ⟨H1,I1,q1⟩=>?_);cases d with
 |true=>exact ha w4 s1 O H1 D I1 q1
 |false=>exact hb w4 s1 O H1 D I1 q1
noncomputable def VW:TS:=λ_ _ _=>False
theorem QX:PS X st VW:=λ_ _ _ _ _ _ h=>h.elim
end
noncomputable abbrev TG:=V->St->Hp->(St->Hp->Prop)->Prop
noncomputable abbrev TGs:=List V->St->Hp->(St->Hp->Prop)->Prop
def PG(X:Cx)(target:Expr)(t:TG):Prop:=
 ∀(w4:List (Addr×Obj)) (s:Shared) (O:St) (H:Hp) (v:V) (u:Value) (Q:St->Hp->Prop),Inv X w4 O H s->RelV v u->t v O H Q->
  wpAny (model X.prog X.w) X.A (assign target X.env u) (λ_ s'=>∃O' H',Inv X w4 O' H' s'/\Q O' H') X.xe s
def PGs(X:Cx)(ts:List Expr)(t:TGs):Prop:=
 ∀(w4:List (Addr×Obj)) (s:Shared) (O:St) (H:Hp) (vs:List V) (us:List Value) (Q:St->Hp->Prop),Inv X w4 O H s->Vals vs us->t vs O H Q->
  wpAny (model X.prog X.w) X.A (assignInOrder ((assignEach ts X.env).map (·.2)) us) (λ_ s'=>∃O' H',Inv X w4 O' H' s'/\Q O' H') X.xe s
noncomputable abbrev TIp:=V->V->Hp->VK->Prop
def PIp(X:Cx)(op:Operator)(t:TIp):Prop:=
 ∀(w4:List (Addr×Obj)) (s:Shared) (O:St) (H:Hp) (x y:V) (v u:Value) (Q:VK),Inv X w4 O H s->RelV x v->RelV y u->t x y H Q->
  wpAny (model X.prog X.w) X.A (inplaceOp op v u) (EP X w4 O Q) X.xe s
section
variable{X:Cx}{pos:Pos}
noncomputable def Gf(i:Nat):TG:=λv O H Q=>Q (O.set i (some v)) H
theorem BL{i:Nat}{x:Str}(hN:X.N.Nodup)(hi:X.N[i]?=some x)(hx:Loc X.env.scope x)(hf:X.fn x=true∨X.env.scope.names.lookup x=some .local:=by first|exact .inl rfl|exact .inr rfl|assumption):PG X (.Name x pos) (Gf i):=by
 intro w4 s O H v u Q I r h;exact wpAny_assign_Name (HG I hN hi hx r (λs' I'=>⟨_,H,I',h⟩) hf)
noncomputable def YA:TGs:=λvs O H Q=>vs=[]/\Q O H
noncomputable def U4(t:TG)(u:TGs):TGs:=λvs O H Q=>∃v r,vs=v::r/\t v O H λO' H'=>u r O' H' Q
theorem KA:PGs X [] YA:=by
 intro w4 s O H vs us Q I r h;obtain⟨e,h⟩:=h;subst e;cases r;exact assignInOrder_nil ⟨O,H,I,h⟩
theorem Dx{e:Expr}{es:List Expr}{t:TG}{u:TGs}(h1:PG X e t)(h2:PGs X es u)
  (hs:(assignEach (e::es) X.env).map (·.2)=assign e X.env::(assignEach es X.env).map (·.2):=by rfl):PGs X (e::es) (U4 t u):=by
 intro w4 s O H vs us Q I r h;obtain⟨v,vr,e1,h⟩:=h;subst e1;cases r with
 |cons r rr=>
  rw[hs];refine assignInOrder_cons (thn (h1 w4 s O H _ _ _ I r h) λ_ s1 ⟨v7,H1,I1,q1⟩=>?_);exact h2 w4 s1 v7 H1 _ _ Q I1 rr q1
noncomputable def Yv(K:PySem.W.Frag)(n:Nat)(t:TGs):TG:=λv O H Q=>∃a xs,v=.ref a/\SqT K H a xs/\xs.length=n/\t xs O H Q
theorem Vs{es:List Expr}{k:Nat}{t:TGs}{n:Nat}(hc:X.calm=true)(h:PGs X es t)
  (hn:(assignEach es X.env).length=n:=by rfl) (hst:(assignEach es X.env).findIdx? (·.1)=none:=by rfl):PG X (.Tuple es k pos) (Yv X.K n t):=by
 intro w4 s O H v u Q I r hw;obtain⟨a,xs,e1,hq,hl,hw⟩:=hw;subst e1;cases r;obtain⟨its,rv,ht,hz⟩:=I.tuple hq;refine assign_Tuple_tuple (I.ok.hd hc) ht (by simp[hn,←hl,rv.length]) hst λh' hx=>?_;have I1:Inv X w4 O H { s with heap:=h' }:=I.kept (t':=s.toks) λb o e=>hx b o (AAe (Heap.lt_size e)) e;exact h w4 _ O H xs _ Q I1 (by simpa using rv) hw
noncomputable def Va(te:TE)(g:TG):TS:=λD O H=>te O H λx H1=>g x O H1 D.nx
theorem Vo{i:Nat}{x:Str}{e:Expr}{te:TE}{pos':Pos}(hN:X.N.Nodup)(hi:X.N[i]?=some x)(hx:Loc X.env.scope x)(he:PE X e te)(hs:swapsWith e (some (.Name x pos')) pos.line X.env=pure false:=by rfl)(hf:X.fn x=true∨X.env.scope.names.lookup x=some .local:=by first|exact .inl rfl|exact .inr rfl|assumption):
  PS X (.Assign [.Name x pos'] e pos) (Va te (Gf i)):=by
 intro w4 s O H D I h;refine wpAny_Assign_Name (thn (he w4 s O H _ I h) λv s1 ⟨y,H1,I1,r1,q1⟩=>?_) hs;exact HG I1 hN hi hx r1 (λs2 I2=>⟨_,H1,I2,q1⟩) hf
noncomputable def Ya(i:Nat)(te:TE)(ti:TIp):TS:=λD O H=>∃x,O[i]?=some (some x)/\te O H λy H1=>ti x y H1 λz H2=>D.nx (O.set i (some z)) H2
theorem Vq{i:Nat}{x:Str}{e:Expr}{te:TE}{op:Operator}{ti:TIp}{pos':Pos}(hN:X.N.Nodup)(hi:X.N[i]?=some x)(hx:Loc X.env.scope x)(he:PE X e te)(ho:PIp X op ti)(hf:X.fn x=true∨X.env.scope.names.lookup x=some .local:=by first|exact .inl rfl|exact .inr rfl|assumption):
  PS X (.AugAssign (.Name x pos') op e pos) (Ya i te ti):=by
 intro w4 s O H D I h;obtain⟨v,e1,h⟩:=h;obtain⟨m,hn,hl⟩:=I.loc;have vis:Vis X.env.scope x:=by rcases hx with k|k;exact .inl k;exact .inr (.inl k)
 obtain⟨u,r,l⟩:=hl i x v hi e1 vis;refine wpAny_AugAssign_Name ?_;have go:wpAny (model X.prog X.w) X.A (eval e X.env) (λw s₂=>wpAny (model X.prog X.w) X.A (inplaceOp op u w) (λr s₃=>wpAny (model X.prog X.w) X.A (storeName X.env x r) (λ_=>SP X w4 D .next) X.xe s₃) X.xe s₂) X.xe s:=by
  refine thn (he w4 s O H _ I h) λw s1 ⟨y,H1,I1,r1,q1⟩=>?_;refine thn (ho w4 s1 O H1 v y u w _ I1 r r1 q1) λz s2 ⟨zv,H2,I2,r2,q2⟩=>?_;exact HG I2 hN hi hx r2 (λs3 I3=>⟨_,H2,I3,q2⟩) hf
 rcases l with ⟨hk,hm⟩|⟨hk,c,hc,hcell⟩
 ·exact wpAny_loadName_local I.ok.kind hk hn hm go
 ·rcases hk with hk|hk
  ·exact wpAny_loadName_cell I.ok.kind hk hc hcell go
  ·rcases hx with k|k
   ·have:X.env.scope.names.lookup x=some .free:=hk;rw[k] at this;cases this
   ·have:X.env.scope.names.lookup x=some .free:=hk;rw[k] at this;cases this
noncomputable def ipI(f:Int->Int->Int):TIp:=λx y H Q=>∃i j,x=.int i/\y=.int j/\Q (.int (f i j)) H
theorem WY:PIp X .Add (ipI λi j=>i+j):=by
 intro w4 s O H x y v u Q I r1 r2 h;obtain⟨i,j,e1,e2,q⟩:=h;subst e1;subst e2;obtain⟨t,rfl⟩:=r1;obtain⟨t',rfl⟩:=r2;exact iadd_int ⟨.int _,H,I.tok _,⟨_,rfl⟩,q⟩
end
section
variable{X:Cx}{pos:Pos}
noncomputable def VV(c:TT)(tb:TS):TS:=λD O H=>∃W:Nat->St->Hp->Prop,(∃m,W m O H)/\∀m O H,W m O H->
 c O H λb H1=>if b=true then ∃N:St->Hp->Prop,(∀O' H',N O' H'->∃m',m'<m/\W m' O' H')/\tb { D with nx:=N,ct:=N,bk:=D.nx } O H1 else D.nx O H1
theorem QW{c:Expr}{body:List Stmt}{tc:TT}{tb:TS}(hp:PassesOwn (model X.prog X.w) X.A X.env X.xe)(hc:PT X c tc)(hb:PSs X body tb):PS X (.While c body [] pos) (VV tc tb):=by
 intro w4 s O H D I h;obtain⟨W,⟨m0,w0⟩,turn⟩:=h;refine wpAny_While (codeAny_whileLoop (λn s'=>∃O' H',Inv X w4 O' H' s'/\W n O' H') ?_ m0 ⟨O,H,I,w0⟩);rintro n s1 ⟨v7,H1,I1,w1⟩;refine wpAny_passesOwn hp (thn (hc w4 s1 v7 H1 _ I1 (turn n v7 H1 w1)) λb s2 ⟨H2,I2,q2⟩=>?_);cases b with
 |true=>
  obtain⟨N,hN,q2⟩:=q2;rw[if_pos rfl];refine wpAny_passesOwn hp (thn (hb w4 s2 v7 H2 _ I2 q2) λf s3 q3=>?_);cases f with
  |next=>
   obtain⟨u9,H3,I3,n3⟩:=q3;obtain⟨m',hm,w3⟩:=hN u9 H3 n3;exact⟨m',hm,u9,H3,I3,w3⟩
  |cont=>
   obtain⟨u9,H3,I3,n3⟩:=q3;obtain⟨m',hm,w3⟩:=hN u9 H3 n3;exact⟨m',hm,u9,H3,I3,w3⟩
  |brk=>exact q3
  |ret v=>exact q3
 |false=>
  rw[if_neg AAh];exact wpAny_execs_nil ⟨v7,H2,I2,q2⟩
end
set_option genInjectivity false in
structure It where
 go:Nat->Hp->Prop
 yld:Nat->Hp->V->Hp->Prop
 stop:Nat->Hp->Prop
def GF(X:Cx)(w4:List (Addr×Obj))(H:Hp)(b:Addr):Prop:=
 H b=none/\b≠X.env.locals/\b∉X.fs/\(b∈X.ex∨X.s₀.heap.objs.size<=b)/\(∀x c,X.env.cells.lookup x=some c->c≠b)/\∀p∈X.pn++w4,p.1≠b
theorem Inv.fpOk{X:Cx}{w4:List (Addr×Obj)}{O:St}{H H':Hp}{s:Shared}{b:Addr}(I:Inv X w4 O H s)(hb:s.heap.objs.size<=b)(hn:H' b=none):GF X w4 H' b:=by
 refine⟨hn,Nat.ne_of_gt (AAM I.lt hb),I.nofs hb,.inr (AAt I.sz hb),λx c e z=>?_,λp hp z=>?_⟩
 ·obtain⟨v,q⟩:=I.cell x c e;exact absurd (AAM q.lt (by rw[z];exact hb)) (AAy _)
 ·exact absurd (AAM (Heap.lt_size (I.pin p hp).1) (by rw[z];exact hb)) (AAy _)
structure L7(P:Program)(w:World)(K:PySem.W.Frag)(tg:Expr)(J:It)(fp:List Addr)(it:Addr)(tn:Nat->Heap->Prop):Prop where
 mem:it∈fp
 obj:∀i h,tn i h->∀b∈fp,∃o,h.get? b=some o/\∀v,o.data≠.cell v
 keep:∀i h h',tn i h->(∀b∈fp,∀o,h.get? b=some o->h'.get? b=some o)->tn i h'
 item:∀(X:Cx),X.prog=P->X.w=w->X.K=K->X.calm=true->∀(i:Nat) (w4:List (Addr×Obj)) (s:Shared) (O:St) (H:Hp) (E:Value->Shared->Prop),Inv X w4 O H s->(∀b∈fp,GF X w4 H b)->tn i s.heap->J.go i H->
  wpAny (model P w) X.A (pyNext (.ref it)) (λr s1=>∃u,r=some u /\
   wpAny (model P w) X.A (letOwnedTupleGo tg (.ref it) u) (λ_ s2=>∃x H',Inv X w4 O H' s2/\RelV x u/\J.yld i H x H'/\tn (i+1) s2.heap/\∀b∈fp,H' b=none) E s1) E s
 done:∀(X:Cx),X.prog=P->X.w=w->X.K=K->X.calm=true->∀(i:Nat) (w4:List (Addr×Obj)) (s:Shared) (O:St) (H:Hp) (E:Value->Shared->Prop),Inv X w4 O H s->(∀b∈fp,GF X w4 H b)->tn i s.heap->J.stop i H->
  wpAny (model P w) X.A (pyNext (.ref it)) (λr s1=>r=none/\Inv X w4 O H s1) E s
 self:∀(A:Around) (i:Nat) (s:Shared) (Q:Value->Shared->Prop) (E:Value->Shared->Prop),tn i s.heap->Q (.ref it) s->wpAny (model P w) A (pyIter (.ref it)) Q E s
noncomputable abbrev TI:=St->Hp->(It->Hp->Prop)->Prop
def PIE(X:Cx)(w4:List (Addr×Obj))(O:St)(tg:Expr)(R:It->Hp->Prop)(itv:Value)(s2:Shared):Prop:=
 ∃(it:Addr) (fp:List Addr) (tn:Nat->Heap->Prop) (J:It) (H':Hp),itv=.ref it/\Inv X w4 O H' s2/\L7 X.prog X.w X.K tg J fp it tn/\tn 0 s2.heap/\(∀b∈fp,GF X w4 H' b)/\R J H'
def PI(X:Cx)(tg iter:Expr)(wi:TI):Prop:=
 ∀(w4:List (Addr×Obj)) (s:Shared) (O:St) (H:Hp) (R:It->Hp->Prop),Inv X w4 O H s->wi O H R->
  wpAny (model X.prog X.w) X.A (eval iter X.env) (λv s1=>wpAny (model X.prog X.w) X.A (pyIter v) (PIE X w4 O tg R) X.xe s1) X.xe s
theorem Rf{M:Model}{A:Around}{E:Value->Shared->Prop}{s:Shared}{tg:Expr}{it:Addr}{u:Value}{o:Obj}{n:String}{vs:Array Value}{Q:Unit->Shared->Prop}(ho:s.heap.get? it=some o)(hc:o.cls=.type n)(hd:o.data=.fields vs)
  (hn:["enumerate", "zip", "dict_itemiterator", "dict_reverseitemiterator", "odict_iterator", "itertools.zip_longest", "itertools.pairwise"].contains n=false) (hQ:Q () s):wpAny M A (letOwnedTupleGo tg (.ref it) u) Q E s:=by
 unfold letOwnedTupleGo;cases tg<;>first
  |exact AAB hQ
  |(cases u<;>first
    |exact AAB hQ
    |(refine AAA (wpAny_load ho ?_);rw[hc,hd];show wpAny M A (if (["enumerate", "zip", "dict_itemiterator", "dict_reverseitemiterator", "odict_iterator", "itertools.zip_longest", "itertools.pairwise"].contains n&&vs[0]?==some (rawInt _))=true then _ else _) Q E s;rw[if_neg (by intro h;rw[hn,Bool.false_and] at h;cases h)];exact AAB hQ))
noncomputable def Itl(K:PySem.W.Frag)(a:Addr):It:=
 ⟨λi H=>∃xs x,SqL K H a xs/\xs[i]?=some x,λi H x H'=>H'=H/\∀xs,SqL K H a xs->xs[i]?=some x,λi H=>∃xs,SqL K H a xs/\xs.length<=i⟩
noncomputable def Itt(K:PySem.W.Frag)(a:Addr):It:=
 ⟨λi H=>∃xs x,SqT K H a xs/\xs[i]?=some x,λi H x H'=>H'=H/\∀xs,SqT K H a xs->xs[i]?=some x,λi H=>∃xs,SqT K H a xs/\xs.length<=i⟩
noncomputable def Itr(lo:Int)(n:Nat):It:=⟨λi _=>i<n,λi H x H'=>H'=H/\x=.int (lo+i),λi _=>n<=i⟩
theorem OH{P:Program}{w:World}{K:PySem.W.Frag}{tg:Expr}(a it:Addr):L7 P w K tg (Itl K a) [it] it (λi h=>h.IsListIter it a i) where
 mem:=by simp
 obj:=λi h st b hb=>by
  have e:b=it:=by simpa using hb
  subst e;obtain⟨o,e,c,d⟩:=st;exact⟨o,e,λv z=>by rw[d] at z;cases z⟩
 keep:=λi h h' st k=>st.at λo e=>k it (by simp) o e
 item:=by
  intro X hP hw hK hc i w4 s O H E I hf st hg;subst hP hw hK;obtain⟨xs,x,hq,hx⟩:=hg;obtain⟨its,rv,p,hz⟩:=I.list hq;obtain⟨u,hu,ru⟩:=rv.get hx;obtain⟨f0,f1,f2,f3,f4,f5⟩:=hf it (by simp);refine wpAny_pyNext_list_item st p.isList (x:=u) (by simpa using hu) λh' st' sb=>?_;have I1:Inv X w4 O H { s with heap:=h' }:=I.turned (t':=s.toks) (λb o hb e=>(sb.2 b hb).trans e) f0 f1 f3 f4 f5;obtain⟨o,e,c,d⟩:=id st';exact⟨u,rfl,Rf (s:={ s with heap:=h' }) e c d (by decide) ⟨x,H,I1,ru,⟨rfl,λys hy=>by rw[I.list_inj hy hq];exact hx⟩,st',λb hb=>(hf b hb).1⟩⟩
 done:=by
  intro X hP hw hK hc i w4 s O H E I hf st hg;subst hP hw hK;obtain⟨xs,hq,hx⟩:=hg;obtain⟨its,rv,p,hz⟩:=I.list hq;obtain⟨f0,f1,f2,f3,f4,f5⟩:=hf it (by simp);have hl:=rv.length;exact wpAny_pyNext_list_end (I.ok.hd hc) st p.isList (by simp;omega) λh' eb=>⟨rfl,I.turned (t':=s.toks) (λb o hb e=>eb b o hb e) f0 f1 f3 f4 f5⟩
 self:=λ_ _ _ _ _ st h=>wpAny_pyIter_listiter st h
theorem MF{P:Program}{w:World}{K:PySem.W.Frag}{tg:Expr}(a it:Addr):L7 P w K tg (Itt K a) [it] it (λi h=>h.IsTupleIter it a i) where
 mem:=by simp
 obj:=λi h st b hb=>by
  have e:b=it:=by simpa using hb
  subst e;obtain⟨o,e,c,d⟩:=st;exact⟨o,e,λv z=>by rw[d] at z;cases z⟩
 keep:=λi h h' st k=>st.at λo e=>k it (by simp) o e
 item:=by
  intro X hP hw hK hc i w4 s O H E I hf st hg;subst hP hw hK;obtain⟨xs,x,hq,hx⟩:=hg;obtain⟨its,rv,p,hz⟩:=I.tuple hq;obtain⟨u,hu,ru⟩:=rv.get hx;obtain⟨f0,f1,f2,f3,f4,f5⟩:=hf it (by simp);refine wpAny_pyNext_tuple_item st (show s.heap.IsTuple a its.toArray from p) (x:=u) (by simpa using hu) λh' st' sb=>?_;have I1:Inv X w4 O H { s with heap:=h' }:=I.turned (t':=s.toks) (λb o hb e=>(sb.2 b hb).trans e) f0 f1 f3 f4 f5;obtain⟨o,e,c,d⟩:=id st';exact⟨u,rfl,Rf (s:={ s with heap:=h' }) e c d (by decide) ⟨x,H,I1,ru,⟨rfl,λys hy=>by rw[I.tuple_inj hy hq];exact hx⟩,st',λb hb=>(hf b hb).1⟩⟩
 done:=by
  intro X hP hw hK hc i w4 s O H E I hf st hg;subst hP hw hK;obtain⟨xs,hq,hx⟩:=hg;obtain⟨its,rv,p,hz⟩:=I.tuple hq;obtain⟨f0,f1,f2,f3,f4,f5⟩:=hf it (by simp);have hl:=rv.length;exact wpAny_pyNext_tuple_end (I.ok.hd hc) st (show s.heap.IsTuple a its.toArray from p) (by simp;omega) λh' eb=>⟨rfl,I.turned (t':=s.toks) (λb o hb e=>eb b o hb e) f0 f1 f3 f4 f5⟩
 self:=λ_ _ _ _ _ st h=>wpAny_pyIter_tupleiter st h
theorem MG{P:Program}{w:World}{K:PySem.W.Frag}{tg:Expr}(it:Addr)(lo:Int)(n:Nat):L7 P w K tg (Itr lo n) [it] it (λi h=>IsRangeIter h it (lo+(i:Nat) * 1) ((n:Int)-(i:Nat)) 1) where
 mem:=by simp
 obj:=λi h st b hb=>by
  have e:b=it:=by simpa using hb
  subst e;exact⟨_,st,λv z=>by
   have z':Data.fields _=Data.cell v:=z;cases z'⟩
 keep:=λi h h' st k=>k it (by simp) _ st
 item:=by
  intro X hP hw hK hc i w4 s O H E I hf st hg;subst hP hw hK;obtain⟨f0,f1,f2,f3,f4,f5⟩:=hf it (by simp);have W:=Walks.range (prog:=X.prog) (w:=X.w) (I.ok.hd hc) it lo 1 n;refine W.item i s _ _ hg st λv h' tk hv st' kk=>?_;obtain⟨t,rfl⟩:=hv;have I1:Inv X w4 O H { s with heap:=h',toks:=tk }:=I.turned (λb o hb e=>kk b o (by simpa using hb) e) f0 f1 f3 f4 f5;refine⟨_,rfl,Rf (s:={ s with heap:=h',toks:=tk }) (n := "range_iterator") st' rfl rfl (by decide) ⟨.int (lo+i),H,I1,⟨t,?_⟩,⟨rfl,rfl⟩,st',λb hb=>(hf b hb).1⟩⟩;rw[Int.mul_one]
 done:=by
  intro X hP hw hK hc i w4 s O H E I hf st hg;subst hP hw hK;obtain⟨f0,f1,f2,f3,f4,f5⟩:=hf it (by simp);exact wpAny_pyNext_range_end (I.ok.hd hc) st (by have:n<=i:=hg;omega) λh' eb=>⟨rfl,I.turned (t':=s.toks) (λb o hb e=>eb b o hb e) f0 f1 f3 f4 f5⟩
 self:=λ_ _ _ _ _ st h=>wpAny_pyIter_rangeiter st h
section
variable{X:Cx}{tg:Expr}
noncomputable def U3(K:PySem.W.Frag)(tl:TE):TI:=λO H R=>tl O H λx H1=>∃a,x=.ref a/\(∃xs,SqL K H1 a xs)/\R (Itl K a) H1
noncomputable def X8(K:PySem.W.Frag)(tl:TE):TI:=λO H R=>tl O H λx H1=>∃a,x=.ref a/\(∃xs,SqT K H1 a xs)/\R (Itt K a) H1
theorem NV{l:Expr}{tl:TE}(hl:PE X l tl):PI X tg l (U3 X.K tl):=by
 intro w4 s O H R I h;refine thn (hl w4 s O H _ I h) λv s1 ⟨x,H1,I1,r1,q1⟩=>?_;obtain⟨a,e,⟨xs,hq⟩,q⟩:=q1;subst e;cases r1;obtain⟨its,rv,p,hz⟩:=I1.list hq;refine wpAny_pyIter_list p.isList ?_;refine⟨s1.heap.objs.size,[s1.heap.objs.size],_,_,H1,rfl,I1.kept (t':=s1.toks) λb o e=>AAC _ e,OH a _,⟨_,AAD _ rfl,rfl,rfl⟩,λb hb=>?_,q⟩;have e:b=s1.heap.objs.size:=by simpa using hb
 subst e;exact I1.fpOk (AAE _) (I1.hok.fresh (AAE _))
theorem Vr{l:Expr}{tl:TE}(hl:PE X l tl):PI X tg l (X8 X.K tl):=by
 intro w4 s O H R I h;refine thn (hl w4 s O H _ I h) λv s1 ⟨x,H1,I1,r1,q1⟩=>?_;obtain⟨a,e,⟨xs,hq⟩,q⟩:=q1;subst e;cases r1;obtain⟨its,rv,p,hz⟩:=I1.tuple hq;refine wpAny_pyIter_tuple (show s1.heap.IsTuple a its.toArray from p) ?_;refine⟨s1.heap.objs.size,[s1.heap.objs.size],_,_,H1,rfl,I1.kept (t':=s1.toks) λb o e=>AAC _ e,MF a _,⟨_,AAD _ rfl,rfl,rfl⟩,λb hb=>?_,q⟩;have e:b=s1.heap.objs.size:=by simpa using hb
 subst e;exact I1.fpOk (AAE _) (I1.hok.fresh (AAE _))
theorem QP{w4:List (Addr×Obj)}{O:St}{H:Hp}{s:Shared}{R:It->Hp->Prop}{E:Value->Shared->Prop}{lo hi:Int}{t u v:Tok}{tk:Nat}(I:Inv X w4 O H s)(h1:-(2 ^ 62)<=lo)(h2:lo<2 ^ 62)(h3:-(2 ^ 62)<=hi)(h4:hi<2 ^ 62)
  (q:R (Itr lo (hi-lo).toNat) H):wpAny (model X.prog X.w) X.A (pyIter (.ref s.heap.objs.size)) (PIE X w4 O tg R) E { s with heap:=s.heap.push { cls:=.type "range",data:=.fields #[.int lo t,.int hi u,.int 1 v] },toks:=tk }:=by
 refine wpAny_pyIter_range (IsRange.new ..) (small_one h1 h2 h3 h4) ?_;have I1:Inv X w4 O H { s with heap:=s.heap.push { cls:=.type "range",data:=.fields #[.int lo t,.int hi u,.int 1 v] },toks:=tk }:=I.kept λb o e=>AAC _ e;refine⟨(s.heap.push { cls:=.type "range",data:=.fields #[.int lo t,.int hi u,.int 1 v] }).objs.size,[(s.heap.push { cls:=.type "range",data:=.fields #[.int lo t,.int hi u,.int 1 v] }).objs.size],_,_,H,rfl,
  I1.kept (t':=tk) λb o e=>AAC _ e,MG _ lo (hi-lo).toNat,?_,λb hb=>?_,q⟩
 ·have e1:lo+((0:Nat):Int) * 1=lo:=by simp
  have e2:(((hi-lo).toNat:Nat):Int)-((0:Nat):Int)=Builtin.Range.rangeSize lo hi 1:=by rw[rangeSize_one];split<;>omega
  show IsRangeIter _ _ (lo+((0:Nat):Int) * 1) ((((hi-lo).toNat:Nat):Int)-((0:Nat):Int)) 1;rw[e1,e2];exact AAD _ rfl
 ·have e:b=(s.heap.push { cls:=.type "range",data:=.fields #[.int lo t,.int hi u,.int 1 v] }).objs.size:=by simpa using hb
  subst e;exact I1.fpOk (AAE _) (I1.hok.fresh (AAE _))
noncomputable def X9(ta:TA):TI:=λO H R=>ta O H λvs H1=>∃j:Int,vs=[.int j]/\-(2 ^ 62)<=j/\j<2 ^ 62/\R (Itr 0 j.toNat) H1
theorem Ob{a:Expr}{ta:TA}{p pos:Pos}(hg:Gl X "range")(hm:X.mg "range" = none)(ha:PA X [a] ta)(hs:starEach [a] X.env=[(false,eval a X.env)]:=by rfl):PI X tg (.Call (.Name "range" p) [a] [] pos) (X9 ta):=by
 intro w4 s O H R I h;refine Call_ (GP I hg hm boot_range (PyProof.Rows.callWith_type1 (thn (ha pos w4 s O H _ I h) λus s1 ⟨vs,H1,I1,r1,q1⟩=>?_) hs rfl));obtain⟨j,e,q1,q2,q⟩:=q1;subst e;cases r1 with
 |cons r rr=>
  cases rr;obtain⟨t,rfl⟩:=r;exact call_range_1 (QP I1 (by omega) (by omega) q1 q2 (by simpa using q))
noncomputable def YZ(wi:TI)(g:TG)(tb:TS):TS:=λD O H=>wi O H λJ H1=>∃W:Nat->Nat->St->Hp->Prop,(∃m,W 0 m O H1)/\∀i m O H,W i m O H->
 (J.stop i H/\D.nx O H)∨(J.go i H/\∃N:St->Hp->Prop,(∀O' H',N O' H'->∃m',m'<m/\W (i+1) m' O' H')/\∀x H',J.yld i H x H'->g x O H' λu7 H2=>tb { D with nx:=N,ct:=N,bk:=D.nx } u7 H2)
noncomputable def J9(fp:List Addr)(h:Heap):List (Addr×Obj):=fp.filterMap λb=>(h.get? b).map λo=>(b,o)
theorem C2{fp:List Addr}{h:Heap}{b:Addr}{o:Obj}(hb:b∈fp)(e:h.get? b=some o):(b,o)∈J9 fp h:=List.mem_filterMap.mpr ⟨b,hb,by rw[e];rfl⟩
theorem Of{fp:List Addr}{h:Heap}{p:Addr×Obj}(hp:p∈J9 fp h):p.1∈fp/\h.get? p.1=some p.2:=by
 obtain⟨b,hb,e⟩:=List.mem_filterMap.mp hp;cases q:h.get? b with
 |none=>rw[q] at e;cases e
 |some o=>
  rw[q] at e;have e':(b,o)=p:=Option.some.inj e;subst e';exact⟨hb,q⟩
theorem Inv.pinned{w4:List (Addr×Obj)}{O:St}{H:Hp}{s:Shared}{fp:List Addr}(I:Inv X w4 O H s)(hf:∀b∈fp,GF X w4 H b)(ho:∀b∈fp,∃o,s.heap.get? b=some o/\∀v,o.data≠.cell v):Inv X (w4++J9 fp s.heap) O H s:=
 I.pins_of λp hp=>(AAJ.mp hp).elim (λz=>I.pin p (AAb _ z)) λz=>by
  obtain⟨hb,e⟩:=Of z;obtain⟨f0,f1,f2,_⟩:=hf p.1 hb;obtain⟨o,e',d⟩:=ho p.1 hb;rw[e] at e';cases e';exact⟨e,f0,f1,f2,d⟩
theorem Inv.unpinned{w4 pl:List (Addr×Obj)}{O:St}{H:Hp}{s:Shared}(I:Inv X (w4++pl) O H s):Inv X w4 O H s:=I.pins_of λp hp=>I.pin p (AAb _ (AAc _ hp))
theorem QY{iter:Expr}{body:List Stmt}{wi:TI}{g:TG}{tb:TS}{pos:Pos}(hp:PassesOwn (model X.prog X.w) X.A X.env X.xe)(hc:X.calm=true)(hi:PI X tg iter wi)(hg:PG X tg g)(hb:PSs X body tb)
  (hs:∀x,foldedSetIterable iter X.env x=pure x:=by intro _;rfl):PS X (.For tg iter body [] pos) (YZ wi g tb):=by
 intro w4 s O H D I h;refine wpAny_For (thn (hi w4 s O H _ I h) λv s1 h1=>thn h1 λitv s2 h2=>?_) hs;obtain⟨it,fp,tn,J,H2,e,I2,T,st2,f2,W,⟨m0,w0⟩,turn⟩:=h2;subst e;have stat:∀{H':Hp},(∀b∈fp,H' b=none)->∀b∈fp,GF X w4 H' b:=λhn b hb=>⟨hn b hb,(f2 b hb).2⟩;refine codeAny_forLoop_any (λn s'=>∃i O' H',Inv X w4 O' H' s'/\tn i s'.heap/\(∀b∈fp,H' b=none)/\W i n O' H') ?_ m0 ⟨0,O,H2,I2,st2,λb hb=>(f2 b hb).1,w0⟩;rintro n s3 ⟨i,u9,H3,I3,st3,fr3,w3⟩;rcases turn i n u9 H3 w3 with ⟨stop,qn⟩|⟨go,N,hN,step⟩
 ·refine wpAny_passesOwn hp (thn (T.done X rfl rfl rfl hc i w4 s3 u9 H3 X.xe I3 (stat fr3) st3 stop) λr s4 ⟨hr,I4⟩=>?_);subst hr;exact wpAny_execs_nil ⟨u9,H3,I4,qn⟩
 ·refine wpAny_passesOwn hp (thn (T.item X rfl rfl rfl hc i w4 s3 u9 H3 X.xe I3 (stat fr3) st3 go) λr s4 ⟨u,hr,h4⟩=>?_);subst hr;refine wpAny_passesOwn hp (thn h4 λ_ s5 ⟨x,H5,I5,r5,y5,st5,fr5⟩=>?_);have I5':=I5.pinned (stat fr5) (T.obj _ _ st5);refine wpAny_passesOwn hp (thn (hg _ s5 u9 H5 x u _ I5' r5 (step x H5 y5)) λ_ s6 ⟨v6,H6,I6,q6⟩=>?_);refine wpAny_passesOwn hp (thn (hb _ s6 v6 H6 _ I6 q6) λf s7 q7=>?_);have again:∀{v8:St} {H7:Hp},Inv X (w4++J9 fp s5.heap) v8 H7 s7->N v8 H7->∃m,m<n/\∃i O' H',Inv X w4 O' H' s7/\tn i s7.heap/\(∀b∈fp,H' b=none)/\W i m O' H':=λ{v8 H7} I7 n7=>by
   obtain⟨m',hm,w7⟩:=hN v8 H7 n7;refine⟨m',hm,i+1,v8,H7,I7.unpinned,T.keep _ _ _ st5 λb hb o e=>(I7.pin (b,o) (AAb _ (AAb _ (C2 hb e)))).1,λb hb=>?_,w7⟩;obtain⟨o,e,d⟩:=T.obj _ _ st5 b hb;exact(I7.pin (b,o) (AAb _ (AAb _ (C2 hb e)))).2.1
  cases f with
  |next=>obtain⟨v8,H7,I7,n7⟩:=q7;exact again I7 n7
  |cont=>obtain⟨v8,H7,I7,n7⟩:=q7;exact again I7 n7
  |brk=>obtain⟨v8,H7,I7,q7⟩:=q7;exact⟨v8,H7,I7.unpinned,q7⟩
  |ret v=>obtain⟨x7,v8,H7,I7,r7,q7⟩:=q7;exact⟨x7,v8,H7,I7.unpinned,r7,q7⟩
end
noncomputable abbrev R2:=V->V->Hp->VK->Prop
def OpR(X:Cx)(f:Value->Value->Sem Value)(r:R2):Prop:=
 ∀(w4:List (Addr×Obj)) (s:Shared) (O:St) (H:Hp) (x y:V) (v u:Value) (Q:VK),Inv X w4 O H s->RelV x v->RelV y u->r x y H Q->
  wpAny (model X.prog X.w) X.A (f v u) (EP X w4 O Q) X.xe s
def UnR(X:Cx)(f:Value->Sem Value)(r:V->Hp->VK->Prop):Prop:=
 ∀(w4:List (Addr×Obj)) (s:Shared) (O:St) (H:Hp) (x:V) (v:Value) (Q:VK),Inv X w4 O H s->RelV x v->r x H Q->
  wpAny (model X.prog X.w) X.A (f v) (EP X w4 O Q) X.xe s
def CA(X:Cx)(f:Value)(r:List V->Hp->VK->Prop):Prop:=
 ∀(w4:List (Addr×Obj)) (s:Shared) (O:St) (H:Hp) (xs:List V) (us:List Value) (Q:VK),Inv X w4 O H s->Vals xs us->r xs H Q->
  wpAny (model X.prog X.w) X.A (call f us) (EP X w4 O Q) X.xe s
def Y6(X:Cx)(r:V->Hp->(Bool->Hp->Prop)->Prop):Prop:=
 ∀(w4:List (Addr×Obj)) (s:Shared) (O:St) (H:Hp) (x:V) (v:Value) (Q:Bool->Hp->Prop),Inv X w4 O H s->RelV x v->r x H Q->
  wpAny (model X.prog X.w) X.A (truthy v) (TP X w4 O Q) X.xe s
noncomputable def tOp(r:R2)(ta tb:TE):TE:=λO H Q=>ta O H λx H1=>tb O H1 λy H2=>r x y H2 Q
noncomputable def tUn(r:V->Hp->VK->Prop)(ta:TE):TE:=λO H Q=>ta O H λx H1=>r x H1 Q
noncomputable def rI(C:Int->Int->Prop)(g:Int->Int->V):R2:=λx y H Q=>∃i j,x=.int i/\y=.int j/\C i j/\Q (g i j) H
noncomputable def rI0(g:Int->Int->V):R2:=λx y H Q=>∃i j,x=.int i/\y=.int j/\Q (g i j) H
noncomputable def rU(g:Int->V):V->Hp->VK->Prop:=λx H Q=>∃i,x=.int i/\Q (g i) H
section
variable{X:Cx}{a b:Expr}{ta tb:TE}{pos:Pos}
theorem Wq(ha:PE X a ta)(hb:PE X b tb){w4:List (Addr×Obj)}{s:Shared}{O:St}{H:Hp}{R:V->V->Hp->Prop}(I:Inv X w4 O H s)
  (h:ta O H λx H1=>tb O H1 λy H2=>R x y H2) {Q:Value->Shared->Prop} {f:Value->Value->Sem Value}
  (hf:∀v u s2 x y H2,Inv X w4 O H2 s2->RelV x v->RelV y u->R x y H2->wpAny (model X.prog X.w) X.A (f v u) Q X.xe s2) :
  wpAny (model X.prog X.w) X.A (eval a X.env) (λv s₁=>wpAny (model X.prog X.w) X.A (eval b X.env) (λu s₂=>wpAny (model X.prog X.w) X.A (f v u) Q X.xe s₂) X.xe s₁) X.xe s:=by
 refine thn (ha w4 s O H _ I h) λv s1 ⟨x,H1,I1,r1,q1⟩=>?_;refine thn (hb w4 s1 O H1 _ I1 q1) λu s2 ⟨y,H2,I2,r2,q2⟩=>?_;exact hf v u s2 x y H2 I2 r1 r2 q2
theorem Xd{op:Operator}{r:R2}(ho:OpR X (binaryOp op) r)(ha:PE X a ta)(hb:PE X b tb):PE X (.BinOp a op b pos) (tOp r ta tb):=by
 intro w4 s O H Q I h;exact wpAny_BinOp (Wq ha hb I h λv u s2 x y H2 I2 rx ry q=>ho w4 s2 O H2 x y v u Q I2 rx ry q)
theorem Xc{op:UnaryOp}{r:V->Hp->VK->Prop}(ho:UnR X (unaryOp op) r)(ha:PE X a ta):PE X (.UnaryOp op a pos) (tUn r ta):=by
 intro w4 s O H Q I h;exact UnaryOp_ (thn (ha w4 s O H _ I h) λv s1 ⟨x,H1,I1,r1,q1⟩=>ho w4 s1 O H1 x v Q I1 r1 q1)
theorem opI{f:Value->Value->Sem Value}{C:Int->Int->Prop}{g:Int->Int->Int}
  (rule:∀(i j:Int) (t u:Tok) (s:Shared) (Q:Value->Shared->Prop) (E:Value->Shared->Prop),C i j->Q (.int (g i j) s.toks) { s with toks:=s.toks+1 }->wpAny (model X.prog X.w) X.A (f (.int i t) (.int j u)) Q E s) :
  OpR X f (rI C λi j=>.int (g i j)):=by
 intro w4 s O H x y v u Q I rx ry h;obtain⟨i,j,rfl,rfl,hc,q⟩:=h;obtain⟨t,rfl⟩:=rx;obtain⟨t',rfl⟩:=ry;exact rule i j t t' s _ _ hc ⟨.int (g i j),H,I.tok _,⟨_,rfl⟩,q⟩
theorem Xm{f:Value->Value->Sem Value}{g:Int->Int->Int}
  (rule:∀(i j:Int) (t u:Tok) (s:Shared) (Q:Value->Shared->Prop) (E:Value->Shared->Prop),Q (.int (g i j) s.toks) { s with toks:=s.toks+1 }->wpAny (model X.prog X.w) X.A (f (.int i t) (.int j u)) Q E s) :
  OpR X f (rI0 λi j=>.int (g i j)):=by
 intro w4 s O H x y v u Q I rx ry h;obtain⟨i,j,rfl,rfl,q⟩:=h;obtain⟨t,rfl⟩:=rx;obtain⟨t',rfl⟩:=ry;exact rule i j t t' s _ _ ⟨.int (g i j),H,I.tok _,⟨_,rfl⟩,q⟩
theorem T6{f:Value->Value->Sem Value}{g:Int->Int->Bool}
  (rule:∀(i j:Int) (t u:Tok) (s:Shared) (Q:Value->Shared->Prop) (E:Value->Shared->Prop),Q (.bool (g i j)) s->wpAny (model X.prog X.w) X.A (f (.int i t) (.int j u)) Q E s) :
  OpR X f (rI0 λi j=>.bl (g i j)):=by
 intro w4 s O H x y v u Q I rx ry h;obtain⟨i,j,rfl,rfl,q⟩:=h;obtain⟨t,rfl⟩:=rx;obtain⟨t',rfl⟩:=ry;exact rule i j t t' s _ _ ⟨.bl (g i j),H,I,rfl,q⟩
def ZC(i j:Int):Prop:=0<j/\j<1073741824
def ZB(i j:Int):Prop:=0<=j/\j<=1000000/\i.natAbs<2 ^ 64
def CMul(i j:Int):Prop:=(-(2 ^ 64)<i/\i<2 ^ 64)∨(-(2 ^ 64)<j/\j<2 ^ 64)
theorem CMul.ok{i j:Int}(h:CMul i j):IntMulOk i j:=by
 rcases h with ⟨h1,h2⟩|⟨h1,h2⟩
 ·exact .of_left (intBits_le_64 h1 h2)
 ·exact .of_right (intBits_le_64 h1 h2)
theorem WD:OpR X (binaryOp .Add) (rI0 λi j=>.int (i+j)):=Xm λ_ _ _ _ _ _ _ q=>add_int q
theorem V4:OpR X (binaryOp .Sub) (rI0 λi j=>.int (i-j)):=Xm λ_ _ _ _ _ _ _ q=>sub_int q
theorem V8:OpR X (binaryOp .Mult) (rI CMul λi j=>.int (i * j)):=opI λ_ _ _ _ _ _ _ hc q=>mul_int q hc.ok
theorem T4:OpR X (binaryOp .FloorDiv) (rI ZC λi j=>.int (i / j)):=opI λi j _ _ _ _ _ hc q=>by
 have h1:(0:Int)<j:=hc.1;have h2:j<1073741824:=hc.2;exact floordiv_int (by omega) (by rw[Int.fdiv_eq_ediv_of_nonneg i (by omega)];exact q) (.inl (PyProof.noPylong_small (by omega)))
theorem V9:OpR X (binaryOp .Mod) (rI (λ_ j=>0<j) λi j=>.int (i % j)):=opI λi j _ _ _ _ _ hc q=>by
 have h1:(0:Int)<j:=hc;exact mod_int' (by omega) (by rw[Int.fmod_eq_emod_of_nonneg i (by omega)];exact q)
theorem V6:OpR X (binaryOp .Pow) (rI ZB λi j=>.int (i ^ j.toNat)):=opI λ_ _ _ _ _ _ _ hc q=>pow_int_small hc.1 hc.2.1 hc.2.2 q
theorem unI{f:Value->Sem Value}{g:Int->Int}
  (rule:∀(i:Int) (t:Tok) (s:Shared) (Q:Value->Shared->Prop) (E:Value->Shared->Prop),Q (.int (g i) s.toks) { s with toks:=s.toks+1 }->wpAny (model X.prog X.w) X.A (f (.int i t)) Q E s) :
  UnR X f (rU λi=>.int (g i)):=by
 intro w4 s O H x v Q I rx h;obtain⟨i,rfl,q⟩:=h;obtain⟨t,rfl⟩:=rx;exact rule i t s _ _ ⟨.int (g i),H,I.tok _,⟨_,rfl⟩,q⟩
theorem VO:UnR X (unaryOp .USub) (rU λi=>.int (-i)):=unI λ_ _ _ _ _ q=>neg_int q
end
section
variable{X:Cx}{a b c:Expr}{ta tb tc:TE}{pos:Pos}
theorem KS{w4:List (Addr×Obj)}{O:St}{H:Hp}{s:Shared}{Q:VK}{k k':Bool}(I:Inv X w4 O H s)(q:Q (.bl k) H)(e:k=k'):EP X w4 O Q (.bool k') s:=by
 subst e;exact⟨.bl k,H,I,rfl,q⟩
theorem Xi:OpR X (compareOp .Lt) (rI0 λi j=>.bl (decide (i<j))):=T6 λ_ _ _ _ _ _ _ q=>lt_int q
theorem Xj:OpR X (compareOp .LtE) (rI0 λi j=>.bl (decide (i<=j))):=T6 λ_ _ _ _ _ _ _ q=>le_int q
theorem Xk:OpR X (compareOp .Gt) (rI0 λi j=>.bl (decide (j<i))):=T6 λ_ _ _ _ _ _ _ q=>gt_int q
theorem Xl:OpR X (compareOp .GtE) (rI0 λi j=>.bl (decide (j<=i))):=T6 λ_ _ _ _ _ _ _ q=>ge_int q
theorem Od:OpR X (compareOp .In) (λx y H Q=>∃i j,x=.str i/\y=.str j/\Q (.bl (!(Builtin.Str.occurrences j i 0 j.length 1).isEmpty)) H):=by
 intro w4 s O H x y v u Q I rx ry h;obtain⟨i,j,rfl,rfl,q⟩:=h;obtain⟨t,rfl⟩:=rx;obtain⟨t',rfl⟩:=ry;exact in_str (KS I q rfl)
theorem WA:OpR X (compareOp .Is) (λx y H Q=>y=.non/\Q (.bl (decide (x=.non))) H):=by
 intro w4 s O H x y v u Q I rx ry h;obtain⟨rfl,q⟩:=h;cases ry;refine is_none_gen (KS I q ?_);cases x<;>first
  |(cases rx;rfl)
  |(obtain⟨t,rfl⟩:=rx;rfl)
theorem T3:OpR X (compareOp .IsNot) (λx y H Q=>y=.non/\Q (.bl (!decide (x=.non))) H):=by
 intro w4 s O H x y v u Q I rx ry h;obtain⟨rfl,q⟩:=h;cases ry;refine isnot_none_gen (KS I q ?_);cases x<;>first
  |(cases rx;rfl)
  |(obtain⟨t,rfl⟩:=rx;rfl)
theorem KB:OpR X (compareOp .NotIn) (λx y H Q=>∃i j,x=.str i/\y=.str j/\Q (.bl (!(!(Builtin.Str.occurrences j i 0 j.length 1).isEmpty))) H):=by
 intro w4 s O H x y v u Q I rx ry h;obtain⟨i,j,rfl,rfl,q⟩:=h;obtain⟨t,rfl⟩:=rx;obtain⟨t',rfl⟩:=ry;exact notIn_str (KS I q rfl)
theorem Qw(b:Expr){op:CmpOp}(h:op≠.In:=by decide)(h2:op≠.NotIn:=by decide):behindInMarks op b=false:=by
 have e1:(op==CmpOp.In)=false:=by cases op<;>first|rfl|exact absurd rfl h
 have e2:(op==CmpOp.NotIn)=false:=by cases op<;>first|rfl|exact absurd rfl h2
 cases b<;>simp[behindInMarks,e1,e2]
theorem Tx{op:CmpOp}{r:R2}(ho:OpR X (compareOp op) r)(ha:PE X a ta)(hb:PE X b tb)(hm:behindInMarks op b=false):PE X (.Compare a [op] [b] pos) (tOp r ta tb):=by
 intro w4 s O H Q I h;exact wpAny_Compare1 (Wq ha hb I h λv u s2 x y H2 I2 rx ry q=>ho w4 s2 O H2 x y v u Q I2 rx ry q) hm
noncomputable def W7(t:TE):TT:=λO H Q=>t O H λx H'=>∃k,x=.bl k/\Q k H'
theorem Tl{op:CmpOp}{r:R2}(ho:OpR X (compareOp op) r)(ha:PE X a ta)(hb:PE X b tb)(hm:behindInMarks op b=false):PT X (.Compare a [op] [b] pos) (W7 (tOp r ta tb)):=by
 intro w4 s O H Q I h;refine wpAny_isTrue_Compare1 (thn (ha w4 s O H _ I h) λv s1 ⟨x,H1,I1,r1,q1⟩=>thn (hb w4 s1 O H1 _ I1 q1) λu s2 ⟨y,H2,I2,r2,q2⟩=>
  thn (ho w4 s2 O H2 x y v u _ I2 r1 r2 q2) λc s3 ⟨z,H3,I3,r3,k,e,q3⟩=>?_) hm
 subst e;cases r3;exact wpAny_truthy_bool ⟨H3,I3,q3⟩
noncomputable def P2(r r':R2)(ta tb tc:TE):TE:=λO H Q=>ta O H λx H1=>tb O H1 λy H2=>r x y H2 λz H3=>∃k,z=.bl k /\
 (if k=true then tc O H3 λw' H4=>r' y w' H4 Q else Q (.bl false) H3)
theorem Ql{op op':CmpOp}{r r':R2}(ho:OpR X (compareOp op) r)(ho':OpR X (compareOp op') r')(ha:PE X a ta)(hb:PE X b tb)(hc:PE X c tc)
  (hm:lastMarks [op,op'] [b,c]=false:=by with_unfolding_all rfl):PE X (.Compare a [op,op'] [b,c] pos) (P2 r r' ta tb tc):=by
 intro w4 s O H Q I h;refine Compare_chain (thn (ha w4 s O H _ I h) λv s1 ⟨x,H1,I1,r1,q1⟩=>chain_link (thn (hb w4 s1 O H1 _ I1 q1) λu s2 ⟨y,H2,I2,r2,q2⟩=>
  thn (ho w4 s2 O H2 x y v u _ I2 r1 r2 q2) λd s3 ⟨z,H3,I3,r3,k,e,q3⟩=>?_)) hm
 subst e;cases r3;refine wpAny_truthy_bool ?_;cases k with
 |false=>exact ite_ff ⟨.bl false,H3,I3,rfl,q3⟩
 |true=>exact ite_tt (chain_last (thn (hc w4 s3 O H3 _ I3 q3) λw' s4 ⟨z',H4,I4,r4,q4⟩=>ho' w4 s4 O H4 y z' u w' Q I4 r2 r4 q4))
def YL(K:PySem.W.Frag)(x:V)(H:Hp)(k:Bool):Prop:=
 match x with
 | .non=>k=false
 | .bl b=>k=b
 | .int i=>k=(i != 0)
 | .str y=>y.length<=sizeLine/\k=((y.length:Int) != 0)
 | .byt y=>y.size<=sizeLine/\k=((y.size:Int) != 0)
 | .ref p=>(∃xs,SqL K H p xs/\k=!xs.isEmpty)∨(∃xs,SqT K H p xs/\k=!xs.isEmpty)∨∃kvs,H p=some (.dK kvs)/\k=!kvs.isEmpty
 |_=>False
theorem Mn{κ:Type}{kvs:List (κ×V)}{vs:List (κ×Value)}(r:KV kvs vs):(!vs.isEmpty)=!kvs.isEmpty:=by
 cases r<;>rfl
theorem Ho{xs:List V}{its:List Value}(r:Vals xs its):(!its.toArray.isEmpty)=!xs.isEmpty:=by
 cases r<;>simp
theorem GO:(sizeLine:Nat)<2 ^ 63:=by rw[sizeLine_eq];decide
theorem VQ:Y6 X (λx H Q=>∃k,YL X.K x H k/\Q k H):=by
 intro w4 s O H x v Q I rx h;obtain⟨k,e,q⟩:=h;have hl:=GO;have hs:sizeLine=16777216:=sizeLine_eq;cases x with
 |non=>
  cases rx;have e':k=false:=e;subst e';exact truthy_none ⟨H,I,q⟩
 |bl b=>
  cases rx;have e':k=b:=e;subst e';exact wpAny_truthy_bool ⟨H,I,q⟩
 |int i=>
  obtain⟨t,rfl⟩:=rx;have e':k=(i != 0):=e;subst e';exact PySem.P.truthy_int ⟨H,I,q⟩
 |str y=>
  obtain⟨t,rfl⟩:=rx;obtain⟨hy,e'⟩:y.length<=sizeLine/\k=((y.length:Int) != 0):=e;subst e';exact PySem.P.truthy_str (by omega) ⟨H,I.tok _,q⟩
 |byt y=>
  obtain⟨t,rfl⟩:=rx;obtain⟨hy,e'⟩:y.size<=sizeLine/\k=((y.size:Int) != 0):=e;subst e';exact PySem.W.truthy_bytes (by omega) ⟨H,I.tok _,q⟩
 |ref p=>
  cases rx;have e':(∃xs,SqL X.K H p xs/\k=!xs.isEmpty)∨(∃xs,SqT X.K H p xs/\k=!xs.isEmpty)∨∃kvs,H p=some (.dK kvs)/\k=!kvs.isEmpty:=e;rcases e' with ⟨xs,hx,e'⟩|⟨xs,hx,e'⟩|⟨kvs,hx,e'⟩
  ·subst e';obtain⟨its,r,pl,hz⟩:=I.list hx;have hlen:=r.length;exact wpAny_truthy_list pl.isList (by simp only[List.size_toArray];omega) ⟨H,I.tok _,by rw[Ho r];exact q⟩
  ·subst e';obtain⟨its,r,pl,hz⟩:=I.tuple hx;have hlen:=r.length;exact truthy_tuple pl (by simp only[List.size_toArray];omega) ⟨H,I.tok _,by rw[Ho r];exact q⟩
  ·subst e';obtain⟨hz,hS,vs,r,m⟩:kvs.length<=sizeLine/\(p==sysModules)=false/\∃vs,KV kvs vs/\s.heap.DictOf (Bh X.prog X.w) p vs:=I.hok p _ hx;have hlen:kvs.length=vs.length:=Paired.length r;exact wpAny_truthy_dict hS m (by omega) ⟨H,I.tok _,by rw[Mn r];exact q⟩
 |_=>exact(show False from e).elim
theorem QU(ha:PE X a ta)(he:∀whole,isTrue a X.env whole=(do let v ←whole;standAt a.pos;holding [v] (truthy v))):
  PT X a (λO H Q=>ta O H λx H'=>∃k,YL X.K x H' k/\Q k H'):=by
 intro w4 s O H Q I h;exact isTrue_plain (thn (ha w4 s O H _ I h) λv s1 ⟨x,H1,I1,r1,q1⟩=>VQ w4 s1 O H1 x v Q I1 r1 q1) (he _)
theorem Mc:OpR X (binaryOp .Add) (λx y H Q=>∃i j,x=.str i/\y=.str j/\i.length+j.length<=sizeLine/\Q (.str (i++j)) H):=by
 intro w4 s O H x y v u Q I rx ry h;obtain⟨i,j,rfl,rfl,hz,q⟩:=h;obtain⟨t,rfl⟩:=rx;obtain⟨t',rfl⟩:=ry;exact add_str (λt' tk=>⟨.str (i++j),H,I.tok _,⟨_,rfl⟩,q⟩) hz
theorem FM{x:V}{us:List Value}(r:Vals [x] us):∃u,us=[u]/\RelV x u:=by
 cases r with
 |cons r1 r2=>cases r2;exact⟨_,rfl,r1⟩
theorem W5{x y:V}{us:List Value}(r:Vals [x,y] us):∃u w',us=[u,w']/\RelV x u/\RelV y w':=by
 cases r with
 |cons r1 r2=>
  cases r2 with
  |cons r3 r4=>cases r4;exact⟨_,_,rfl,r1,r3⟩
theorem PD:CA X (.type "int") (λxs H Q=>(∃i,xs=[.int i]/\Q (.int i) H)∨∃k,xs=[.bl k]/\Q (.int (if k then 1 else 0)) H):=by
 intro w4 s O H xs us Q I r h;rcases h with ⟨i,rfl,q⟩|⟨k,rfl,q⟩
 ·obtain⟨u,rfl,t,rfl⟩:=FM r;exact call_int_int ⟨.int i,H,I,⟨_,rfl⟩,q⟩
 ·obtain⟨u,rfl,r1⟩:=FM r;cases r1;exact call_int_bool ⟨.int (if k then 1 else 0),H,I.tok _,⟨_,rfl⟩,q⟩
def Y9(K:PySem.W.Frag)(x:V)(H:Hp)(n:Nat):Prop:=
 match x with
 | .str y=>y.length<=sizeLine/\n=y.length
 | .byt y=>y.size<=sizeLine/\n=y.size
 | .ref p=>(∃xs,SqL K H p xs/\n=xs.length)∨∃xs,SqT K H p xs/\n=xs.length
 |_=>False
theorem SE:CA X (.builtin "len") (λxs H Q=>∃x n,xs=[x]/\Y9 X.K x H n/\Q (.int n) H):=by
 intro w4 s O H xs us Q I r h;obtain⟨x,n,rfl,e,q⟩:=h;obtain⟨u,rfl,rx⟩:=FM r;have hl:=GO;have hs:sizeLine=16777216:=sizeLine_eq;cases x with
 |str y=>
  obtain⟨t,rfl⟩:=rx;obtain⟨hy,e'⟩:y.length<=sizeLine/\n=y.length:=e;subst e';exact len_str (by omega) ⟨.int _,H,I.tok _,⟨_,rfl⟩,q⟩
 |byt y=>
  obtain⟨t,rfl⟩:=rx;obtain⟨hy,e'⟩:y.size<=sizeLine/\n=y.size:=e;subst e';exact PySem.W.len_bytes (by omega) ⟨.int _,H,I.tok _,⟨_,rfl⟩,q⟩
 |ref p=>
  cases rx;have e':(∃xs,SqL X.K H p xs/\n=xs.length)∨∃xs,SqT X.K H p xs/\n=xs.length:=e;rcases e' with ⟨xs,hx,e'⟩|⟨xs,hx,e'⟩
  ·subst e';obtain⟨its,r',pl,hz⟩:=I.list hx;have hlen:=r'.length;exact Calls.call_len_list pl.isList (by simp only[List.size_toArray];omega) ⟨.int xs.length,H,I.tok _,⟨_,by simp only[List.size_toArray];rw[hlen]⟩,q⟩
  ·subst e';obtain⟨its,r',pl,hz⟩:=I.tuple hx;have hlen:=r'.length;exact len_tuple pl (by simp only[List.size_toArray];omega) ⟨.int xs.length,H,I.tok _,⟨_,by simp only[List.size_toArray];rw[hlen]⟩,q⟩
 |_=>exact(show False from e).elim
end
structure ObjM(h:Heap)(x dx C:Addr)(mA:Str->Option Value):Prop where
 obj:h.get? x=some (PySem.W.instObj C dx)
 ns:h.Ns1 dx mA
 ne:dx≠x
theorem Ol{h:Heap}{dx:Addr}{mA:Str->Option Value}(n:h.Ns1 dx mA):∃od,h.get? dx=some od/\∀name,PySem.W.lookIn name od=some (mA name):=by
 obtain⟨o,es,ep,ho,hd,hk,_,hm⟩:=n;refine⟨o,ho,λname=>?_⟩;have e:=hm name;unfold nsFind findBy at e;rw[←Array.find?_toList] at e;unfold PySem.W.lookIn;rw[hd];dsimp only;split
 ·rename_i y q;rw[q] at e;exact congrArg some e
 ·rename_i q;rw[q] at e;have a:es.toList.any (·.refKey)=false:=by
   rw[List.any_eq_false];intro y hy;obtain⟨z,t,hkey⟩:=hk y (Array.mem_toList_iff.mp hy);simp[DictEntry.refKey,hkey]
  have a':¬es.toList.any (·.refKey)=true:=by rw[a];exact AAh
  rw[if_neg a'];exact congrArg some e
theorem ObjM.look{h:Heap}{x dx C:Addr}{mA:Str->Option Value}(I:ObjM h x dx C mA):∃od,PySem.W.InstAt h x (PySem.W.instObj C dx) C (some od)/\∀name,PySem.W.lookIn name od=some (mA name):=
 let ⟨od,ho,hl⟩:=Ol I.ns
 ⟨od,⟨I.obj,rfl,rfl,ho⟩,hl⟩
theorem RelO.some_of{v:V}{o:Option Value}(r:RelO (some v) o):∃u,o=some u/\RelV v u:=by
 cases o with
 |none=>exact(show False from r).elim
 |some u=>exact⟨u,rfl,r⟩
section
variable{P:Program}{w:World}{H:Hp}{h:Heap}{a C dx:Addr}{fs:List (Str×V)}
theorem UU(hok:HOk P w H h)(e:H a=some (.ins C dx fs)):∃mA,ObjM h a dx C mA/\(∀f,RelO (fs.lookup f) (mA f))/\PySem.Within mA (fs.map (·.1))/\fs.length<=1000/\H dx=some (.own a):=by
 obtain⟨d,z,ne,ob,mA,n,r,q⟩:=(show ObjOk P w H h a (.ins C dx fs) from hok a _ e);exact⟨mA,⟨ob,n,ne⟩,r,q,z,d⟩
end
structure Cls(K:PySem.W.Frag)(C:Addr):Prop where
 pg:PySem.W.plainGet K C Str.empty=true
 hd:PySem.W.hasDictIn K C=true
 po:PySem.W.plainOver K C=true
 sa:PySem.W.findIn K (.ref C) "__setattr__" = some (some (.builtin "object.__setattr__"))
theorem Cls.get{K:PySem.W.Frag}{C:Addr}(c:Cls K C)(f:Str):PySem.W.plainGet K C f=true:=c.pg
section
variable{X:Cx}{w4:List (Addr×Obj)}{O:St}{H:Hp}{s:Shared}{A:Around}{E:Value->Shared->Prop}{Q:Value->Shared->Prop}{c:Value}{b:Bool}
inductive GE (K:PySem.W.Frag) (H:Hp):V->Value->Prop where
 |non:GE K H .non (.type "NoneType")
 |bl (x:Bool):GE K H (.bl x) (.type "bool")
 |int (i:Int):GE K H (.int i) (.type "int")
 |str (x:Str):GE K H (.str x) (.type "str")
 |flt (x:UInt64):GE K H (.flt x) (.type "float")
 |lst {a:Addr} {xs:List V} (e:H a=some (.lst xs)):GE K H (.ref a) (.type "list")
 |frz {a:Addr} {o:Obj} {xs:List V} (e:H a=some (.frz o (.lst xs))):GE K H (.ref a) (.type "list")
 |tup {a:Addr} {xs:List V} (e:H a=some (.tup xs)):GE K H (.ref a) (.type "tuple")
 |dK {a:Addr} {kvs:List (Key×V)} (e:H a=some (.dK kvs)):GE K H (.ref a) (.type "dict")
 |dT {a:Addr} {kvs:List (List Key×V)} (e:H a=some (.dT kvs)):GE K H (.ref a) (.type "dict")
 |ins {a C dx:Addr} {fs:List (Str×V)} (e:H a=some (.ins C dx fs)) (cl:Cls K C) (ha:PySem.W.findIn K (.ref C) "__class__" = some (some (.builtin "object.__class__")))
   (hn:PySem.W.specialIn K (.builtin "object.__class__") "__get__" = some (some (.builtin "getset_descriptor.__get__"))) (htk:PySem.W.takesIn K (.builtin "object.__class__")=some true)
   (hm:PySem.W.mroIn K C (.type "object")=some true):GE K H (.ref a) (.ref C)
theorem Op{x:V}{u t:Value}(I:Inv X w4 O H s)(rx:RelV x u)(ty:GE X.K H x t)(e:PySem.W.kitOne X.K t c=some b)(h:∀tk,Q (.bool b) { s with toks:=tk }):
  wpAny (model X.prog X.w) A (call (.builtin "isinstance") [u,c]) Q E s:=by
 cases ty with
 |non=>cases (show u=Value.none from rx);exact PySem.W.kia_one PySem.W.kitx_none I.kIn True.intro e (λz=>nomatch z) h
 |bl y=>cases (show u=Value.bool y from rx);exact PySem.W.kia_one PySem.W.kitx_bool I.kIn True.intro e (λz=>nomatch z) h
 |int i=>obtain⟨t,q⟩:=(show ∃t,u=Value.int i t from rx);cases q;exact PySem.W.kia_one PySem.W.kitx_int I.kIn True.intro e (λz=>nomatch z) h
 |str y=>obtain⟨t,q⟩:=(show ∃t,u=Value.str y t from rx);cases q;exact PySem.W.kia_one PySem.W.kitx_str I.kIn True.intro e (λz=>nomatch z) h
 |flt y=>obtain⟨t,q⟩:=(show ∃t,u=Value.float y t from rx);cases q;exact PySem.W.kia_one PySem.W.kitx_float I.kIn True.intro e (λz=>nomatch z) h
 |@lst a xs ea=>
  cases (show u=Value.ref a from rx);obtain⟨_,_,n,_,h1⟩:=(show ObjOk X.prog X.w H s.heap a (.lst xs) from I.hok a _ ea);exact PySem.W.kia_one PySem.W.kitx_list I.kIn ⟨_,h1,rfl⟩ e (λz=>nomatch z) h
 |@frz a ob xs ea=>
  cases (show u=Value.ref a from rx);obtain⟨_,_,_,n,_,h1⟩:=(show ObjOk X.prog X.w H s.heap a (.frz ob (.lst xs)) from I.hok a _ ea);exact PySem.W.kia_one PySem.W.kitx_list I.kIn ⟨_,h1,rfl⟩ e (λz=>nomatch z) h
 |@tup a xs ea=>
  cases (show u=Value.ref a from rx);obtain⟨_,_,_,p⟩:=(show ObjOk X.prog X.w H s.heap a (.tup xs) from I.hok a _ ea);obtain⟨o,h1,h2,_⟩:=p;exact PySem.W.kia_one PySem.W.kitx_tuple I.kIn ⟨o,h1,h2⟩ e (λz=>nomatch z) h
 |@dK a kvs ea=>
  cases (show u=Value.ref a from rx);obtain⟨_,_,vs,_,p⟩:=(show ObjOk X.prog X.w H s.heap a (.dK kvs) from I.hok a _ ea);obtain⟨o,es,ep,h1,h2,_⟩:=p;exact PySem.W.kia_one PySem.W.kitx_dict I.kIn ⟨o,h1,h2.1⟩ e (λz=>nomatch z) h
 |@dT a kvs ea=>
  cases (show u=Value.ref a from rx);obtain⟨_,_,xs,_,o,es,ep,h1,h2,_⟩:=(show ObjOk X.prog X.w H s.heap a (.dT kvs) from I.hok a _ ea);exact PySem.W.kia_one PySem.W.kitx_dict I.kIn ⟨o,h1,h2.1⟩ e (λz=>nomatch z) h
 |@ins a C dx fs ea cl ha hn htk hm=>
  cases (show u=Value.ref a from rx);obtain⟨mA,O_,_⟩:=UU I.hok ea;obtain⟨od,J,_⟩:=O_.look;exact PySem.W.kia_one (PySem.W.kitx_own (cl.get _) cl.hd ha hn htk hm) I.kIn J e (λz=>nomatch z) h
end
structure Room(k:Nat)(A:Around):Prop where
 hd:A.handled=none
 dp:A.depth+3 * k+5<recursionLimit
 un:A.units+16 * k+200<cLine
theorem Room.mono{j k:Nat}{A:Around}(r:Room k A)(h:j<=k):Room j A:=⟨r.hd,by have:=r.dp;omega,by have:=r.un;omega⟩
theorem Room.deeper{k:Nat}{A:Around}(r:Room (k+1) A)(env:Env):Room k (A.deeper env):=
 ⟨r.hd,by have:=r.dp;show A.depth+1+3 * k+5<_;omega,by have:=r.un;show A.units+3+16 * k+200<_;omega⟩
theorem Room.depth{k:Nat}{A:Around}(r:Room k A):A.depth<recursionLimit:=by have:=r.dp;omega
theorem Room.units{k:Nat}{A:Around}(r:Room k A):A.units+64<cLine:=by have:=r.un;omega
noncomputable def YW:TA:=λ_ H Q=>Q [] H
noncomputable def XF(ta:TE)(tr:TA):TA:=λO H Q=>ta O H λx H1=>tr O H1 λxs H2=>Q (x::xs) H2
section
variable{X:Cx}{e:Expr}{es:List Expr}{te:TE}{t:TA}{pos:Pos}
theorem HZ:PA X [] YW:=λ_ _ _ _ H Q I h=>Calls.spliced_nil ⟨[],H,I,.nil,h⟩
theorem Fv(ha:PE X e te)(hr:PA X es t)(hs:starEach (e::es) X.env=(false,eval e X.env)::starEach es X.env:=by rfl):PA X (e::es) (XF te t):=by
 intro pos w4 s O H Q I h;rw[hs];show wpAny _ _ (spliced ((false,eval e X.env)::backTo pos (starEach es X.env))) _ _ s;refine Calls.spliced_cons (thn (ha w4 s O H _ I h) λu s1 ⟨x,H1,I1,r1,q1⟩=>?_);exact thn (hr pos w4 s1 O H1 _ I1 q1) λus s2 ⟨xs,H2,I2,r2,q2⟩=>⟨x::xs,H2,I2,.cons r1 r2,q2⟩
noncomputable def YS(t:TA):TE:=λO H Q=>t O H λxs H1=>xs.length<=sizeLine/\∀p,H1 p=none->Q (.ref p) (upd H1 p (.tup xs))
noncomputable def YX(t:TA):TE:=λO H Q=>t O H λxs H1=>xs.length<=sizeLine/\∀p,H1 p=none->Q (.ref p) (upd H1 p (.lst xs))
theorem Vu{x1}(h:PA X es t):PE X (.Tuple es x1 pos) (YS t):=by
 intro w4 s O H Q I hq;refine wpAny_Tuple_spliced (thn (h pos w4 s O H _ I hq) λus s1 ⟨xs,H1,I1,r,z,q⟩=>⟨by rw[←r.length];exact z,?_⟩);have hf:H1 s1.heap.objs.size=none:=I1.hok.fresh (AAE _);refine⟨.ref s1.heap.objs.size,upd H1 s1.heap.objs.size (.tup xs),I1.laid (t':=s1.toks) (λb u e=>AAC _ e) (AAE _) ?_,rfl,q _ hf⟩;exact⟨z,us,r,⟨_,AAD _ rfl,rfl,_,rfl⟩⟩
theorem Qf(h:PA X es t):PE X (.List es pos) (YX t):=by
 intro w4 s O H Q I hq;refine wpAny_List_spliced (thn (h pos w4 s O H _ I hq) λus s1 ⟨xs,H1,I1,r,z,q⟩=>⟨by rw[←r.length];exact z,?_⟩);have hf:H1 s1.heap.objs.size=none:=I1.hok.fresh (AAE _);refine⟨.ref s1.heap.objs.size,upd H1 s1.heap.objs.size (.lst xs),I1.laid (t':=s1.toks) (λb u e=>AAC _ e) (AAE _) ?_,rfl,q _ hf⟩;exact⟨z,us,0,r,AAD _ rfl⟩
end
noncomputable abbrev Sp:=List V->Hp->VK->XK->Prop
noncomputable abbrev CXT:=List Env->Hp->Shared->XK->Value->Shared->Prop
structure Uk(P:Program)(w:World)(K:PySem.W.Frag)(mg:Str->Option Value)(base:Heap)(A:Around)(outer:List Env)(s:Shared)(H:Hp):Prop where
 frames:A.frames=some outer
 mod:Mod K mg base
 bs:∀b o,base.get? b=some o->s.heap.get? b=some o/\H b=none
 bsz:base.objs.size<=s.heap.objs.size
 funs:s.heap.FunFrames base outer
 frf:∀b∈frs outer,H b=none
 hok:HOk P w H s.heap
 bare:AllBare s.gens
def CE(outer:List Env)(P:Program)(w:World)(H:Hp)(s:Shared)(Q:VK)(u:Value)(s':Shared):Prop:=
 ∃v H',s'.os=s.os/\AllBare s'.gens/\Un (frs outer) [] H H' s.heap s'.heap/\HOk P w H' s'.heap/\RelV v u/\Q v H'
def CR(CX:CXT)(outer:List Env)(P:Program)(w:World)(H:Hp)(s:Shared)(Q:VK)(E:XK)(r:Result)(s':Shared):Prop:=
 match r with
 | .ok (.ret u)=>CE outer P w H s Q u s'
 | .ok _=>False
 | .error e=>CX outer H s E e s'
structure FnOk(P:Program)(w:World)(K:PySem.W.Frag)(mg:Str->Option Value)(base:Heap)(CX:CXT)(k:Nat)(f:Addr)(fd:FuncData)(ps:List Str)(sp:Sp):Prop where
 len:∀vs H Q E,sp vs H Q E->vs.length=ps.length
 run:∀(A:Around) (outer:List Env) (s:Shared) (H:Hp) (args:Args) (us:List Value) (vs:List V) (Q:VK) (E:XK),Room k A->Uk P w K mg base A outer s H->BindsTo s fd args (ps.zip us)->Vals vs us->sp vs H Q E->
  codeAny (model P w) A (.call (.ref f) args) (CR CX outer P w H s Q E) s
theorem FnOk.imp{P:Program}{w:World}{K:PySem.W.Frag}{mg:Str->Option Value}{base:Heap}{CX:CXT}{k:Nat}{f:Addr}{fd:FuncData}{ps:List Str}{sp sp':Sp}(F:FnOk P w K mg base CX k f fd ps sp)
  (h:∀vs H Q E,sp' vs H Q E->sp vs H Q E):FnOk P w K mg base CX k f fd ps sp':=
 ⟨λvs H Q E q=>F.len vs H Q E (h _ _ _ _ q),λA outer s H args us vs Q E hr he hb hv hs=>F.run A outer s H args us vs Q E hr he hb hv (h _ _ _ _ hs)⟩
section
variable{X:Cx}{w4:List (Addr×Obj)}{O:St}{H:Hp}{s s':Shared}
theorem Inv.env0(I:Inv X w4 O H s):Uk X.prog X.w X.K X.mg X.base X.A X.stack s H:=
 ⟨I.ok.frames,I.ok.mod,I.bs,AAt I.ok.bsz I.sz,I.stack,I.stkFree,I.hok,I.bare⟩
theorem Inv.after{Q:VK}{u:Value}(I:Inv X w4 O H s)(h:CE X.stack X.prog X.w H s Q u s'):EP X w4 O Q u s':=by
 obtain⟨v,H',os,bare,un,hok,r,q⟩:=h;obtain⟨hh,g,d,t,os'⟩:=s';obtain rfl:os'=s.os:=os;exact⟨v,H',I.call (h':=hh) (g':=g) (d':=d) (t':=t) (ch:=[]) un hok bare (λb z=>absurd z (by simp)),r,q⟩
end
noncomputable def XG(sp:Sp)(dvs:List V)(E:XK)(t:TA):TE:=λO H Q=>t O H λvs H1=>sp (vs++dvs) H1 Q E
def Binds(K:PySem.W.Frag)(fd:FuncData)(ps:List Str)(ds:List Value):Prop:=
 ∀(s:Shared) (us:List Value),K.In s.heap->(us++ds).length=ps.length->BindsTo s fd ⟨us,[]⟩ (ps.zip (us++ds))
theorem Binds.all{K:PySem.W.Frag}{fd:FuncData}{ps:List Str}(h:∀us:List Value,us.length=ps.length->bindArgs fd ⟨us,[]⟩=pure (ps.zip us)):Binds K fd ps []:=λs us _ hl=>by
 rw[AAa] at hl ⊢;exact .of_eq (h us hl)
def M4(CX:CXT)(X:Cx)(E:XK):Prop:=∀(w4:List (Addr×Obj)) (O:St) (H:Hp) (s:Shared) (e:Value) (s':Shared),Inv X w4 O H s->CX X.stack H s E e s'->X.xe e s'
section
variable{X:Cx}{CX:CXT}{k:Nat}{f:Addr}{fd:FuncData}{ps:List Str}{sp:Sp}{dvs:List V}{ds:List Value}{E:XK}{x:Str}{p pos:Pos}{e:Expr}{es:List Expr}{t:TA}
theorem Vf{w4:List (Addr×Obj)}{O:St}{H:Hp}{s:Shared}{Q:VK}{us:List Value}{vs:List V}(F:FnOk X.prog X.w X.K X.mg X.base CX k f fd ps sp)(hr:Room k X.A)(hb:Binds X.K fd ps ds)(hd:Vals dvs ds)(hx:M4 CX X E)
  (I:Inv X w4 O H s) (r:Vals vs us) (h:sp (vs++dvs) H Q E):wpAny (model X.prog X.w) X.A (call (.ref f) us) (EP X w4 O Q) X.xe s:=by
 have r2:Vals (vs++dvs) (us++ds):=r.append hd;have hl:(us++ds).length=ps.length:=by rw[←r2.length];exact F.len _ _ _ _ h
 refine wpAny_call (codeAny_mono (F.run X.A X.stack s H ⟨us,[]⟩ (us++ds) (vs++dvs) Q E hr I.env0 (hb s us I.kIn hl) r2 h) λr s' hq=>?_);cases r with
 |error e=>exact hx w4 O H s e s' I hq
 |ok fl=>
  cases fl with
  |ret u=>exact I.after hq
  |next=>exact False.elim hq
  |brk=>exact False.elim hq
  |cont=>exact False.elim hq
theorem Ty(F:FnOk X.prog X.w X.K X.mg X.base CX k f fd ps sp)(hr:Room k X.A)(hg:Gl X x)(hm:X.mg x=some (.ref f))(hk:PySem.W.keepIn X.K (.ref f)=true)(hb:Binds X.K fd ps ds)(hd:Vals dvs ds)(hx:M4 CX X E)
  (ha:PA X (e::es) t) (hdb:(x==("__debug__" : Str))=false:=by decide) (he:starEach (e::es) X.env=(false,eval e X.env)::starEach es X.env:=by rfl) (hpl:(backTo pos (starEach es X.env)).any (·.1)=false:=by rfl) :
  PE X (.Call (.Name x p) (e::es) [] pos) (XG sp dvs E t):=by
 intro w4 s O H Q I h;refine wpAny_Call_Name_kw (Nd I hg hm ?_ hdb);refine PySem.W.callWith_K (h₀:=X.base) I.ok.mod.kin hk (thn (ha pos w4 s O H _ I h) λus s1 ⟨vs,H1,I1,r,q⟩=>⟨I1.kIn,?_⟩) he hpl;exact Vf F hr hb hd hx I1 r q
end
structure Ae(N P:List Str)(sc:Scope):Prop where
 kind:sc.kind=.function
 co:sc.isCoroutine=false
 gen:sc.isGenerator=false
 nd:N.Nodup
 pre:N.take P.length=P
 par:∀x∈P,sc.names.lookup x=some .local∨sc.names.lookup x=some .cell
 nofree:∀y∈sc.names,y.2≠.free
theorem Jg{kindOf:Str->Option NameKind}{x:Str}:∀{binds:List (Str×Value)} {m:Str->Option Value},(∀v,(x,v)∉binds)->bindL kindOf binds m x=m x
 |[],_,_=>rfl
 |(n,v)::r,m,h=>by
  unfold bindL;rw[Jg λw hw=>h w (AAQ _ hw)];split
  ·have:x≠n:=by rintro rfl;exact h v AAP
   simp[this]
  ·rfl
theorem Ji{kindOf:Str->Option NameKind}{x:Str}:∀{binds:List (Str×Value)} {m:Str->Option Value},(∀v,(x,v)∉binds)->bindC kindOf binds m x=m x
 |[],_,_=>rfl
 |(n,v)::r,m,h=>by
  unfold bindC;rw[Ji λw hw=>h w (AAQ _ hw)];split
  ·rfl
  ·have:x≠n:=by rintro rfl;exact h v AAP
   simp[this]
theorem Jh{kindOf:Str->Option NameKind}{x:Str}{v:Value}:∀{P:List Str} {vs:List Value} {i:Nat} {m:Str->Option Value},P.Nodup->P[i]?=some x->vs[i]?=some v->kindOf x=some .local->
  bindL kindOf (P.zip vs) m x=some v
 |[],_,_,_,_,h,_,_=>by simp at h
 |_::_,[],_,_,_,_,h,_=>by simp at h
 |p::P,w::vs,0,m,nd,h1,h2,hk=>by
  simp at h1 h2;subst h1;subst h2;show bindL kindOf ((p,w)::P.zip vs) m p=_;unfold bindL;rw[Jg λv hv=>(List.nodup_cons.mp nd).1 (List.of_mem_zip hv).1,if_pos hk];simp
 |p::P,w::vs,i+1,m,nd,h1,h2,hk=>by
  show bindL kindOf ((p,w)::P.zip vs) m x=_;unfold bindL;exact Jh (i:=i) (List.nodup_cons.mp nd).2 (by simpa using h1) (by simpa using h2) hk
theorem Jj{kindOf:Str->Option NameKind}{x:Str}{v:Value}:∀{P:List Str} {vs:List Value} {i:Nat} {m:Str->Option Value},P.Nodup->P[i]?=some x->vs[i]?=some v->kindOf x≠some .local->
  bindC kindOf (P.zip vs) m x=some v
 |[],_,_,_,_,h,_,_=>by simp at h
 |_::_,[],_,_,_,_,h,_=>by simp at h
 |p::P,w::vs,0,m,nd,h1,h2,hk=>by
  simp at h1 h2;subst h1;subst h2;show bindC kindOf ((p,w)::P.zip vs) m p=_;unfold bindC;rw[Ji λv hv=>(List.nodup_cons.mp nd).1 (List.of_mem_zip hv).1,if_neg hk];simp
 |p::P,w::vs,i+1,m,nd,h1,h2,hk=>by
  show bindC kindOf ((p,w)::P.zip vs) m x=_;unfold bindC;exact Jj (i:=i) (List.nodup_cons.mp nd).2 (by simpa using h1) (by simpa using h2) hk
def start(N:List Str)(vs:List V):St:=vs.map some++List.replicate (N.length-vs.length) none
noncomputable def Ic(CX:CXT)(P:Program)(w:World)(K:PySem.W.Frag)(mg:Str->Option Value)(base:Heap)(N:List Str)(qual:Str)(scope:Scope)(f:Addr)(cd:Value)(A:Around)(outer:List Env)(s:Shared)(H:Hp)(E:XK):Cx where
 prog:=P
 w:=w
 K:=K
 mg:=mg
 base:=base
 A:=A.deeper (envOfC qual scope s.heap.objs.size f cd)
 N:=N
 s₀:=s
 H₀:=H
 env:=envOfC qual scope s.heap.objs.size f cd
 outer:=outer
 stack:=envOfC qual scope s.heap.objs.size f cd::outer
 ex:=[]
 calm:=true
 fn:=λ_=>true
 pn:=[]
 xe:=λe s'=>wpAny (model P w) (A.deeper (envOfC qual scope s.heap.objs.size f cd)) (leaving (envOfC qual scope s.heap.objs.size f cd) e) (λ_ s''=>CX outer H s E e s'') (λe' s''=>CX outer H s E e' s'') s'
theorem Ls{sc:Scope}{n:Nat}{x:Str}(h:sc.names.lookup x=some .cell):∃c,(cellsFrom n sc.names []).lookup x=some c:=by
 have q:=PySem.W.cellsFrom_some sc.names n [] (.inl h);exact Option.isSome_iff_exists.mp q
theorem FD{CX:CXT}{P:Program}{w:World}{K:PySem.W.Frag}{mg:Str->Option Value}{base:Heap}{N ps:List Str}{qual:Str}{scope:Scope}{f:Addr}{cd:Value}{A:Around}{outer:List Env}{s s1:Shared}{H:Hp}{E:XK}{us:List Value}{vs:List V}
  (S:Ae N ps scope) (hd:A.handled=none) (e0:Uk P w K mg base A outer s H) (hl:vs.length=ps.length) (r:Vals vs us)
  (x:InCallC s s.heap.objs.size (bindL (envOfC qual scope s.heap.objs.size f cd).kindOf (ps.zip us) λ_=>none) (cellsFrom (s.heap.objs.size+1) scope.names []) (bindC (envOfC qual scope s.heap.objs.size f cd).kindOf (ps.zip us) λ_=>none) s1) :
  Inv (Ic CX P w K mg base N qual scope f cd A outer s H E) [] (start N vs) H s1:=by
 have hpl:ps.length<=N.length:=by have:=congrArg List.length S.pre;rw[List.length_take] at this;omega
 obtain⟨h1,tk,rfl,hk⟩:=x.done;have noA:∀b:Addr,b∉(Ic CX P w K mg base N qual scope f cd A outer s H E).ex:=λb z=>absurd (show b∈([]:List Addr) from z) (by simp);refine⟨⟨e0.mod,S.kind,rfl,rfl,AAE _,λy z c h1 h2=>?_,λy hy=>?_,λy c _ h=>?_,λ_=>hd,Around.frames_deeper e0.frames,.inr ⟨rfl,rfl⟩,λb z=>absurd z (noA b),e0.bs,e0.bsz,λb _ _=>noA b,λb z=>absurd z (noA b),e0.funs,e0.frf⟩,
  rfl,e0.bare,Un.kept hk,⟨_,x.toInCall.ns,λi y v h1 h2 h3=>?_⟩,λy c h=>⟨_,x.cell y c h⟩,e0.hok.fresh (AAE _),λy c h=>?_,λp hp=>absurd (show p∈([]:List (Addr×Obj)) from hp) (by simp),e0.hok.kept hk,?_⟩
 ·exact name_of_addr x.apart (PySem.mem_of_lookup h1) (PySem.mem_of_lookup h2)
 ·have hy:scope.names.lookup y=some .cell∨scope.names.lookup y=some .free:=hy;rcases hy with hy|hy
  ·exact Ls hy
  ·exact absurd rfl (S.nofree _ (PySem.mem_of_lookup hy))
 ·exact Nat.le_of_lt (x.above y c (PySem.mem_of_lookup h))
 ·have hi:i<vs.length:=by
   unfold start at h2;by_cases hi:i<vs.length
   ·exact hi
   ·rw[AAR (by simpa using hi)] at h2;rw[List.getElem?_replicate] at h2;split at h2<;>cases h2
  have ha:vs[i]?=some v:=by
   unfold start at h2;rw[AAS (by simpa using hi),AAV] at h2;cases e:vs[i]? with
   |none=>rw[e] at h2;cases h2
   |some a=>rw[e] at h2;cases h2;rfl
  obtain⟨u,hu,rv⟩:=r.get ha;have hp:ps[i]?=some y:=by
   rw[←S.pre,List.getElem?_take_of_lt (by omega)];exact h1
  have ndP:ps.Nodup:=by rw[←S.pre];exact S.nd.sublist (List.take_sublist _ _)
  refine⟨u,rv,?_⟩;rcases S.par y (AAU hp) with k|k
  ·exact .inl ⟨k,Jh ndP hp hu k⟩
  ·obtain⟨c,e⟩:=Ls (n:=s.heap.objs.size+1) k;refine .inr ⟨.inl k,c,e,?_⟩;have q:=x.cell y c e;rw[Jj ndP hp hu (by show scope.names.lookup y≠_;rw[k];decide)] at q;exact q
 ·exact e0.hok.fresh (Nat.le_of_lt (x.above y c (PySem.mem_of_lookup h)))
 ·unfold start;show _=N.length;rw[AAG,AAF,AAo];omega
theorem YB{CX:CXT}{P:Program}{w:World}{K:PySem.W.Frag}{mg:Str->Option Value}{base:Heap}{k:Nat}{f:Addr}{name qual:Str}{params:Arguments}{body:List Stmt}{scope:Scope}{dV kV doc pm cdv ct oc:Value}{an od:Option Addr}
  {osl:Array (Option Value)} {N ps:List Str} {sp:Sp} (lk:K.lookup f=some ⟨oc,od,.func (PySem.W.fnOf name qual params body scope dV kV doc pm an cdv ct),osl⟩) (hcd:PySem.W.codeIn K cdv qual=true) (S:Ae N ps scope)
  (len:∀vs H Q E,sp vs H Q E->vs.length=ps.length)
  (hbody:∀(A:Around) (outer:List Env) (s:Shared) (H:Hp) (vs:List V) (Q:VK) (E:XK),Room k (A.deeper (envOfC qual scope s.heap.objs.size f cdv))->sp vs H Q E->
   ∃t,PSs (Ic CX P w K mg base N qual scope f cdv A outer s H E) body t/\t { nx:=λ_ H'=>Q .non H',rt:=Q } (start N vs) H) :
  FnOk P w K mg base CX (k+1) f (PySem.W.fnOf name qual params body scope dV kV doc pm an cdv ct) ps sp:=by
 refine⟨len,λA outer s H args us vs Q E hr e0 hb r hsp=>?_⟩;have hl:=len _ _ _ _ hsp;have KX:K.In s.heap:=e0.mod.kin.keeps λb o e=>(e0.bs b o e).1;have lim:s.heap.NoLimit:=e0.mod.nolimit.keeps λb o e=>(e0.bs b o e).1;have hkind:∀y∈ps.zip us,scope.names.lookup y.1=some .local∨(scope.names.lookup y.1=some .cell/\((cellsFrom (s.heap.objs.size+1) scope.names []).lookup y.1).isSome=true):=λ⟨n,v⟩ hy=>by
  rcases S.par n (List.of_mem_zip hy).1 with q|q
  ·exact .inl q
  ·exact .inr ⟨q,PySem.W.cellsFrom_some _ _ _ (.inl q)⟩
 refine codeAny_call_function hr.depth (KX _ _ lk) rfl S.co S.gen rfl (PySem.W.codeRec_of KX hcd) (hb _ _ _ _ ?_);refine wpAny_newFunctionEnv_cells S.kind hkind λenv he s1 x=>?_;subst he;refine⟨lim.keeps x.toInCall.keep,codeAny_func ?_⟩;obtain⟨t,ht,hq⟩:=hbody A outer s H vs Q E (hr.deeper _) hsp;have I:Inv (Ic CX P w K mg base N qual scope f cdv A outer s H E) [] (start N vs) H s1:=FD S hr.hd e0 hl r x;refine AAk (ht [] s1 (start N vs) H _ I hq) (λfl s' hs=>?_) λe s' hs=>hs;have fin:∀{O':St} {H':Hp} {v:V} {u:Value},Inv (Ic CX P w K mg base N qual scope f cdv A outer s H E) [] O' H' s'->RelV v u->Q v H'->CE outer P w H s Q u s':=
  λ{O' H' v u} J rv q=>⟨v,H',J.os,J.bare,J.base,J.hok,rv,q⟩
 cases fl with
 |ret u=>
  obtain⟨v,O',H',J,rv,q⟩:=hs;exact fin J rv q
 |next=>
  obtain⟨O',H',J,q⟩:=hs;exact fin (v:=V.non) (u:=Value.none) J rfl q
 |brk=>
  obtain⟨_,_,_,q⟩:=hs;exact False.elim q
 |cont=>
  obtain⟨_,_,_,q⟩:=hs;exact False.elim q
section
variable{X:Cx}{x:Str}{p pos:Pos}{e:Expr}{es:List Expr}{t:TA}{id T:String}{r:List V->Hp->VK->Prop}
noncomputable def tCB(r:List V->Hp->VK->Prop)(t:TA):TE:=λO H Q=>t O H λvs H1=>r vs H1 Q
theorem LK(hc:CA X (.builtin id) r)(hg:Gl X x)(hm:X.mg x=none)(hv:bootBuiltins x=some (.builtin id))(ha:PA X (e::es) t)(hn:x ≠ "__name__" := by decide)(hdb:(x==("__debug__" : Str))=false:=by decide)
  (he:starEach (e::es) X.env=(false,eval e X.env)::starEach es X.env:=by rfl) (hpl:(backTo pos (starEach es X.env)).any (·.1)=false:=by rfl):PE X (.Call (.Name x p) (e::es) [] pos) (tCB r t):=by
 intro w4 s O H Q I h;refine wpAny_Call_Name_kw (GP I hg hm hv ?_ hn hdb);exact PyProof.Rows.callWith_builtin1 (thn (ha pos w4 s O H _ I h) λus s1 ⟨vs,H1,I1,r1,q1⟩=>hc w4 s1 O H1 vs us Q I1 r1 q1) he hpl
theorem FC(hc:CA X (.type T) r)(hg:Gl X x)(hm:X.mg x=none)(hv:bootBuiltins x=some (.type T))(ha:PA X (e::es) t)(hn:x ≠ "__name__" := by decide)(hdb:(x==("__debug__" : Str))=false:=by decide)
  (he:starEach (e::es) X.env=(false,eval e X.env)::starEach es X.env:=by rfl) (hpl:(backTo pos (starEach es X.env)).any (·.1)=false:=by rfl):PE X (.Call (.Name x p) (e::es) [] pos) (tCB r t):=by
 intro w4 s O H Q I h;refine wpAny_Call_Name_kw (GP I hg hm hv ?_ hn hdb);exact PyProof.Rows.callWith_type1 (thn (ha pos w4 s O H _ I h) λus s1 ⟨vs,H1,I1,r1,q1⟩=>hc w4 s1 O H1 vs us Q I1 r1 q1) he hpl
end
end L2
namespace HT
open PySem PyProof.Rows
noncomputable def Ci:List Int->List Int->Bool
 |[],[]=>false
 |[],_::_=>true
 |_::_,[]=>false
 |x::xs,y::ys=>if x=y then Ci xs ys else decide (x<y)
theorem Bk(x y:Int)(xs ys:List Int):Ci (x::xs) (y::ys)=if x=y then Ci xs ys else decide (x<y):=rfl
theorem IZ:Ci [] []=false:=rfl
theorem Hh(y:Int)(ys:List Int):Ci [] (y::ys)=true:=rfl
theorem Hi(x:Int)(xs:List Int):Ci (x::xs) []=false:=rfl
theorem Rp(A:Around)(s:Shared)(a:Int)(t:Tok)(c:Int)(u:Tok):∃e,SeqAt.EqAt A s (.int a t) (.int c u) e/\(e=true↔a=c):=
 ⟨(a==c),SeqAt.EqAt.int_int a t c u,by simp⟩
theorem QN(A:Around)(s:Shared)(a:Int)(t:Tok)(c:Int)(u:Tok)(prog:Program)(w:World)(E:Value->Shared->Prop)(Q:Value->Shared->Prop)(h:Q (.bool (decide (a<c))) s):
  wpAny (model prog w) A (richCompare .Lt (.int a t) (.int c u)) Q E s:=
 (PyProof.Rows.lt_int h:wpAny (model prog w) A (compareOp .Lt (.int a t) (.int c u)) Q E s)
section
open PySem.SeqAt
open PySem.AutoSeq1 (wpAny_loadPart')
open PySem.MeetsSeq PySem.MeetsSeq2 PySem.MeetsSeq3
theorem IT(l b:Addr)(items items2:Array Value)(n n2:Nat)(dd dd2:Option Addr)(sl sl2:Array (Option Value))(ns ms:List Int)(hi:IntsAre items.toList ns)(hj:IntsAre items2.toList ms):
  Meets (Builtin.«tuple.__lt__» ⟨[.ref l,.ref b],[]⟩)
   (λ_ R s=>s.heap.get? l=some { cls:=.type "tuple",dict:=dd,data:=.seq items n,slots:=sl }/\s.heap.get? b=some { cls:=.type "tuple",dict:=dd2,data:=.seq items2 n2,slots:=sl2 } /\
    R (.ok (.ret (.bool (Ci ns ms)))) s):=
 .of_wp λprog w A R s h=>by
  obtain⟨hp,g,d,tk,os⟩:=s;obtain⟨hl,hb,h⟩:=h;have f2:=AutoSeq1.sub_tuple_tuple;have z1:items.size=ns.length:=by rw[←hi.length];simp
  have z2:items2.size=ms.length:=by rw[←hj.length];simp
  wp_walk using wpAny_loadPart' hl,wpAny_loadPart' hb,wpAny_forIn_list _ (λrest b s'=>b.1=none/\s'=⟨hp,g,d,tk,os⟩/\∃(vs ws:List Value) (ns' ms':List Int),rest=vs.zip ws /\
   IntsAre vs ns'/\IntsAre ws ms'/\ns'.length+items2.size=ms'.length+items.size/\R (.ok (.ret (.bool (Ci ns' ms')))) ⟨hp,g,d,tk,os⟩) _
  case turn=>
   rintro⟨y,x⟩ rest b s' ⟨hb',rfl,vs,ws,ns',ms',hz,hvi,hwi,hlen,hR⟩;cases hvi with
   |nil=>rw[List.zip_nil_left] at hz;cases hz
   |cons a t hvi'=>
    cases hwi with
    |nil=>rw[List.zip_nil_right] at hz;cases hz
    |cons c u hwi'=>
     rw[List.zip_cons_cons] at hz;injection hz with hyx hrest
     injection hyx with hy hx
     subst hy hx;rw[Bk] at hR;simp only[AAH] at hlen;obtain⟨e,he,hiff⟩:=Rp A.in1 ⟨hp,g,d,tk,os⟩ a t c u;refine AAA (he prog w _ _ ?_);cases e with
     |true=>
      rw[if_pos (hiff.mp rfl)] at hR
      wp_walk
      exact⟨rfl,rfl,_,_,_,_,hrest,hvi',hwi',by omega,hR⟩
     |false=>
      rw[if_neg (λq=>absurd (hiff.mpr q) AAh)] at hR;have hri:=QN A.in1 ⟨hp,g,d,tk,os⟩ a t c u prog w
      wp_walk using hri
      exact⟨_,rfl,by simpa using hR⟩
  case fin=>
   rintro⟨b1,b2⟩ s' ⟨hb',rfl,vs,ws,ns',ms',hz,hvi,hwi,hlen,hR⟩;simp only at hb';subst hb';have hv:Ci ns' ms'=decide (items.size<items2.size):=by
    cases hvi with
    |nil=>
     cases hwi with
     |nil=>
      simp only[List.length_nil] at hlen;rw[IZ];exact(AAN (by omega)).symm
     |cons c u hw=>
      simp only[List.length_nil,AAH] at hlen;rw[Hh];exact(AAO (by omega)).symm
    |cons a t hv=>
     cases hwi with
     |nil=>
      simp only[List.length_nil,AAH] at hlen;rw[Hi];exact(AAN (by omega)).symm
     |cons c u hw=>
      rw[List.zip_cons_cons] at hz;cases hz
   rw[hv] at hR
   wp_walk
   exact⟨_,rfl,by simpa[Builtin.Tuple.tupleCompareSizes] using hR⟩
  case h=>
   exact⟨rfl,rfl,items.toList,items2.toList,ns,ms,rfl,hi,hj,by omega,h⟩
end
section
variable{prog:Program}{w:World}{A:Around}{E:Value->Shared->Prop}{s:Shared}
theorem Me{l b:Addr}{items items2:Array Value}{ns ms:List Int}{Q:Value->Shared->Prop}(hl:IsTup s.heap l items)(hb:IsTup s.heap b items2)(hi:IntsAre items.toList ns)(hj:IntsAre items2.toList ms)
  (hu:A.units<cLine) (h:Q (.bool (Ci ns ms)) s):wpAny (model prog w) A (compareOp .Lt (.ref l) (.ref b)) Q E s:=by
 obtain⟨⟨cls,dd,data,sl⟩,ho,hc,n,hd⟩:=id hl;obtain⟨⟨cls2,dd2,data2,sl2⟩,ho2,hc2,n2,hd2⟩:=id hb;simp only at hc hd hc2 hd2;subst hc hd hc2 hd2;exact richCompare_meets_room (op:=.Lt) ⟨_,ho,rfl⟩ ⟨_,ho2,rfl⟩ PySem.F.slot_tuple_lt PySem.F.entry_tuple_lt (PySem.F.args_tuple_lt_2 _ _) (IT l b items items2 n n2 dd dd2 sl sl2 ns ms hi hj)
  ⟨ho,ho2,show Value.bool (Ci ns ms)≠Value.notImplemented/\Q (.bool (Ci ns ms)) s from ⟨(λx=>nomatch x),h⟩⟩ hu
theorem Uf{t b:Addr}{vs ws:List Value}{Q:Value->Shared->Prop}(ht:IsTup s.heap t vs.toArray)(hb:IsTup s.heap b ws.toArray)(hv:vs≠[])
  (h1:ws=[]->Q (.ref t) s) (h2:ws≠[]->Q (.ref s.heap.objs.size) { s with heap:=s.heap.push { cls:=.type "tuple",data:=.seq (vs++ws).toArray } })
  (hsz:vs.length+ws.length<=sizeLine):wpAny (model prog w) A (binaryOp .Add (.ref t) (.ref b)) Q E s:=by
 obtain⟨⟨cls,dd,data,sl⟩,ho,hc,n,hd⟩:=id ht;obtain⟨⟨cls2,dd2,data2,sl2⟩,ho2,hc2,n2,hd2⟩:=id hb;simp only at hc hd hc2 hd2;subst hc hd hc2 hd2;have e:vs.toArray++ws.toArray=(vs++ws).toArray:=by simp
 by_cases hw:ws=[]
 ·exact concat_meets ⟨_,ho,rfl⟩ ⟨_,ho2,rfl⟩ noFill_tuple_add seq_tuple_add PySem.F.slot_tuple_add PySem.F.entry_tuple_add (PySem.F.args_tuple_add_2 _ _)
   (tuple_addW1 t b vs.toArray ws.toArray n n2 dd dd2 sl sl2 (by simpa using hv) (by simp[hw])) ⟨ho,ho2,h1 hw⟩
 ·refine concat_meets ⟨_,ho,rfl⟩ ⟨_,ho2,rfl⟩ noFill_tuple_add seq_tuple_add PySem.F.slot_tuple_add PySem.F.entry_tuple_add (PySem.F.args_tuple_add_2 _ _)
   (tuple_addW2 t b vs.toArray ws.toArray n n2 dd dd2 sl sl2 (by simpa using hv) (by simpa using hw) (by rw[List.size_toArray,List.size_toArray];exact hsz)) ⟨ho,ho2,?_⟩
  rw[e];exact h2 hw
noncomputable def sIx(n d:Nat):Option Int->Nat
 |none=>d
 |some v=>if v<0 then (v+(n:Int)).toNat else min v.toNat n
theorem LA(n d:Nat):sIx n d none=d:=rfl
theorem Gu(n d k:Nat):sIx n d (some (k:Int))=min k n:=by
 show (if (k:Int)<0 then ((k:Int)+(n:Int)).toNat else min (k:Int).toNat n)=min k n;rw[if_neg (by omega),Int.toNat_natCast]
theorem Ve(n d:Nat)(hd:d<=n)(o:Option Int):sIx n d o<=n:=by
 cases o with
 |none=>exact hd
 |some v=>
  show (if v<0 then (v+(n:Int)).toNat else min v.toNat n)<=n;by_cases hv:v<0
  ·rw[if_pos hv];omega
  ·rw[if_neg hv];exact Nat.min_le_right _ _
theorem N0(v:Int)(n d:Nat):(if v<0 then max (v+(n:Int)) 0 else min v (n:Int))=((sIx n d (some v):Nat):Int):=by
 show (if v<0 then max (v+(n:Int)) 0 else min v (n:Int))=(((if v<0 then (v+(n:Int)).toNat else min v.toNat n):Nat):Int);by_cases hv:v<0
 ·simp only[if_pos hv];omega
 ·simp only[if_neg hv];omega
theorem M3(lo hi:Option Int)(n:Nat):Builtin.Slice.sliceAdjust lo hi 1 (n:Int)=(((sIx n 0 lo:Nat):Int),((sIx n n hi:Nat):Int)):=by
 have h1:¬((1:Int)<0):=by omega
 unfold Builtin.Slice.sliceAdjust;simp only[h1,if_false];refine Prod.ext ?_ ?_
 ·cases lo with
  |none=>rfl
  |some v=>exact N0 v n 0
 ·cases hi with
  |none=>rfl
  |some v=>exact N0 v n n
theorem Ma(i j:Nat):Builtin.Slice.slicePlaces (i:Int) (j:Int) 1=j-i:=by
 unfold Builtin.Slice.slicePlaces;have h1:(1:Int) > 0:=by omega
 simp only[h1,if_true,Int.ediv_one];split<;>omega
theorem HJ{v:Value}{o:Option Int}{Q:Option Int->Shared->Prop}(p:IsPart v o)(h:Q o s):wpAny (model prog w) A (Builtin.Slice.slicePartIndex v) Q E s:=by
 cases p with
 |none=>exact slicePart_none h
 |int i t=>exact slicePart_int h
theorem Dt{sl:Addr}{vl vu:Value}{lo hi:Option Int}{n:Nat}{Q:Int×Int×Nat->Shared->Prop}(hs:s.heap.IsSliceOf sl vl vu .none)(pl:IsPart vl lo)(pu:IsPart vu hi)
  (h:Q (((sIx n 0 lo:Nat):Int),1,sIx n n hi-sIx n 0 lo) s):wpAny (model prog w) A (Builtin.Slice.sliceApplied (.ref sl) (pure (n:Int))) Q E s:=by
 obtain⟨os,hos,hcs,hds⟩:=id hs;unfold Builtin.Slice.sliceApplied Builtin.Slice.sliceFields;refine AAA (AAA (wpAny_field hos hds (x:=vl) rfl (AAA (wpAny_field hos hds (x:=vu) rfl (AAA (wpAny_field hos hds (x:=.none) rfl (AAB ?_)))))));refine AAA (slicePart_none ?_);show wpAny _ _ (if ((1:Int)==0)=true then _ else _) _ _ s;rw[if_neg (by decide)];refine AAA (HJ pl (AAA (HJ pu (AAA (AAB ?_)))));show wpAny _ _ (match Builtin.Slice.sliceAdjust lo hi 1 (n:Int) with|(lo,hi)=>pure (lo,(1:Int),Builtin.Slice.slicePlaces lo hi 1)) _ _ s;rw[M3 lo hi n];show wpAny _ _ (pure (((sIx n 0 lo:Nat):Int),(1:Int),Builtin.Slice.slicePlaces ((sIx n 0 lo:Nat):Int) ((sIx n n hi:Nat):Int) 1)) _ _ s;rw[Ma];exact AAB h
theorem Qb(xs:Array Value)(i k:Nat):((List.range k).filterMap λ(m:Nat)=>xs[((i:Int)+(m:Int) * 1).toNat]?).toArray=((xs.toList.drop i).take k).toArray:=by
 have e:(λ(m:Nat)=>xs[((i:Int)+(m:Int) * 1).toNat]?)=λm=>xs[i+m]?:=by
  funext m
  have:((i:Int)+(m:Int) * 1).toNat=i+m:=by omega
  rw[this]
 rw[e];have:=pick_run xs i k;rw[List.filterMap_map] at this;have e2:((λx=>xs[x]?) ∘ λx=>i+x)=λm=>xs[i+m]?:=rfl;rw[e2] at this;rw[this]
theorem F0{t sl:Addr}{items:Array Value}{vl vu:Value}{lo hi:Option Int}{Q:Value->Shared->Prop}(ht:IsTup s.heap t items)(hs:s.heap.IsSliceOf sl vl vu .none)(pl:IsPart vl lo)(pu:IsPart vu hi)
  (hw:¬(sIx items.size 0 lo=0/\sIx items.size items.size hi=items.size))
  (h:Q (.ref s.heap.objs.size) { s with heap:=s.heap.push { cls:=.type "tuple",data:=.seq ((items.toList.drop (sIx items.size 0 lo)).take (sIx items.size items.size hi-sIx items.size 0 lo)).toArray } })
  (hsz:items.size<=sizeLine):wpAny (model prog w) A (getItem (.ref t) (.ref sl)) Q E s:=by
 have htake:sizeOk (.seq ((items.toList.drop (sIx items.size 0 lo)).take (sIx items.size items.size hi-sIx items.size 0 lo)).toArray):=by
  show ((items.toList.drop (sIx items.size 0 lo)).take (sIx items.size items.size hi-sIx items.size 0 lo)).toArray.size<=sizeLine;rw[List.size_toArray,List.length_take,List.length_drop,Array.length_toList];omega
 have hj:sIx items.size items.size hi<=items.size:=Ve _ _ (AAE _) hi;obtain⟨os,hos,hcs,hds⟩:=id hs;have hTs:s.TypeIs (.ref sl) "slice" := ⟨os,hos,hcs⟩;unfold getItem
 try with_reducible refine AAq ?_
 first|refine AAA (AAB ?_)|skip
 refine AAA (wpAny_sequenceKey ht.typeIs (by decide) ?_);refine AAA (wpAny_callSpecial?_slot (name:=Str.ofString "__getitem__") ht.typeIs PyProof.Rows.slot_tuple_getitem
  (AAd PyProof.Rows.slot_tuple_getitem ht.typeIs entry_tuple_getitem ?_ (args_tuple_getitem _ _)))
 show wpAny _ _ (Builtin.Tuple.tupleItemsOf (.ref t) >>= _) _ _ s;refine AAA (tupleItemsOf_ ht ?_);refine AAA (wpAny_typeOf hTs ?_);rw[if_pos (by decide)];refine AAA (Dt hs pl pu ?_);have hno:¬((((sIx items.size 0 lo:Nat):Int)==0&&(1:Int)==1&&(sIx items.size items.size hi-sIx items.size 0 lo)==items.size)=true):=by
  intro q;rw[Bool.and_eq_true,Bool.and_eq_true] at q;have q1:((sIx items.size 0 lo:Nat):Int)=0:=eq_of_beq q.1.1;have q2:sIx items.size items.size hi-sIx items.size 0 lo=items.size:=eq_of_beq q.2;exact hw ⟨by omega,by omega⟩
 show wpAny _ _ (if (((sIx items.size 0 lo:Nat):Int)==0&&(1:Int)==1&&(sIx items.size items.size hi-sIx items.size 0 lo)==items.size)=true then _ else _) _ _ s;rw[if_neg hno,Qb]
 first
  |exact AAA (m:=Builtin.Tuple.tupleExact _) (AAr (AAB ⟨_,rfl,AAB h⟩) htake)
  |exact AAA (m:=Builtin.Tuple.tupleExact _) (AAr (AAA (AAB (AAB ⟨_,rfl,AAB h⟩))) htake)
  |exact AAA (AAA (m:=Builtin.Tuple.tupleExact _) (AAr (AAB (AAB ⟨_,rfl,AAB h⟩)) htake))
  |exact AAA (AAA (m:=Builtin.Tuple.tupleExact _) (AAr (AAB ⟨_,rfl,AAB h⟩) htake))
end
end HT
namespace L2
open PySem PySem.Spec PyProof.Rows
noncomputable abbrev TO:=St->Hp->(Option Int->Hp->Prop)->Prop
def PO(X:Cx)(e:Option Expr)(t:TO):Prop:=
 ∀(w4:List (Addr×Obj)) (s:Shared) (O:St) (H:Hp) (Q:Option Int->Hp->Prop),Inv X w4 O H s->t O H Q->
  wpAny (model X.prog X.w) X.A (evalPart e X.env) (λu s'=>∃o H',Inv X w4 O H' s'/\IsPart u o/\Q o H') X.xe s
noncomputable def TF:TO:=λ_ H Q=>Q none H
noncomputable def W8(t:TE):TO:=λO H Q=>t O H λx H1=>∃i,x=.int i/\Q (some i) H1
theorem Hq{ns:List Int}:∀{us:List Value},Vals (ns.map V.int) us->IntsAre us ns:=by
 induction ns with
 |nil=>intro us r;rw[List.map_nil] at r;cases r;exact .nil
 |cons n ns ih=>
  intro us r;rw[AAW] at r;cases r with
  |cons r1 r2=>
   obtain⟨t,e⟩:=r1;subst e;exact .cons n t (ih r2)
section
variable{X:Cx}{e:Expr}{te:TE}{lo hi:Option Expr}{tl th:TO}{pos p2:Pos}
theorem Tu:PO X none TF:=by
 intro w4 s O H Q I h;rw[evalPart_none];exact AAB ⟨none,H,I,.none,h⟩
theorem Tt(h:PE X e te):PO X (some e) (W8 te):=by
 intro w4 s O H Q I hw;rw[evalPart_some];refine thn (h w4 s O H _ I hw) λu s1 ⟨x,H1,I1,r1,q1⟩=>?_;obtain⟨i,rfl,q⟩:=q1;obtain⟨t,rfl⟩:=r1;exact⟨some i,H1,I1,.int i t,q⟩
def SlR(X:Cx)(r:V->Option Int->Option Int->Hp->VK->Prop):Prop:=
 ∀(w4:List (Addr×Obj)) (s:Shared) (O:St) (H:Hp) (x:V) (v vl vu:Value) (lo hi:Option Int) (sl:Addr) (Q:VK),Inv X w4 O H s->RelV x v->s.heap.IsSliceOf sl vl vu .none->IsPart vl lo->IsPart vu hi->r x lo hi H Q->
  ∃T id,typeLookup (.type T) "__getitem__" = pure (some (.builtin id))/\s.TypeIs v T/\wpAny (model X.prog X.w) X.A (getItem v (.ref sl)) (EP X w4 O Q) X.xe s
theorem SlR.or{r r':V->Option Int->Option Int->Hp->VK->Prop}(h:SlR X r)(h':SlR X r'):SlR X (λx lo hi H Q=>r x lo hi H Q∨r' x lo hi H Q):=by
 intro w4 s O H x v vl vu lo hi sl Q I rx hs pl pu q;rcases q with q|q
 ·exact h w4 s O H x v vl vu lo hi sl Q I rx hs pl pu q
 ·exact h' w4 s O H x v vl vu lo hi sl Q I rx hs pl pu q
noncomputable def tSl(r:V->Option Int->Option Int->Hp->VK->Prop)(te:TE)(tl th:TO):TE:=λO H Q=>te O H λx H1=>tl O H1 λl H2=>th O H2 λu H3=>r x l u H3 Q
theorem Qe{r:V->Option Int->Option Int->Hp->VK->Prop}(hr:SlR X r)(he:PE X e te)(hl:PO X lo tl)(hu:PO X hi th):PE X (.Subscript e (.Slice lo hi none p2) pos) (tSl r te tl th):=by
 intro w4 s O H Q I h;refine Subscript_ (thn (he w4 s O H _ I h) λv s1 ⟨x,H1,I1,r1,q1⟩=>?_);refine wpAny_Slice (thn (hl w4 s1 O H1 _ I1 q1) λvl s2 ⟨l,H2,I2,pl,q2⟩=>thn (hu w4 s2 O H2 _ I2 q2) λvu s3 ⟨u,H3,I3,pu,q3⟩=>?_);rw[evalPart_none];refine AAB ?_;have I4:Inv X w4 O H3 { s3 with heap:=s3.heap.push { cls:=.type "slice",data:=.fields #[vl,vu,.none] } }:=I3.kept (t':=s3.toks) λb ob q=>AAC _ q;obtain⟨T,id,hT,ht,hg⟩:=hr w4 { s3 with heap:=s3.heap.push { cls:=.type "slice",data:=.fields #[vl,vu,.none] } } O H3 x v vl vu l u s3.heap.objs.size Q I4 r1 (Heap.IsSliceOf.new ..) pl pu q3;show wpAny (model X.prog X.w) X.A (subscriptTail e (.Slice lo hi none p2) v (.ref s3.heap.objs.size)) (EP X w4 O Q) X.xe { s3 with heap:=s3.heap.push { cls:=.type "slice",data:=.fields #[vl,vu,.none] } };exact tail_any (ops:=[.ref s3.heap.objs.size,v]) ht hT hg (by with_unfolding_all rfl)
noncomputable def Ln(xs:List V)(lo hi:Option Int):List V:=(xs.drop (HT.sIx xs.length 0 lo)).take (HT.sIx xs.length xs.length hi-HT.sIx xs.length 0 lo)
theorem Gi(xs:List V)(lo hi:Option Int):(Ln xs lo hi).length<=xs.length:=by
 unfold Ln;rw[List.length_take,List.length_drop];omega
noncomputable def Yd(K:PySem.W.Frag):V->Option Int->Option Int->Hp->VK->Prop:=λx lo hi H Q=>∃a xs,x=.ref a/\SqT K H a xs /\
 ¬(HT.sIx xs.length 0 lo=0/\HT.sIx xs.length xs.length hi=xs.length)/\∀p,H p=none->Q (.ref p) (upd H p (.tup (Ln xs lo hi)))
theorem Vd:SlR X (Yd X.K):=by
 intro w4 s O H x v vl vu lo hi sl Q I rx hs pl pu h;obtain⟨a,xs,rfl,hx,hw,q⟩:=h;cases rx;obtain⟨its,r,ht,hz⟩:=I.tuple hx;have hlen:its.toArray.size=xs.length:=by rw[List.size_toArray];exact r.length.symm
 refine⟨"tuple",_,PyProof.Rows.slot_tuple_getitem.lookup,ht.typeIs,?_⟩;refine HT.F0 ht hs pl pu (by rw[hlen];exact hw) ?_ (by rw[hlen];exact hz);rw[hlen];refine⟨.ref s.heap.objs.size,_,I.laid (t':=s.toks) (o:=.tup (Ln xs lo hi)) (λb ob q=>AAC _ q) (AAE _) ?_,rfl,q _ (I.hok.fresh (AAE _))⟩;exact⟨AAt (Gi xs lo hi) hz,_,(r.drop (HT.sIx xs.length 0 lo)).take (HT.sIx xs.length xs.length hi-HT.sIx xs.length 0 lo),IsTup.new _ _⟩
noncomputable def XW(K:PySem.W.Frag):R2:=λx y H Q=>∃a b xs ys,x=.ref a/\y=.ref b/\SqT K H a xs/\SqT K H b ys/\xs≠[]/\xs.length+ys.length<=sizeLine /\
 (ys=[]->Q (.ref a) H)/\(ys≠[]->∀p,H p=none->Q (.ref p) (upd H p (.tup (xs++ys))))
theorem Vals.nil_iff{xs:List V}{us:List Value}(r:Vals xs us):us=[]↔xs=[]:=by
 cases r with
 |nil=>simp
 |cons _ _=>simp
theorem T5:OpR X (binaryOp .Add) (XW X.K):=by
 intro w4 s O H x y v u Q I rx ry h;obtain⟨a,b,xs,ys,rfl,rfl,ha,hb,hx,hz,q1,q2⟩:=h;cases rx;cases ry;obtain⟨its,r1,p1,_⟩:=I.tuple ha;obtain⟨its2,r2,p2,_⟩:=I.tuple hb;refine HT.Uf p1 p2 (λz=>hx (r1.nil_iff.mp z)) (λz=>⟨.ref a,H,I,rfl,q1 (r2.nil_iff.mp z)⟩) (λz=>?_) (by rw[←r1.length,←r2.length];exact hz);refine⟨.ref s.heap.objs.size,_,I.laid (t':=s.toks) (o:=.tup (xs++ys)) (λb ob q=>AAC _ q) (AAE _) ?_,rfl,q2 (λw=>z (r2.nil_iff.mpr w)) _ (I.hok.fresh (AAE _))⟩;exact⟨by rw[AAG];exact hz,_,r1.append r2,IsTup.new _ _⟩
theorem Lu:CA X (.type "tuple") (λxs H Q=>∃a ys,xs=[.ref a]/\SqT X.K H a ys/\Q (.ref a) H):=by
 intro w4 s O H xs us Q I r h;obtain⟨a,ys,rfl,ha,q⟩:=h;obtain⟨u,rfl,ru⟩:=FM r;cases ru;obtain⟨its,_,p1,_⟩:=I.tuple ha;exact call_tuple_same (items:=its.toArray) p1 ⟨.ref a,H,I,rfl,q⟩
end
noncomputable def ixN(n:Nat)(i:Int):Option Nat:=if 0<=i then (if i<n then some i.toNat else none) else if -(n:Int)<=i then some (i+n).toNat else none
noncomputable def atI{α:Type}(xs:List α)(i:Int):Option α:=(ixN xs.length i).bind λj=>xs[j]?
theorem UO{n:Nat}{i:Int}{j:Nat}(h:ixN n i=some j):seqIndex? i n=some j/\j<n/\-(n:Int)<=i/\i<n:=by
 unfold ixN at h;by_cases h0:0<=i
 ·rw[if_pos h0] at h;by_cases h1:i<n
  ·rw[if_pos h1] at h;have e:i.toNat=j:=Option.some.inj h;exact⟨by rw[seqIndex_of h0 h1,e],by omega,by omega,h1⟩
  ·rw[if_neg h1] at h;cases h
 ·rw[if_neg h0] at h;by_cases h1:-(n:Int)<=i
  ·rw[if_pos h1] at h;have e:(i+n).toNat=j:=Option.some.inj h;exact⟨by rw[seqIndex_neg (by omega) h1,e],by omega,h1,by omega⟩
  ·rw[if_neg h1] at h;cases h
theorem Ke{α:Type}{xs:List α}{i:Int}{v:α}(h:atI xs i=some v):∃j,seqIndex? i xs.length=some j/\xs[j]?=some v/\j<xs.length/\-(xs.length:Int)<=i/\i<xs.length:=by
 unfold atI at h;cases e:ixN xs.length i with
 |none=>rw[e] at h;cases h
 |some j=>
  rw[e] at h;obtain⟨h1,h2,h3,h4⟩:=UO e;exact⟨j,h1,h,h2,h3,h4⟩
def OA(b:Expr):Prop:=∀o i,subscripted b false o i=operate [o,i] (getItem o i)
def IxR(X:Cx)(r:R2):Prop:=
 ∀(value slice:Expr) (w4:List (Addr×Obj)) (s:Shared) (O:St) (H:Hp) (x y:V) (v u:Value) (Q:VK),Inv X w4 O H s->RelV x v->RelV y u->r x y H Q->
  subscripted slice false v u=operate [v,u] (getItem v u)->wpAny (model X.prog X.w) X.A (subscriptTail value slice v u) (EP X w4 O Q) X.xe s
def MtR(X:Cx)(id:String)(r:V->List V->Hp->VK->Prop):Prop:=
 ∀(w4:List (Addr×Obj)) (s:Shared) (O:St) (H:Hp) (x:V) (xs:List V) (v:Value) (us:List Value) (Q:VK),Inv X w4 O H s->RelV x v->Vals xs us->r x xs H Q->
  wpAny (model X.prog X.w) X.A (call (.builtin id) (v::us)) (EP X w4 O Q) X.xe s
section
variable{X:Cx}{a b:Expr}{ta tb:TE}{pos:Pos}
theorem IxR.or{r r':R2}(h:IxR X r)(h':IxR X r'):IxR X (λx y H Q=>r x y H Q∨r' x y H Q):=by
 intro value slice w4 s O H x y v u Q I rx ry q hs;rcases q with q|q
 ·exact h value slice w4 s O H x y v u Q I rx ry q hs
 ·exact h' value slice w4 s O H x y v u Q I rx ry q hs
theorem Xe{r:R2}(hr:IxR X r)(ha:PE X a ta)(hb:PE X b tb)(hs:OA b):PE X (.Subscript a b pos) (tOp r ta tb):=by
 intro w4 s O H Q I h;exact Subscript_ (Wq ha hb I h λv u s2 x y H2 I2 rx ry q=>hr a b w4 s2 O H2 x y v u Q I2 rx ry q (hs _ _))
noncomputable def XV(K:PySem.W.Frag):R2:=λx y H Q=>∃p xs i v,x=.ref p/\y=.int i/\SqL K H p xs/\atI xs i=some v/\Q v H
noncomputable def XT(K:PySem.W.Frag):R2:=λx y H Q=>∃p xs i v,x=.ref p/\y=.int i/\SqT K H p xs/\atI xs i=some v/\Q v H
noncomputable def XU:R2:=λx y H Q=>∃z i c,x=.str z/\y=.int i/\z.length<=sizeLine/\atI z.cps.toList i=some c/\Q (.str ⟨#[c]⟩) H
theorem ix_list:IxR X (XV X.K):=by
 intro value slice w4 s O H x y v u Q I rx ry h hs;obtain⟨p,xs,i,z,rfl,rfl,hq,he,q⟩:=h;cases rx;obtain⟨t,rfl⟩:=ry;obtain⟨its,r,pl,hz⟩:=I.list hq;obtain⟨j,h1,h2,h3,h4,h5⟩:=Ke he;obtain⟨w,ew,rw'⟩:=r.get h2;have hl:=r.length;have hn:=GO;have fin:EP X w4 O Q w s:=⟨z,H,I,rw',q⟩;by_cases h0:0<=i
 ·have hj:i.toNat=j:=by
   rw[seqIndex_of h0 h5] at h1;exact Option.some.inj h1
  exact item_listR pl.isList h0 (by omega) (by rw[hj];simpa using ew) fin hs
 ·have hj:(i+(its.toArray.size:Int)).toNat=j:=by
   rw[seqIndex_neg (by omega) h4] at h1;rw[List.size_toArray,←hl];exact Option.some.inj h1
  exact subscriptTail_builtinR (x:=w) pl.isList.typeIs slot_list_getitem.lookup
   (wpAny_getItem_list_neg (Q:=λr s'=>r=w/\EP X w4 O Q r s') pl.isList (by omega) (by rw[List.size_toArray]<;>omega) (by omega) (by rw[hj];simpa using ew) ⟨rfl,fin⟩) hs
theorem ix_tup:IxR X (XT X.K):=by
 intro value slice w4 s O H x y v u Q I rx ry h hs;obtain⟨p,xs,i,z,rfl,rfl,hq,he,q⟩:=h;cases rx;obtain⟨t,rfl⟩:=ry;obtain⟨its,r,pl,hz⟩:=I.tuple hq;obtain⟨j,h1,h2,h3,h4,h5⟩:=Ke he;obtain⟨w,ew,rw'⟩:=r.get h2;have hl:=r.length;have hn:=GO;have fin:EP X w4 O Q w s:=⟨z,H,I,rw',q⟩;exact subscriptTail_builtinR (x:=w) pl.typeIs slot_tuple_getitem.lookup
  (getItem_tuple (j:=j) (Q:=λr s'=>r=w/\EP X w4 O Q r s') pl (by omega) (by omega) (by rw[List.size_toArray,←hl];exact h1) (by simpa using ew) ⟨rfl,fin⟩) hs
theorem WU:IxR X XU:=by
 intro value slice w4 s O H x y v u Q I rx ry h hs;obtain⟨z,i,c,rfl,rfl,hz,he,q⟩:=h;obtain⟨t,rfl⟩:=rx;obtain⟨t',rfl⟩:=ry;obtain⟨j,h1,h2,h3,h4,h5⟩:=Ke he;have hl:z.cps.toList.length=z.length:=by simp[Str.length]
 rw[hl] at h1 h4 h5;have hn:=GO;exact tail_any (typeIs_str s z t) slot_str_getitem.lookup (getItem_str (c:=c) (by
  have e1:decide (i < -(2 ^ 63:Int))=false:=AAN (by omega);have e2:decide (i ≥ 2 ^ 63)=false:=AAN (by omega);rw[e1,e2,Bool.or_false]) (by rw[h1];simpa using h2) ⟨.str ⟨#[c]⟩,H,I.tok _,⟨_,rfl⟩,q⟩) hs
noncomputable def rIx(K:PySem.W.Frag):R2:=λx y H Q=>XV K x y H Q∨XT K x y H Q∨XU x y H Q
theorem Ml:IxR X (rIx X.K):=ix_list.or (ix_tup.or WU)
theorem Jy(lo hi:Option Int)(n:Nat):(sliceBounds lo hi none n).1=((HT.sIx n 0 lo:Nat):Int)/\(sliceBounds lo hi none n).2.1=((HT.sIx n n hi:Nat):Int)/\(sliceBounds lo hi none n).2.2=1:=by
 refine⟨?_,?_,rfl⟩
 ·cases lo with
  |none=>simp[sliceBounds,HT.sIx]
  |some i=>
   simp only[sliceBounds,HT.sIx,Option.getD_none,show (1:Int) > 0 by decide,if_true];by_cases h:i<0
   ·simp only[h,if_true]<;>omega
   ·simp only[h,if_false]<;>omega
 ·cases hi with
  |none=>simp[sliceBounds,HT.sIx]
  |some i=>
   simp only[sliceBounds,HT.sIx,Option.getD_none,show (1:Int) > 0 by decide,if_true];by_cases h:i<0
   ·simp only[h,if_true]<;>omega
   ·simp only[h,if_false]<;>omega
theorem IV(its:List Value)(lo hi:Option Int):slicePick its.toArray lo hi none=((its.drop (HT.sIx its.length 0 lo)).take (HT.sIx its.length its.length hi-HT.sIx its.length 0 lo)).toArray:=by
 obtain⟨h1,h2,h3⟩:=Jy lo hi its.toArray.size;unfold slicePick;rw[h1,h2,h3];simp only[sliceRange_one,pick_run,List.size_toArray]<;>rfl
noncomputable def Ye(K:PySem.W.Frag):V->Option Int->Option Int->Hp->VK->Prop:=λx lo hi H Q=>∃a xs,x=.ref a/\SqL K H a xs/\∀p,H p=none->Q (.ref p) (upd H p (.lst (Ln xs lo hi)))
theorem TM:SlR X (Ye X.K):=by
 intro w4 s O H x v vl vu lo hi sl Q I rx hs pl pu h;obtain⟨a,xs,rfl,hx,q⟩:=h;cases rx;obtain⟨its,r,ht,hz⟩:=I.list hx;have hlen:=r.length;refine⟨"list",_,slot_list_getitem.lookup,ht.isList.typeIs,?_⟩;refine wpAny_getItem_list_slice ht.isList hs pl pu .none (by simp) ?_ (by rw[List.size_toArray]<;>omega);rw[IV,←hlen];refine⟨.ref s.heap.objs.size,_,I.laid (t':=s.toks) (o:=.lst (Ln xs lo hi)) (λb ob q=>AAC _ q) (AAE _) ?_,rfl,q _ (I.hok.fresh (AAE _))⟩;exact⟨AAt (Gi xs lo hi) hz,_,0,(r.drop (HT.sIx xs.length 0 lo)).take (HT.sIx xs.length xs.length hi-HT.sIx xs.length 0 lo),AAD _ rfl⟩
noncomputable def DF:V->Bool
 | .non=>true
 | .bl _=>true
 | .int _=>true
 | .str _=>true
 |_=>false
noncomputable def eqV:V->V->Bool
 | .non,.non=>true
 | .bl a,.bl b=>a==b
 | .bl a,.int b=>(if a then 1 else 0)==b
 | .int a,.bl b=>a==(if b then 1 else 0)
 | .int a,.int b=>a==b
 | .str a,.str b=>a==b
 |_,_=>false
theorem Wl{A:Around}{s:Shared}{y x:V}{u v:Value}(ry:RelV y u)(rx:RelV x v)(fy:DF y=true)(fx:DF x=true):SeqAt.EqAt A s u v (eqV y x):=by
 cases y with
 |non=>
  cases ry;cases x with
  |non=>cases rx;exact SeqAt.EqAt.same _
  |bl b=>cases rx;exact SeqAt.EqAt.none_bool b
  |int b=>obtain⟨t,rfl⟩:=rx;exact SeqAt.EqAt.none_int b t
  |str b=>obtain⟨t,rfl⟩:=rx;exact SeqAt.EqAt.none_str b t
  |_=>exact absurd (show false=true from fx) AAh
 |bl a=>
  cases ry;cases x with
  |non=>cases rx;exact SeqAt.EqAt.bool_none a
  |bl b=>cases rx;exact SeqAt.EqAt.bool_bool a b
  |int b=>obtain⟨t,rfl⟩:=rx;exact SeqAt.EqAt.bool_int a b t
  |str b=>obtain⟨t,rfl⟩:=rx;exact SeqAt.EqAt.bool_str a b t
  |_=>exact absurd (show false=true from fx) AAh
 |int a=>
  obtain⟨t',rfl⟩:=ry;cases x with
  |non=>cases rx;exact SeqAt.EqAt.int_none a t'
  |bl b=>cases rx;exact SeqAt.EqAt.int_bool a t' b
  |int b=>obtain⟨t,rfl⟩:=rx;exact SeqAt.EqAt.int_int a t' b t
  |str b=>obtain⟨t,rfl⟩:=rx;exact SeqAt.EqAt.int_str a t' b t
  |_=>exact absurd (show false=true from fx) AAh
 |str a=>
  obtain⟨t',rfl⟩:=ry;cases x with
  |non=>cases rx;exact SeqAt.EqAt.str_none a t'
  |bl b=>cases rx;exact SeqAt.EqAt.str_bool a t' b
  |int b=>obtain⟨t,rfl⟩:=rx;exact SeqAt.EqAt.str_int a t' b t
  |str b=>obtain⟨t,rfl⟩:=rx;exact SeqAt.EqAt.str_str a t' b t
  |_=>exact absurd (show false=true from fx) AAh
 |_=>exact absurd (show false=true from fy) AAh
noncomputable def eqU(x:V)(u:Value):Bool:=match u with
 | .none=>eqV .non x
 | .bool b=>eqV (.bl b) x
 | .int i _=>eqV (.int i) x
 | .str z _=>eqV (.str z) x
 |_=>false
theorem KU{x y:V}{u:Value}(r:RelV y u)(f:DF y=true):eqU x u=eqV y x:=by
 cases y with
 |non=>cases r;rfl
 |bl b=>cases r;rfl
 |int i=>obtain⟨t,rfl⟩:=r;rfl
 |str z=>obtain⟨t,rfl⟩:=r;rfl
 |_=>exact absurd (show false=true from f) AAh
theorem GD{x:V}:∀{xs:List V} {us:List Value},Vals xs us->xs.all DF=true->us.any (eqU x)=xs.any λy=>eqV y x
 |_,_,.nil,_=>rfl
 |y::xs,u::us,.cons r t,f=>by
  rw[List.all_cons,Bool.and_eq_true] at f;rw[List.any_cons,List.any_cons,KU r f.1,GD t f.2]
theorem DZ{A:Around}{s:Shared}{x:V}{v:Value}(rx:RelV x v)(fx:DF x=true):∀{xs:List V} {us:List Value},Vals xs us->xs.all DF=true->∀u∈us,SeqAt.EqAt A s u v (eqU x u)
 |_,_,.nil,_=>λu hu=>by cases hu
 |y::xs,u::us,.cons r t,f=>λu' hu=>by
  rw[List.all_cons,Bool.and_eq_true] at f;rcases AAI.mp hu with rfl|hu
  ·rw[KU r f.1];exact Wl r rx f.1 fx
  ·exact DZ rx fx t f.2 u' hu
noncomputable def inV(x:V)(xs:List V):Bool:=xs.any λy=>eqV y x
noncomputable def rIn(K:PySem.W.Frag)(neg:Bool):R2:=λx y H Q=>∃p xs,y=.ref p/\(SqL K H p xs∨SqT K H p xs)/\DF x=true/\xs.all DF=true/\Q (.bl (if neg then !inV x xs else inV x xs)) H
theorem Oe:OpR X (compareOp .In) (rIn X.K false):=by
 intro w4 s O H x y v u Q I rx ry h;obtain⟨p,xs,rfl,hq,fx,fs,q⟩:=h;cases ry;rcases hq with hq|hq
 ·obtain⟨its,r,pl,hz⟩:=I.list hq;refine SeqAt.in_listAt (eqU x) pl.isList (λw hw=>DZ rx fx r fs w (by simpa using hw)) ⟨.bl _,H,I,rfl,?_⟩;rw[show its.toArray.any (eqU x)=its.any (eqU x) by simp,GD r fs];exact q
 ·obtain⟨its,r,pl,hz⟩:=I.tuple hq;refine SeqAt.in_tupleAt (eqU x) pl (λw hw=>DZ rx fx r fs w (by simpa using hw)) ⟨.bl _,H,I,rfl,?_⟩;rw[show its.toArray.any (eqU x)=its.any (eqU x) by simp,GD r fs];exact q
theorem KC:OpR X (compareOp .NotIn) (rIn X.K true):=by
 intro w4 s O H x y v u Q I rx ry h;obtain⟨p,xs,rfl,hq,fx,fs,q⟩:=h;cases ry;rcases hq with hq|hq
 ·obtain⟨its,r,pl,hz⟩:=I.list hq;refine SeqAt.notIn_listAt (eqU x) pl.isList (λw hw=>DZ rx fx r fs w (by simpa using hw)) ⟨.bl _,H,I,rfl,?_⟩;rw[show its.toArray.any (eqU x)=its.any (eqU x) by simp,GD r fs];exact q
 ·obtain⟨its,r,pl,hz⟩:=I.tuple hq;refine SeqAt.notIn_tupleAt (eqU x) pl (λw hw=>DZ rx fx r fs w (by simpa using hw)) ⟨.bl _,H,I,rfl,?_⟩;rw[show its.toArray.any (eqU x)=its.any (eqU x) by simp,GD r fs];exact q
def tyV(K:PySem.W.Frag)(T:String)(x:V)(H:Hp):Prop:=match x with
 | .str _=>T = "str"
 | .int _=>T = "int"
 | .ref p=>(T = "list" /\ ∃xs,SqL K H p xs)∨(T = "tuple" /\ ∃o,K.lookup p=some o/\o.cls=.type "tuple" /\ o.dict=none) ∨
   (T = "dict" /\ ((∃kvs,H p=some (.dK kvs))∨∃kvs,H p=some (.dT kvs)))∨(T = "set" /\ ∃S n,H p=some (.set S n))
 |_=>False
theorem Pq{w4:List (Addr×Obj)}{O:St}{H:Hp}{s:Shared}{T:String}{x:V}{v:Value}(I:Inv X w4 O H s)(r:RelV x v)(ty:tyV X.K T x H):
  s.TypeIs v T/\∀a,v=.ref a->∃ob,s.heap.get? a=some ob/\ob.dict=none:=by
 cases x with
 |str z=>
  obtain⟨t,rfl⟩:=r;cases (show T = "str" from ty);exact⟨typeIs_str s z t,λ_ e=>nomatch e⟩
 |int i=>
  obtain⟨t,rfl⟩:=r;cases (show T = "int" from ty);exact⟨typeIs_int s i t,λ_ e=>nomatch e⟩
 |ref p=>
  cases r;rcases ty with ⟨rfl,xs,hq⟩|⟨rfl,o,hk,hc,hd⟩|⟨rfl,hk⟩|⟨rfl,S,n,hk⟩
  ·obtain⟨its,_,pl,_⟩:=I.list hq;refine⟨pl.isList.typeIs,λa e=>?_⟩;cases e;obtain⟨o,n,e,c,hd,_⟩:=pl;exact⟨o,e,hd⟩
  ·refine⟨⟨o,I.kIn p o hk,hc⟩,λa e=>?_⟩;cases e;exact⟨o,I.kIn _ o hk,hd⟩
  ·have z:∃o,s.heap.get? p=some o/\o.ExactDict:=by
    rcases hk with ⟨kvs,hk⟩|⟨kvs,hk⟩
    ·obtain⟨_,_,_,_,o,_,_,e,ex,_⟩:=I.hok p _ hk;exact⟨o,e,ex⟩
    ·obtain⟨_,_,_,_,o,_,_,e,ex,_⟩:=I.hok p _ hk;exact⟨o,e,ex⟩
   obtain⟨o,e,ex⟩:=z;refine⟨⟨o,e,ex.1⟩,λa e2=>?_⟩;cases e2;exact⟨o,e,ex.2.1⟩
  ·obtain⟨o,_,_,_,e,ex,_⟩:=I.hok p _ hk;refine⟨⟨o,e,ex.1⟩,λa e2=>?_⟩;cases e2;exact⟨o,e,ex.2.1⟩
 |_=>exact False.elim ty
noncomputable def XI(K:PySem.W.Frag)(T:String)(r:V->List V->Hp->VK->Prop)(to:TE):TE:=λO H Q=>to O H λx H1=>tyV K T x H1/\r x [] H1 Q
noncomputable def tBM(K:PySem.W.Frag)(T:String)(r:V->List V->Hp->VK->Prop)(to:TE)(t:TA):TE:=λO H Q=>to O H λx H1=>tyV K T x H1/\t O H1 λxs H2=>r x xs H2 Q
variable{o e:Expr}{es:List Expr}{to:TE}{t:TA}{name:Str}{apos cpos:Pos}{T id:String}{r:V->List V->Hp->VK->Prop}
theorem V1(pa:PlainAttrs T)(slot:Slot T name id)(hty:typeOf (.builtin id)=pure (.type "method_descriptor"))(hm:MtR X id r)(ho:PE X o to)
  (hbase:attributeBase o name X.env (eval o X.env)=eval o X.env:=by rfl) (hline:(apos.endLine==cpos.line)=true:=by rfl):PE X (.Call (.Attribute o name apos) [] [] cpos) (XI X.K T r to):=by
 intro w4 s O H Q I h;refine wpAny_Call_method0_late hbase hline (thn (ho w4 s O H _ I h) λv s1 ⟨x,H1,I1,r1,ty,q1⟩=>?_);obtain⟨h1,h2⟩:=Pq I1 r1 ty;exact⟨T,id,pa,slot,hty,h1,h2,Calls.callWith_builtin rfl (PySem.evalArgs_none (hm w4 s1 O H1 x [] v [] Q I1 r1 .nil q1))⟩
theorem Xf(pa:PlainAttrs T)(slot:Slot T name id)(hty:typeOf (.builtin id)=pure (.type "method_descriptor"))(hm:MtR X id r)(ho:PE X o to)(ha:PA X (e::es) t)
  (hbase:attributeBase o name X.env (eval o X.env)=eval o X.env:=by rfl)
  (hfew:((backTo cpos (starEach (e::es) X.env)).all (λx=>!x.1)&&(backToKw cpos (keywordEach [] X.env)).all (λx=>x.1.isSome)
   && decide ((e::es).length+([]:List Keyword).length+(if ([]:List Keyword).isEmpty then 0 else 1)<30))=true:=by rfl)
  (hline:(apos.endLine==cpos.line)=true:=by rfl) (hs:starEach (e::es) X.env=(false,eval e X.env)::starEach es X.env:=by rfl) (hplain:(backTo cpos (starEach es X.env)).any (·.1)=false:=by rfl) :
  PE X (.Call (.Attribute o name apos) (e::es) [] cpos) (tBM X.K T r to t):=by
 intro w4 s O H Q I h;refine wpAny_Call_method_late hbase hfew hline rfl (thn (ho w4 s O H _ I h) λv s1 ⟨x,H1,I1,r1,ty,q1⟩=>?_);obtain⟨h1,h2⟩:=Pq I1 r1 ty;refine⟨T,id,pa,slot,hty,h1,h2,?_⟩;have hA:=ha cpos w4 s1 O H1 _ I1 q1;rw[hs] at hA ⊢;refine Calls.callWith_builtin (by show (false||(backTo cpos (starEach es X.env)).any (·.1))=false;rw[hplain]<;>rfl) (Calls.evalArgs_plain ?_);exact thn hA λus s2 ⟨vs,H2,I2,r2,q2⟩=>hm w4 s2 O H2 x vs v us Q I2 r1 r2 q2
end
def MtM(X:Cx)(id:String)(r:V->List V->Hp->VK->Prop):Prop:=
 ∀(w4:List (Addr×Obj)) (s:Shared) (O:St) (H:Hp) (x:V) (xs:List V) (v:Value) (us:List Value) (Q:VK),Inv X w4 O H s->RelV x v->Vals xs us->r x xs H Q->
  wpAny (model X.prog X.w) X.A (call (.builtin id) (v::us)) (EP X w4 O Q) X.xe s
theorem Vals.one:∀{x:V} {us:List Value},Vals [x] us->∃u,us=[u]/\RelV x u
 |_,_,.cons r .nil=>⟨_,rfl,r⟩
theorem Vals.two:∀{x y:V} {us:List Value},Vals [x,y] us->∃u v,us=[u,v]/\RelV x u/\RelV y v
 |_,_,_,.cons r (.cons q .nil)=>⟨_,_,rfl,r,q⟩
theorem Vals.zero:∀{us:List Value},Vals [] us->us=[]
 |_,.nil=>rfl
theorem Vals.dropLast{xs:List V}{us:List Value}(h:Vals xs us):Vals xs.dropLast us.dropLast:=by
 induction h with
 |nil=>exact .nil
 |cons r t ih=>
  cases t with
  |nil=>exact .nil
  |cons q t'=>exact .cons r ih
theorem Vals.eraseIdx:∀{xs:List V} {us:List Value} (i:Nat),Vals xs us->Vals (xs.eraseIdx i) (us.eraseIdx i)
 |_,_,_,.nil=>.nil
 |_,_,0,.cons _ t=>t
 |_,_,i+1,.cons r t=>.cons r (Vals.eraseIdx i t)
theorem Vals.rep{xs:List V}{us:List Value}(h:Vals xs us):∀k:Nat,Vals (List.replicate k xs).flatten (List.replicate k us).flatten
 |0=>.nil
 |k+1=>by
  rw[AAm,AAm,List.flatten_cons,List.flatten_cons];exact Vals.append h (Vals.rep h k)
theorem Mu{α:Type}(l:List α):l.eraseIdx (l.length-1)=l.dropLast:=by
 induction l with
 |nil=>rfl
 |cons a r ih=>
  cases r with
  |nil=>rfl
  |cons b r=>
   have e:(a::b::r).length-1=((b::r).length-1)+1:=by
    have h1:(a::b::r).length=r.length+2:=rfl;have h2:(b::r).length=r.length+1:=rfl;omega
   rw[e,List.eraseIdx_cons_succ,ih]
   all_goals rfl
theorem JE{α:Type}:∀(l:List α) (i:Nat),(l.eraseIdx i).length<=l.length
 |[],_=>AAE _
 |_::_,0=>Nat.le_succ _
 |_::r,i+1=>Nat.succ_le_succ (JE r i)
theorem JR(its:List Value):∀(k:Nat) (acc:List Value),
  List.foldl (λx1 x2=>x1++x2) acc.toArray (List.replicate k its.toArray)=(acc++(List.replicate k its).flatten).toArray
 |0,acc=>by simp
 |k+1,acc=>by
  have e:acc.toArray++its.toArray=(acc++its).toArray:=by simp
  have e2:(acc++its)++(List.replicate k its).flatten=acc++(List.replicate (k+1) its).flatten:=by
   rw[AAm,List.flatten_cons,AAn]
  rw[←e2,←JR its k (acc++its),←e,AAm,List.foldl_cons]
section
variable{X:Cx}{w4:List (Addr×Obj)}{O:St}{H:Hp}{s:Shared}{l:Addr}{xs ys:List V}
theorem Inv.lset{its its':List Value}{n:Nat}{f:Array Value->Array Value}{t':Nat}(I:Inv X w4 O H s)(hH:H l=some (.lst xs))
  (e:s.heap.get? l=some { cls:=.type "list",data:=.seq its.toArray n }) (hf:f its.toArray=its'.toArray) (hv:Vals ys its') (hz:ys.length<=sizeLine) :
  Inv X w4 O (upd H l (.lst ys)) { s with heap:=s.heap.update l (Obj.mapSeq f),toks:=t' }:=by
 have q:=PySem.IsL.update e f;rw[hf] at q;refine I.write (x:=l) (e:=l) (by rw[hH];exact trivial) (.inl rfl) (λb' u hb hu=>(Heap.get?_update_other s.heap (Obj.mapSeq f) (Ne.symm hb)).trans hu) ⟨_,q⟩ ?_;exact⟨hz,its',_,hv,q⟩
theorem Inv.lnew{its:List Value}{t':Nat}(I:Inv X w4 O H s)(hv:Vals ys its)(hz:ys.length<=sizeLine):
  Inv X w4 O (upd H s.heap.objs.size (.lst ys)) { s with heap:=s.heap.push { cls:=.type "list",data:=.seq its.toArray },toks:=t' }:=
 I.laid (λ_ _ q=>AAC _ q) (AAE _) ⟨hz,its,0,hv,AAD _ rfl⟩
theorem Inv.fresh(I:Inv X w4 O H s):H s.heap.objs.size=none:=I.hok.fresh (AAE _)
theorem Inv.lstM(I:Inv X w4 O H s)(hH:H l=some (.lst xs)):xs.length<=sizeLine/\∃(its:List Value) (n:Nat),Vals xs its/\xs.length=its.length/\s.heap.get? l=some { cls:=.type "list",data:=.seq its.toArray n }:=by
 obtain⟨z,its,n,r,e⟩:=I.hok l _ hH;exact⟨z,its,n,r,r.length,e⟩
theorem Qu{n:Nat}(h:n<=sizeLine):Builtin.List.listTooLong n=false:=by
 unfold Builtin.List.listTooLong;exact AAN (by omega)
end
section
variable{X:Cx}
noncomputable def Ti:V->List V->Hp->VK->Prop:=λx vs H Q=>∃l xs y,x=.ref l/\vs=[y]/\H l=some (.lst xs)/\xs.length<sizeLine/\Q .non (upd H l (.lst (xs++[y])))
theorem Oj:MtM X "list.append" Ti:=by
 intro w4 s O H x vs v us Q I rx rv h;obtain⟨l,xs,y,rfl,rfl,hH,hz,q⟩:=h;cases rx;obtain⟨u,rfl,ru⟩:=rv.one;obtain⟨z,its,n,r,hl,e⟩:=I.lstM hH;refine call_meets F.slot_list_append ⟨_,e,rfl⟩ F.entry_list_append (F.args_list_append_2 _ _) (PySem.list_append l its.toArray n u (by rw[List.size_toArray];omega)) ⟨e,?_⟩;refine⟨.non,_,I.lset (its':=its++[u]) hH e (by simp) (r.append (.cons ru .nil)) ?_,rfl,q⟩;rw[AAG,List.length_singleton];omega
noncomputable def Yg:V->List V->Hp->VK->Prop:=λx vs H Q=>∃l xs y,x=.ref l/\vs=[]/\H l=some (.lst xs)/\xs[xs.length-1]?=some y/\Q y (upd H l (.lst xs.dropLast))
theorem WF:MtM X "list.pop" Yg:=by
 intro w4 s O H x vs v us Q I rx rv h;obtain⟨l,xs,y,rfl,rfl,hH,hy,q⟩:=h;cases rx;have hus:=rv.zero;subst hus;obtain⟨z,its,n,r,hl,e⟩:=I.lstM hH;obtain⟨u,hu,ru⟩:=r.get hy;have hy':its.toArray[its.toArray.size-1]?=some u:=by
  show its.toArray[its.length-1]?=some u;rw[←Array.getElem?_toList,←hl];exact hu
 refine call_meets F.slot_list_pop ⟨_,e,rfl⟩ F.entry_list_pop (F.args_list_pop_1 _) (MeetsSeq.list_pop_last l its.toArray n u hy' (by rw[List.size_toArray];omega)) ⟨e,?_⟩;refine⟨y,_,I.lset (its':=its.dropLast) hH e ?_ r.dropLast ?_,ru,q⟩
 ·show its.toArray.eraseIdxIfInBounds (its.toArray.size-1)=its.dropLast.toArray;rw[List.size_toArray,List.eraseIdxIfInBounds_toArray,Mu]
 ·rw[List.length_dropLast];omega
noncomputable def Yj:R2:=λx y H Q=>∃l b xs zs,x=.ref l/\y=.ref b/\H l=some (.lst xs)/\H b=some (.lst zs)/\xs.length+zs.length<=sizeLine/\∀p,H p=none->Q (.ref p) (upd H p (.lst (xs++zs)))
theorem WC:OpR X (binaryOp .Add) Yj:=by
 intro w4 s O H x y v u Q I rx ry h;obtain⟨l,b,xs,zs,rfl,rfl,hH,hB,hz,q⟩:=h;cases rx;cases ry;obtain⟨z,its,n,r,hl,e⟩:=I.lstM hH;obtain⟨z2,its2,n2,r2,hl2,e2⟩:=I.lstM hB;refine PySem.P.add_list e e2 ?_ (by rw[List.size_toArray,List.size_toArray];omega);have ea:its.toArray++its2.toArray=(its++its2).toArray:=by simp
 rw[ea];exact⟨.ref _,_,I.lnew (t':=s.toks) (r.append r2) (by rw[AAG];omega),rfl,q _ I.fresh⟩
noncomputable def Yf:R2:=λx y H Q=>∃l k xs,x=.ref l/\y=.int k/\H l=some (.lst xs)/\-(2 ^ 63)<=k/\k<2 ^ 63/\xs.length * k.toNat<=sizeLine /\
 ∀p,H p=none->Q (.ref p) (upd H p (.lst (List.replicate k.toNat xs).flatten))
theorem Nb{α:Type}(xs:List α)(k:Nat):(List.replicate k xs).flatten.length=k * xs.length:=by
 induction k with
 |zero=>simp
 |succ k ih=>rw[AAm,List.flatten_cons,AAG,ih,Nat.succ_mul,Nat.add_comm]
theorem V5:OpR X (binaryOp .Mult) Yf:=by
 intro w4 s O H x y v u Q I rx ry h;obtain⟨l,k,xs,rfl,rfl,hH,h1,h2,hz,q⟩:=h;cases rx;obtain⟨t,rfl⟩:=ry;obtain⟨z,its,n,r,hl,e⟩:=I.lstM hH;have hlen:its.toArray.size * k.toNat<=sizeLine:=by rw[List.size_toArray,←hl];exact hz
 have hcap:¬its.toArray.size * k.toNat > (2 ^ 63-1) / 8:=by
  have:(sizeLine:Nat)<=(2 ^ 63-1) / 8:=by decide
  omega
 have hfit:¬(!Builtin.List.listFitsIndex k)=true:=by
  rw[fitsIndex_both h1 h2];exact AAh
 have hlong:¬Builtin.List.listTooLong (its.toArray.size * k.toNat)=true:=by
  rw[Qu hlen];exact AAh
 have hnew:List.foldl (λx1 x2=>x1++x2) #[] (List.replicate (if its.toArray.isEmpty=true then 0 else k.toNat) its.toArray)=(List.replicate k.toNat its).flatten.toArray:=by
  have f0:∀m:Nat,List.foldl (λx1 x2=>x1++x2) #[] (List.replicate m its.toArray)=(List.replicate m its).flatten.toArray:=λm=>by
   have:=JR its m [];rw[List.nil_append] at this;exact this
  rw[f0];cases its with
  |nil=>simp
  |cons a r'=>rw[if_neg (by simp)]
 refine wpAny_binaryOp_repeat_ref (T := "list") (U := "int") (by decide) ⟨_,e,rfl⟩ (λs'=>typeIs_int s' k t) noFill_list_mul F.fills_int_mul F.slot_int_rmul repeat_list F.slot_int_index.lookup
  (call_meets F.slot_int_rmul (typeIs_int s k t) F.entry_int_rmul (F.args_int_rmul_2 _ _) (int___rmul___int_list k t l its.toArray n)
   ⟨e,rfl,⟨_,e,rfl⟩,call_meets F.slot_list_mul ⟨_,e,rfl⟩ F.entry_list_mul (F.args_list_mul_2 _ _) (AutoListH.list___mul___list_int_3 l its.toArray n k t hfit hcap hlong) ⟨e,?_⟩⟩)
 rw[hnew];exact⟨.ref _,_,I.lnew (t':=s.toks) (r.rep k.toNat) (by rw[Nb,Nat.mul_comm];exact hz),rfl,q _ I.fresh⟩
end
section
variable{κ:Type}[DecidableEq κ]
noncomputable def EX(kvs:List (κ×V))(k:κ):Option V:=(kvs.find? λkv=>decide (kv.1=k)).map (·.2)
noncomputable def Fu(kvs:List (κ×V))(k:κ)(v:V):List (κ×V):=
 if (kvs.any λkv=>decide (kv.1=k))=true then kvs.map (λkv=>if kv.1=k then (kv.1,v) else kv) else kvs++[(k,v)]
noncomputable def Gg(kvs:List (κ×V))(k:κ):List (κ×V):=kvs.filter λkv=>decide (kv.1≠k)
theorem HB{p:κ×V}{r:List (κ×V)}{k:κ}(e:p.1=k):EX (p::r) k=some p.2:=by simp[EX,List.find?_cons,e]
theorem HC{p:κ×V}{r:List (κ×V)}{k:κ}(e:¬p.1=k):EX (p::r) k=EX r k:=by simp[EX,List.find?_cons,e]
theorem Ko(k:κ):∀kvs:List (κ×V),(kvs.any λkv=>decide (kv.1=k))=(EX kvs k).isSome
 |[]=>rfl
 |p::r=>by
  rw[List.any_cons];by_cases e:p.1=k
  ·simp only[HB e,AAO e,Bool.true_or,Option.isSome_some]
  ·rw[HC e,AAN e,Bool.false_or];exact Ko k r
theorem Ga(kvs:List (κ×V))(k:κ)(v:V):(Fu kvs k v).length<=kvs.length+1:=by
 unfold Fu;split
 ·rw[AAF];omega
 ·rw[AAG,AAH,List.length_nil];omega
theorem RelO.isSome_eq{o:Option V}{u:Option Value}(r:RelO o u):o.isSome=u.isSome:=by
 cases o with
 |none=>cases u with
  |none=>rfl
  |some _=>exact(show False from r).elim
 |some _=>cases u with
  |none=>exact(show False from r).elim
  |some _=>rfl
theorem KV.val{kvs:List (κ×V)}{vs:List (κ×Value)}(r:KV kvs vs)(k:κ):RelO (EX kvs k) (valueAt vs k):=by
 unfold KV at r
 induction r with
 |nil=>exact True.intro
 |@cons p q ps qs h t ih=>
  obtain⟨h1,h2⟩:=h;by_cases e:p.1=k
  ·have e':q.1=k:=h1.symm.trans e;have b:valueAt (q::qs) k=some q.2:=by simp[valueAt,List.find?_cons,e']
   rw[HB e,b];exact h2
  ·have e':¬q.1=k:=λz=>e (h1.trans z);have b:valueAt (q::qs) k=valueAt qs k:=by simp[valueAt,List.find?_cons,e']
   rw[HC e,b];exact ih
theorem KV.any{kvs:List (κ×V)}{vs:List (κ×Value)}(r:KV kvs vs)(k:κ):(kvs.any λkv=>decide (kv.1=k))=vs.any λkv=>decide (kv.1=k):=by
 unfold KV at r
 induction r with
 |nil=>rfl
 |cons h t ih=>rw[List.any_cons,List.any_cons,ih,h.1]
theorem KV.repl{kvs:List (κ×V)}{vs:List (κ×Value)}(r:KV kvs vs)(k:κ){y:V}{u:Value}(ry:RelV y u):
  KV (kvs.map λkv=>if kv.1=k then (kv.1,y) else kv) (vs.map λkv=>if kv.1=k then (kv.1,u) else kv):=by
 unfold KV at r ⊢
 induction r with
 |nil=>exact .nil
 |@cons p q ps qs h t ih=>
  rw[AAW,AAW];refine .cons ?_ ih;obtain⟨h1,h2⟩:=h;by_cases e:p.1=k
  ·rw[if_pos e,if_pos (h1.symm.trans e)];exact⟨h1,ry⟩
  ·rw[if_neg e,if_neg (λz=>e (h1.trans z))];exact⟨h1,h2⟩
theorem KV.put{kvs:List (κ×V)}{vs:List (κ×Value)}(r:KV kvs vs)(k:κ){y:V}{u:Value}(ry:RelV y u):KV (Fu kvs k y) (stored vs k u):=by
 unfold Fu stored;rw[r.any k];by_cases e:(vs.any λkv=>decide (kv.1=k))=true
 ·rw[if_pos e,if_pos e];exact r.repl k ry
 ·rw[if_neg e,if_neg e];exact Paired.snoc r ⟨rfl,ry⟩
theorem KV.drop{kvs:List (κ×V)}{vs:List (κ×Value)}(r:KV kvs vs)(k:κ):KV (Gg kvs k) (without vs k):=by
 unfold KV at r ⊢;unfold Gg without
 induction r with
 |nil=>exact .nil
 |@cons p q ps qs h t ih=>
  obtain⟨h1,h2⟩:=h;rw[List.filter_cons,List.filter_cons];by_cases e:p.1=k
  ·have a:¬decide (p.1≠k)=true:=by simp[e]
   have b:¬decide (q.1≠k)=true:=by simp[h1.symm.trans e]
   rw[if_neg a,if_neg b];exact ih
  ·have e':¬q.1=k:=λz=>e (h1.trans z);have a:decide (p.1≠k)=true:=by simp[e]
   have b:decide (q.1≠k)=true:=by simp[e']
   rw[if_pos a,if_pos b];exact .cons ⟨h1,h2⟩ ih
theorem KV.length{kvs:List (κ×V)}{vs:List (κ×Value)}(r:KV kvs vs):kvs.length=vs.length:=Paired.length r
theorem Rw(kvs:List (κ×V))(k:κ):(Gg kvs k).length<=kvs.length:=List.length_filter_le _ _
end
theorem LV{P:Program}{w:World}{k:Key}{u:Value}(r:RelV (kV k) u):(Bh P w).is k u=true:=by
 cases k with
 |inl i=>obtain⟨t,e⟩:=(show ∃t,u=Value.int i t from r);subst e;exact LR P w i t
 |inr x=>obtain⟨t,e⟩:=(show ∃t,u=Value.str x t from r);subst e;exact LQ P w x t
theorem JL{P:Program}{w:World}:∀{ks:List Key} {us:List Value},Vals (ks.map kV) us->ItemsAre (Bh P w) ks us
 |[],_,r=>by rw[List.map_nil] at r;cases r;exact .nil
 |k::ks,_,r=>by
  rw[AAW] at r;cases r with
  |cons h t=>exact .cons (LV h) (JL t)
noncomputable abbrev KT(H:Hp):List (List Key×V)->List (List Key×Addr×Value)->Prop:=Paired λp q=>p.1=q.1/\H q.2.1=some (.tup (p.1.map kV))/\RelV p.2 q.2.2
theorem KT.val{H:Hp}{kvs:List (List Key×V)}{xs:List (List Key×Addr×Value)}(r:KT H kvs xs)(k:List Key):RelO (EX kvs k) ((atKey xs k).map (·.2)):=by
 induction r with
 |nil=>exact True.intro
 |@cons p q ps qs h t ih=>
  obtain⟨h1,_,h2⟩:=h;by_cases e:p.1=k
  ·have e':q.1=k:=h1.symm.trans e;have b:atKey (q::qs) k=some q.2:=by simp[atKey,List.find?_cons,e']
   rw[HB e,b];exact h2
  ·have e':¬q.1=k:=λz=>e (h1.trans z);have b:atKey (q::qs) k=atKey qs k:=by simp[atKey,List.find?_cons,e']
   rw[HC e,b];exact ih
theorem KT.repl{H:Hp}{kvs:List (List Key×V)}{xs:List (List Key×Addr×Value)}(r:KT H kvs xs)(k:List Key){y:V}{u:Value}(ry:RelV y u):
  KT H (kvs.map λkv=>if kv.1=k then (kv.1,y) else kv) (xs.map (putAt k u)):=by
 induction r with
 |nil=>exact .nil
 |@cons p q ps qs h t ih=>
  rw[AAW,AAW];refine .cons ?_ ih;obtain⟨h1,h2,h3⟩:=h;unfold putAt;by_cases e:p.1=k
  ·rw[if_pos e,if_pos (h1.symm.trans e)];exact⟨h1,h2,ry⟩
  ·rw[if_neg e,if_neg (λz=>e (h1.trans z))];exact⟨h1,h2,h3⟩
theorem KT.put{H:Hp}{kvs:List (List Key×V)}{xs:List (List Key×Addr×Value)}(r:KT H kvs xs)(k:List Key){b:Addr}{y:V}{u:Value}(hb:H b=some (.tup (k.map kV)))(ry:RelV y u):
  KT H (Fu kvs k y) (storedH xs k b u):=by
 have e:(kvs.any λkv=>decide (kv.1=k))=(atKey xs k).isSome:=by
  rw[Ko,(r.val k).isSome_eq,Option.isSome_map]
 unfold Fu storedH;rw[e];by_cases q:(atKey xs k).isSome=true
 ·rw[if_pos q,if_pos q];exact r.repl k ry
 ·rw[if_neg q,if_neg q];exact Paired.snoc r ⟨rfl,hb,ry⟩
theorem KT.keeps{H H':Hp}{kvs:List (List Key×V)}{xs:List (List Key×Addr×Value)}(r:KT H kvs xs)(ht:∀b ys,H b=some (.tup ys)->H' b=some (.tup ys)):KT H' kvs xs:=
 Paired.mapP r λ_ _ z=>⟨z.1,ht _ _ z.2.1,z.2.2⟩
section
variable{P:Program}{w:World}{H:Hp}{h:Heap}{a:Addr}
theorem Ur{u:HO}(ok:HOk P w H h)(e:Rd H a u):ObjOk P w H h a u:=e.ok ok
theorem Lj{kvs:List (Key×V)}(ok:HOk P w H h)(e:Rd H a (.dK kvs)):kvs.length<=sizeLine/\(a==sysModules)=false/\∃vs,KV kvs vs/\h.DictOf (Bh P w) a vs:=
 show ObjOk P w H h a (.dK kvs) from Ur ok e
theorem U7{kvs:List (Key×V)}(ok:HOk P w H h)(e:H a=some (.dK kvs)):kvs.length<=sizeLine/\(a==sysModules)=false/\∃vs,KV kvs vs/\h.DictOf (Bh P w) a vs:=Lj ok (.inl e)
theorem KL{ks:List Key}(ok:HOk P w H h)(e:H a=some (.tup (ks.map kV))):(tupleKind (Bh P w)).is h ks a:=by
 obtain⟨_,its,r,o,h1,h2,n,h3⟩:=(show ObjOk P w H h a (.tup (ks.map kV)) from ok a _ e);exact⟨o,its.toArray,n,h1,h2,h3,by simpa using JL r⟩
theorem Li{kvs:List (List Key×V)}(ok:HOk P w H h)(e:Rd H a (.dT kvs)):kvs.length<=sizeLine/\(a==sysModules)=false /\
  ∃xs,KT H kvs xs/\h.DictOfH (tupleKind (Bh P w)) a xs:=by
 obtain⟨z,y,xs,r,o,es,ep,h1,h2,h3,h4,h5⟩:=(show ObjOk P w H h a (.dT kvs) from Ur ok e);refine⟨z,y,xs,r,o,es,ep,h1,h2,h3,h4,λx hx=>?_,h5⟩;have all:∀{l:List (List Key×V)} {m:List (List Key×Addr×Value)},KT H l m->∀x∈m,(tupleKind (Bh P w)).is h x.1 x.2.1:=by
  intro l m q
  induction q with
  |nil=>intro x hx;exact nomatch hx
  |@cons p q ps qs hq t ih=>
   intro x hx;rcases AAI.mp hx with e|hx
   ·subst e;exact KL ok (by rw[←hq.1];exact hq.2.1)
   ·exact ih x hx
 exact all r x hx
theorem YD{kvs:List (List Key×V)}(ok:HOk P w H h)(e:H a=some (.dT kvs)):kvs.length<=sizeLine/\(a==sysModules)=false /\
  ∃xs,KT H kvs xs/\h.DictOfH (tupleKind (Bh P w)) a xs:=Li ok (.inl e)
end
def DGet(H:Hp)(a:Addr)(y:V)(r:Option V):Prop:=
 (∃kvs k,Rd H a (.dK kvs)/\y=kV k/\r=EX kvs k)∨∃kvs k b,Rd H a (.dT kvs)/\y=.ref b/\H b=some (.tup (k.map kV))/\r=EX kvs k
def DPut(H:Hp)(a:Addr)(y v:V)(H':Hp):Prop:=
 (∃kvs k,H a=some (.dK kvs)/\y=kV k/\kvs.length<sizeLine/\H'=upd H a (.dK (Fu kvs k v))) ∨
 ∃kvs k b,H a=some (.dT kvs)/\y=.ref b/\H b=some (.tup (k.map kV))/\kvs.length<sizeLine/\H'=upd H a (.dT (Fu kvs k v))
theorem DGet.k{H:Hp}{a:Addr}{kvs:List (Key×V)}{k:Key}(e:H a=some (.dK kvs)):DGet H a (kV k) (EX kvs k):=.inl ⟨kvs,k,.inl e,rfl,rfl⟩
theorem DPut.k{H:Hp}{a:Addr}{kvs:List (Key×V)}{k:Key}{v:V}(e:H a=some (.dK kvs))(hl:kvs.length<sizeLine):DPut H a (kV k) v (upd H a (.dK (Fu kvs k v))):=.inl ⟨kvs,k,e,rfl,hl,rfl⟩
section
variable{X:Cx}{w4:List (Addr×Obj)}{O:St}{H:Hp}{s:Shared}{a:Addr}{y v:V}{u r:Value}{o:Option V}{A:Around}{E:Value->Shared->Prop}
theorem Inv.big(I:Inv X w4 O H s):sysModules<s.heap.objs.size:=by
 have h:mainGlobals<s.heap.objs.size:=(I.mod.glob.keeps I.bk).lt;exact Nat.lt_trans (by decide) h
theorem O6{Q:Value->Shared->Prop}(hu:A.units+1<cLine)(I:Inv X w4 O H s)(g:DGet H a y (some v))(ry:RelV y u)(h:∀w' s',Inv X w4 O H s'->RelV v w'->Q w' s'):
  wpAny (model X.prog X.w) A (getItem (.ref a) u) Q E s:=by
 rcases g with ⟨kvs,k,e,ey,l⟩|⟨kvs,k,b,e,ey,eb,l⟩
 ·subst ey;obtain⟨z,hd,vs,rel,dd⟩:=Lj I.hok e;obtain⟨w',hw,rw'⟩:=RelO.some_of (v:=v) (o:=valueAt vs k) (by rw[l];exact rel.val k);exact wpAny_getItem_of (LV ry) dd.mapOf hw (h w' _ (I.tok _) rw')
 ·subst ey;cases (show u=Value.ref b from ry);obtain⟨z,hd,xs,rel,dd⟩:=Li I.hok e;obtain⟨w',hw,rw'⟩:=RelO.some_of (v:=v) (o:=(atKey xs k).map (·.2)) (by rw[l];exact rel.val k);obtain⟨p,hp,hp2⟩:=Option.map_eq_some_iff.mp hw;refine wpAny_getItem_heap (tupleKind_room_in1 hu) (KL I.hok eb) dd hp ?_;rw[hp2];exact h w' _ (I.tok _) rw'
theorem Yz{Q:Value->Shared->Prop}(hu:A.units+1<cLine)(I:Inv X w4 O H s)(g:DGet H a y o)(ry:RelV y u)(h:∀s',Inv X w4 O H s'->Q (.bool o.isSome) s'):
  wpAny (model X.prog X.w) A (compareOp .In u (.ref a)) Q E s:=by
 rcases g with ⟨kvs,k,e,ey,l⟩|⟨kvs,k,b,e,ey,eb,l⟩
 ·subst ey;obtain⟨z,hd,vs,rel,dd⟩:=Lj I.hok e;refine wpAny_in_of (LV ry) hd dd.mapOf ?_;rw[←(rel.val k).isSome_eq,←l];exact h _ (I.tok _)
 ·subst ey;cases (show u=Value.ref b from ry);obtain⟨z,hd,xs,rel,dd⟩:=Li I.hok e;refine wpAny_in_heap (tupleKind_room_in1 hu) (KL I.hok eb) hd dd ?_;have q:=(rel.val k).isSome_eq;rw[Option.isSome_map] at q;rw[←q,←l];exact h _ (I.tok _)
theorem G7{h':Heap}{t':Nat}{ob:HO}(I:Inv X w4 O H s)(mu:Mut (H a))(hs:Heap.SameBut a s.heap h')(he:∃q,h'.get? a=some q)(new:ObjOk X.prog X.w (upd H a ob) h' a ob):
  Inv X w4 O (upd H a ob) { s with heap:=h',toks:=t' }:=
 I.write (x:=a) (e:=a) mu (.inl rfl) (λb q hb z=>(hs.2 b hb).trans z) he new
theorem Rx{P:Program}{w:World}{H':Hp}{h':Heap}{kvs:List (Key×V)}{vs:List (Key×Value)}(z:kvs.length<=sizeLine)(hd:(a==sysModules)=false)(rel:KV kvs vs)(dd:h'.DictOf (Bh P w) a vs):
  ObjOk P w H' h' a (.dK kvs):=⟨z,hd,vs,rel,dd⟩
theorem O5{H':Hp}{Q:Unit->Shared->Prop}(hu:A.units+1<cLine)(I:Inv X w4 O H s)(g:DPut H a y v H')(ry:RelV y u)(rv:RelV v r)(h:∀s',Inv X w4 O H' s'->Q () s'):
  wpAny (model X.prog X.w) A (setItem (.ref a) u r) Q E s:=by
 rcases g with ⟨kvs,k,e,ey,l,eH⟩|⟨kvs,k,b,e,ey,eb,l,eH⟩
 ·subst ey eH;obtain⟨z,hd,vs,rel,dd⟩:=U7 I.hok e;have hz:vs.length<=sizeLine:=by rw[←rel.length];exact z
  have hl:(Fu kvs k v).length<=sizeLine:=by have:=Ga kvs k v;omega
  refine wpAny_setItem_pairs (hsz:=hz) (LV ry) dd λh' dd' hs=>h _ ?_;have he:∃q,h'.get? a=some q:=let ⟨q,_,_,hq,_⟩:=dd';⟨q,hq⟩
  exact G7 I (by rw[e];exact True.intro) hs he (Rx hl hd (rel.put k rv) dd')
 ·subst ey eH;cases (show u=Value.ref b from ry);obtain⟨z,hd,xs,rel,dd⟩:=YD I.hok e;have hz:xs.length<=sizeLine:=by rw[←Paired.length rel];exact z
  have hl:(Fu kvs k v).length<=sizeLine:=by have:=Ga kvs k v;omega
  refine wpAny_setItem_heap (hsz:=hz) (tupleKind_room_in1 hu) (KL I.hok eb) dd λh' dd' hs=>h _ ?_;obtain⟨q,es,ep,hq,h2,h3,h4,_,h5⟩:=dd';refine G7 I (by rw[e];exact True.intro) hs ⟨q,hq⟩ ⟨hl,hd,_,(rel.put k eb rv).keeps λc ys ec=>?_,q,es,ep,hq,h2,h3,h4,h5⟩;rw[A0 (Xw ec e (λz=>nomatch z))];exact ec
end
section
variable{X:Cx}{w4:List (Addr×Obj)}{O:St}{H:Hp}{s:Shared}{a:Addr}{kvs:List (Key×V)}{k:Key}{u:Value}{A:Around}{E:Value->Shared->Prop}
theorem YG{v:V}{more:List Value}{Q:Value->Shared->Prop}(I:Inv X w4 O H s)(e:H a=some (.dK kvs))(ry:RelV (kV k) u)(l:EX kvs k=some v)(hm:more=[]∨∃x,more=[x])
  (h:∀w' s',Inv X w4 O (upd H a (.dK (Gg kvs k))) s'->RelV v w'->Q w' s'):wpAny (model X.prog X.w) A (call (.builtin "dict.pop") (.ref a::u::more)) Q E s:=by
 obtain⟨z,hd,vs,rel,dd⟩:=U7 I.hok e;obtain⟨w',hw,rw'⟩:=RelO.some_of (v:=v) (o:=valueAt vs k) (by rw[←l];exact rel.val k);have hp:(keyPart u).isSome=true:=by
  cases k with
  |inl i=>obtain⟨t,q⟩:=(show ∃t,u=Value.int i t from ry);subst q;rfl
  |inr x=>obtain⟨t,q⟩:=(show ∃t,u=Value.str x t from ry);subst q;rfl
 have ha:argsOk "dict.pop" ⟨.ref a::u::more,[]⟩:=by
  rcases hm with q|⟨x,q⟩
  ·subst q;exact PySem.F.args_dict_pop_2 _ _
  ·subst q;exact PySem.F.args_dict_pop_3 _ _ _
 refine call_meetsIn PySem.F.slot_dict_pop dd.typeIs PySem.F.entry_dict_pop ha (meets_dict_pop_there (Bh X.prog X.w) a (LV ry) more hm hp)
  ⟨vs,w',dd,by rw[←rel.length];exact z,hw,λh' dd' hs=>h w' _ ?_ rw'⟩
 have he:∃q,h'.get? a=some q:=let ⟨q,_,_,hq,_⟩:=dd';⟨q,hq⟩
 exact G7 I (by rw[e];exact True.intro) hs he (Rx (AAt (Rw kvs k) z) hd (rel.drop k) dd')
end
def Wy(i:Expr):Prop:=∀ov iv,subscripted i false ov iv=operate [ov,iv] (getItem ov iv)
theorem TH{prog:Program}{w:World}{A:Around}{E:Value->Shared->Prop}{s:Shared}{env:Env}{value slice:Expr}{pos:Pos}{T id:String}{Q:Value->Shared->Prop}
  (hl:typeLookup (.type T) "__getitem__" = pure (some (.builtin id))) (hs:Wy slice)
  (h:wpAny (model prog w) A (eval value env) (λo s₁=>wpAny (model prog w) A (eval slice env) (λi s₂=>s₂.TypeIs o T/\wpAny (model prog w) A (getItem o i) Q E s₂) E s₁) E s) :
  wpAny (model prog w) A (eval (.Subscript value slice pos) env) Q E s:=by
 refine Subscript_ (AAk h (λo s₁ h₁=>AAk h₁ (λi s₂ h₂=>?_) λ_ _ x=>x) λ_ _ x=>x);obtain⟨hT,h₂⟩:=h₂;unfold subscriptTail;refine AAA ?_;rw[getitemInPython_of_ne hT.not_modules];refine AAA (wpAny_specialOf hT hl ?_);have fin:wpAny (model prog w) A (subscripted slice false o i) (λr s₃=>wpAny (model prog w) A (letTemporaryGo value o r >>= λ_=>pure r) Q E s₃) E s₂:=by
  rw[hs o i];exact wpAny_operating (AAk h₂ (λr s₃ h₃=>AAA (wpAny_letTemporaryGo (AAB h₃))) λ_ _ x=>x)
 first
  |exact AAB (AAA fin)
  |exact AAA (AAB (AAA fin))
  |exact AAA fin
theorem Ll{X:Cx}{w4:List (Addr×Obj)}{O:St}{H:Hp}{s:Shared}{a:Addr}{y:V}{o:Option V}(I:Inv X w4 O H s)(g:DGet H a y o):s.TypeIs (.ref a) "dict" := by
 rcases g with ⟨kvs,k,e,_,_⟩|⟨kvs,k,b,e,_,_,_⟩
 ·obtain⟨_,_,vs,_,dd⟩:=Lj I.hok e;exact dd.typeIs
 ·obtain⟨_,_,xs,_,dd⟩:=Li I.hok e;exact dd.typeIs
noncomputable def XE(td ty:TE):TE:=λO H Q=>td O H λx H1=>ty O H1 λy H2=>∃a v,x=.ref a/\DGet H2 a y (some v)/\Q v H2
noncomputable def XD(ty td:TE):TE:=λO H Q=>ty O H λy H1=>td O H1 λx H2=>∃a o,x=.ref a/\DGet H2 a y o/\Q (.bl o.isSome) H2
noncomputable def XO(td ty tv:TE):TS:=λD O H=>tv O H λv H1=>td O H1 λx H2=>ty O H2 λy H3=>∃a H4,x=.ref a/\DPut H3 a y v H4/\D.nx O H4
section
variable{X:Cx}{o i value:Expr}{pos pos':Pos}{td ty tv:TE}
theorem Tw(hu:X.A.units+1<cLine)(ho:PE X o td)(hi:PE X i ty)(hs:Wy i):PE X (.Subscript o i pos) (XE td ty):=by
 intro w4 s O H Q I h;refine TH PySem.F.slot_dict_getitem.lookup hs (thn (ho w4 s O H _ I h) λu s1 ⟨x,H1,I1,rx,q1⟩=>thn (hi w4 s1 O H1 _ I1 q1) λiv s2 ⟨y,H2,I2,ry,a,v,ex,g,q2⟩=>?_);subst ex;obtain rfl:u=Value.ref a:=rx;exact⟨Ll I2 g,O6 hu I2 g ry λw' s3 I3 rw'=>⟨v,H2,I3,rw',q2⟩⟩
theorem V3(hu:X.A.units+1<cLine)(hi:PE X i ty)(ho:PE X o td):PC X .In i o (XD ty td):=by
 intro w4 s O H Q I h;refine thn (hi w4 s O H _ I h) λiv s1 ⟨y,H1,I1,ry,q1⟩=>thn (ho w4 s1 O H1 _ I1 q1) λu s2 ⟨x,H2,I2,rx,a,ov,ex,g,q2⟩=>?_;subst ex;obtain rfl:u=Value.ref a:=rx;exact Yz hu I2 g ry λs3 I3=>⟨.bl ov.isSome,H2,I3,rfl,q2⟩
theorem Tq(hu:X.A.units+1<cLine)(ho:PE X o td)(hi:PE X i ty)(hv:PE X value tv)(hs:swapsWith value (some (.Subscript o i pos')) pos.line X.env=pure false):
  PS X (.Assign [.Subscript o i pos'] value pos) (XO td ty tv):=by
 intro w4 s O H D I h;refine wpAny_Assign_Subscript (thn (hv w4 s O H _ I h) λr s1 ⟨v,H1,I1,rv,q1⟩=>thn (ho w4 s1 O H1 _ I1 q1) λu s2 ⟨x,H2,I2,rx,q2⟩=>thn (hi w4 s2 O H2 _ I2 q2) λiv s3 ⟨y,H3,I3,ry,a,H4,ex,g,q3⟩=>?_) hs;subst ex;obtain rfl:u=Value.ref a:=rx;exact O5 hu I3 g ry rv λs4 I4=>⟨O,H4,I4,q3⟩
end
theorem Ry{P:Program}{w:World}{H:Hp}(h:Heap)(hb:sysModules<h.objs.size):ObjOk P w H (h.push { cls:=.type "dict",data:=.dict #[] }) h.objs.size (.dK []):=
 ⟨AAl _,AAf.mpr (Ne.symm (AAe hb)),[],.nil,Heap.DictOf.new h⟩
noncomputable def VZ:TE:=λ_ H Q=>∀p,H p=none->Q (.ref p) (upd H p (.dK []))
section
variable{X:Cx}{pos:Pos}
theorem Qi:PE X (.Dict [] [] pos) VZ:=λw4 s O H Q I h=>
 wpAny_Dict_empty ⟨.ref s.heap.objs.size,_,I.laid (a:=s.heap.objs.size) (o:=.dK []) (t':=s.toks) (λ_ _ q=>AAC _ q) (AAE _) (Ry s.heap I.big),rfl,h _ (I.hok.fresh (AAE _))⟩
end
structure M1(X:Cx)(o:Expr)(m:Str)(apos:Pos)(e:Expr)(cpos:Pos):Prop where
 base:attributeBase o m X.env (eval o X.env)=eval o X.env
 few:((backTo cpos (starEach [e] X.env)).all (λx=>!x.1)&&(backToKw cpos (keywordEach [] X.env)).all (λx=>x.1.isSome)
  && decide (([e]:List Expr).length+([]:List Keyword).length+(if ([]:List Keyword).isEmpty then 0 else 1)<30))=true
 line:(apos.endLine==cpos.line)=true
 trees:backTo cpos (starEach [e] X.env)=[(false,eval e X.env)]
def IsD(H:Hp)(a:Addr):Prop:=(∃kvs,Rd H a (.dK kvs))∨∃kvs,Rd H a (.dT kvs)
theorem WX{X:Cx}{w4:List (Addr×Obj)}{O:St}{H:Hp}{s:Shared}{a:Addr}(I:Inv X w4 O H s)(d:IsD H a):
  s.TypeIs (.ref a) "dict" /\ (∀b,Value.ref a=.ref b->∃ob,s.heap.get? b=some ob/\ob.dict=none)/\(a==sysModules)=false:=by
 rcases d with ⟨kvs,e⟩|⟨kvs,e⟩
 ·obtain⟨_,hd,vs,_,dd⟩:=Lj I.hok e;refine⟨dd.typeIs,λb q=>?_,hd⟩;cases q;obtain⟨ob,_,_,h1,h2,_⟩:=dd;exact⟨ob,h1,h2.2.1⟩
 ·obtain⟨_,hd,xs,_,dd⟩:=Li I.hok e;refine⟨dd.typeIs,λb q=>?_,hd⟩;cases q;obtain⟨ob,_,_,h1,h2,_⟩:=dd;exact⟨ob,h1,h2.2.1⟩
noncomputable def VY(td ty:TE):TE:=λO H Q=>td O H λx H1=>∃a,x=.ref a/\IsD H1 a/\ty O H1 λy H2=>∃kvs k v,H2 a=some (.dK kvs)/\y=kV k/\EX kvs k=some v/\Q v (upd H2 a (.dK (Gg kvs k)))
section
variable{X:Cx}{o e:Expr}{apos cpos:Pos}{td ty:TE}
theorem Qh(ho:PE X o td)(he:PE X e ty)(m:M1 X o "pop" apos e cpos):PE X (.Call (.Attribute o "pop" apos) [e] [] cpos) (VY td ty):=by
 intro w4 s O H Q I h;refine wpAny_Call_method m.base m.few m.line PySem.F.plainAttrs_dict PySem.F.slot_dict_pop PySem.F.type_dict_pop (thn (ho w4 s O H _ I h) λu s1 ⟨x,H1,I1,rx,a,ex,d,q1⟩=>?_);subst ex;obtain rfl:u=Value.ref a:=rx;obtain⟨t1,t2,_⟩:=WX I1 d;refine⟨t1,t2,?_⟩;rw[m.trees];refine Calls.callWith_builtin rfl (Calls.evalArgs_plain (Calls.spliced_cons (thn (he w4 s1 O H1 _ I1 q1) λiv s2 ⟨y,H2,I2,ry,kvs,k,v,ea,ey,l,q2⟩=>Calls.spliced_nil ?_)));subst ey;exact YG I2 ea ry l (.inl rfl) λw' s3 I3 rw'=>⟨v,_,I3,rw',q2⟩
end
end L2
namespace Att
open PySem PySem.W PySem.Calls PyProof.Rows
theorem Gp{P:Params}{h:Heap}:∀(ns:List Int) (vs:List Value),WellAll P h vs (ns.map WData.int)->IntsAre vs ns:=by
 intro ns
 induction ns with
 |nil=>
  intro vs w;rw[List.map_nil] at w;cases w;exact .nil
 |cons n ns ih=>
  intro vs w;rw[AAW] at w;cases w with
  |cons a b=>
   cases a;exact .cons _ _ (ih _ b)
theorem OS{l:OpenLaw}{n:Nat}(hn:l.most=some n){P:Params}{h:Heap}{args:List WData}{vals:List Value}
  (hpre:l.row.toRowW.claim.pre args=true) (hwl:WellAll P h vals args) :
  ∃a vs ns,vals=[Value.ref a]/\args=[WData.list (ns.map WData.int)]/\h.get? a=some { cls:=.type "list",data:=.seq vs.toArray }/\IntsAre vs ns/\ns.length<=n:=by
 have hsh:WShape.hasAll [] args [.list .int]=true:=(pre_splitW hpre).1;have hc:l.pre.holds [] { args:=args }=true:=(pre_splitW hpre).2;obtain⟨d,r,rfl,h1,h2⟩:=hasAllW_cons hsh;obtain rfl:=hasAllW_nil h2;obtain⟨xs,rfl,h3⟩:=hasW_list h1;obtain⟨ns,rfl⟩:=items_int h3;have hlen:ns.length<=n:=by
  unfold OpenLaw.pre at hc;have h4:(WTm.not (.lt (.lit (.int (n:Int))) (.len (.arg 0)))).holds [] { args:=[.list (ns.map .int)] }=true:=by
   have h4:=(holds_andW hc).1;rw[hn] at h4;exact h4
  have h5:=condW_of h4 (w_not (w_lt w_lit (w_len_list (w_arg rfl))));rw[AAF] at h5;refine Nat.le_of_not_lt λq=>?_;have q':(n:Int)<((ns.length:Nat):Int):=by omega
  first
   |(rw[AAO q'] at h5;exact absurd h5 (by decide))
   |(simp at h5;omega)
 cases hwl with
 |cons w1 w2=>
  cases w2;cases w1 with
  |list ho hall=>exact⟨_,_,ns,rfl,rfl,ho,Gp ns _ hall,hlen⟩
theorem OZ(l:OpenLaw)(args:List WData):l.row.toRowW.claim.post args (.bool true) args=true:=
 postW_of (r:=l.row.toRowW) (X:=(true==true))
  (show WShape.has [] (.bool true) .bool=true by first|rfl|decide|simp[WShape.has,WShape.arms,WShape.armsAll])
  (show (WTm.eq .res (.lit (.bool true))).value [] { args:=args,res:=some (.bool true),after:=args }=some (.bool (true==true)) from w_eq_bool (w_res rfl) w_lit) rfl
theorem Ly{l:OpenLaw}{n:Nat}{q:Program}{loose:List Str}{XP:(Str->Option Value)->Heap->Prop}{YP:World->Heap->Prop}{d:DefRec}
  (hn:l.most=some n) (hdf:d.params.defaults=[])
  (call:∀(w:World) (s₀ s₁:Shared) (mg mb:Str->Option Value) (fa:Addr) (o:Obj) (pm cd doc:Value) (a:Addr) (vs:List Value) (ns:List Int),
   Ground q loose [] XP w s₀ mg mb s₁.heap->YP w s₁.heap->
   s₁.heap.get? fa=some o->o.data=.func (docDef d.name d.params d.body d.scope pm cd doc)->s₁.heap.CodeRec cd d.name->mg d.name=some (.ref fa)->
   s₁.heap.get? a=some { cls:=.type "list",data:=.seq vs.toArray }->IntsAre vs ns->ns.length<=n->s₁.gens=#[]->
   codeAny (model l.prog w) callerA (.call (.ref fa) ⟨[.ref a],[]⟩) (λr s'=>r=.ok (.ret (.bool true))/\OldK s₁.heap s'.heap/\s'.os=s₁.os/\AllBare s'.gens) s₁) :
  WalkO q loose XP YP l.row.toRowW d [] (λf vs=>PySem.call f vs):=by
 intro w s₀ s₁ mg mb G Y_ fa o pm cd doc dV kV ho hd hcd hD hmg hg args vals as hpre hlay hrd hwl hlo;obtain rfl:dV=.none:=Dflts.none hD hdf;obtain rfl:kV=.none:=Dflts.noKw hD;obtain⟨a,vs,ns,rfl,rfl,hobj,hints,hlen⟩:=OS hn hpre hwl;refine enter_call (codeAny_mono (call w s₀ s₁ mg mb fa o pm cd doc a vs ns G Y_ ho (fd_plain hd) hcd hmg hobj hints hlen hg) λr s' hq=>?_);obtain⟨rfl,h2,h3,h4⟩:=hq;exact⟨.inl ⟨.bool true,.bool true,[],rfl,λ_=>rfl,.bool true,OZ l _,λ_=>⟨List.Pairwise.nil,λ_ hm=>(nomatch hm)⟩⟩,h2,h3,h4⟩
end Att
namespace L2
open PySem PySem.Spec PyProof.Rows
theorem E8:∀{vs:List Value} {ns:List Int},IntsAre vs ns->Vals (ns.map V.int) vs
 |_,_,.nil=>.nil
 |_,_,.cons n t h=>.cons ⟨t,rfl⟩ (E8 h)
def Uj(H:Hp):Prop:=∀b,H b=none∨∃o xs,H b=some (.frz o (.lst xs))
theorem RC{P:Program}{w:World}{K:PySem.W.Frag}{mg mb:Str->Option Value}{CX:CXT}{k:Nat}{fa a:Addr}{fd:FuncData}{x:Str}{sp:Sp}{s₁:Shared}{vs:List Value}{ns:List Int}
  (KX:K.In s₁.heap) (hns:s₁.heap.Ns mainGlobals mg) (hb:s₁.heap.Ns builtinsNs mb) (hbb:∀x:Str,x ≠ "__name__" -> mb x=bootBuiltins x) (hlim:s₁.heap.NoLimit) (hg:s₁.gens=#[])
  (ha:s₁.heap.get? a=some { cls:=.type "list",data:=.seq vs.toArray }) (hi:IntsAre vs ns) (hl:ns.length<=sizeLine) (hr:Room k callerA)
  (F:∀base:Heap,K.In base->base.Ns mainGlobals mg->FnOk P w K mg base CX k fa fd [x] sp) (hbind:∀(s:Shared) (u:Value),BindsTo s fd ⟨[u],[]⟩ [(x,u)])
  (hsp:∀H:Hp,Uj H->SqL K H a (ns.map V.int)->sp [.ref a] H (λv _=>v=.bl true) λ_ _ _=>False)
  (hCX:∀H e s',CX [] H s₁ (λ_ _ _=>False) e s'->False) :
  codeAny (model P w) callerA (.call (.ref fa) ⟨[.ref a],[]⟩) (λr s'=>r=.ok (.ret (.bool true))/\OldK s₁.heap s'.heap/\s'.os=s₁.os/\AllBare s'.gens) s₁:=by
 have rv:=E8 hi;have lenV:=hi.length;have core:∀H:Hp,Uj H->SqL K H a (ns.map V.int)->HOk P w H s₁.heap->(∀b,H b≠none->b=a)->(H a≠none->K.lookup a=none)->
   codeAny (model P w) callerA (.call (.ref fa) ⟨[.ref a],[]⟩) (λr s'=>r=.ok (.ret (.bool true))/\OldK s₁.heap s'.heap/\s'.os=s₁.os/\AllBare s'.gens) s₁:=by
  intro H hO hS hok hA hK;have base_of:∀{b:Addr} {o:Obj},s₁.heap.get? b=some o->H b=none->(KQ s₁.heap H).get? b=some o:=λe n=>Rb e n;have noA:∀{b:Addr} {o:Obj} {es:Array DictEntry} {ep:Nat},s₁.heap.get? b=some o->o.data=.dict es ep->H b=none:=λ{b o es ep} e d=>by
   cases q:H b with
   |none=>rfl
   |some u=>
    have e':b=a:=hA b (by rw[q];simp);subst e';rw[ha] at e;cases e;have d':Data.seq vs.toArray _=Data.dict es ep:=d;cases d'
  have nsK:∀{b:Addr} {m:Str->Option Value},s₁.heap.Ns b m->(KQ s₁.heap H).Ns b m:=λ{b m} ⟨o,es,ep,e,d,r⟩=>⟨o,es,ep,base_of e (noA e d),d,r⟩;have hKb:K.In (KQ s₁.heap H):=λb o e=>base_of (KX b o e) (by
   cases q:H b with
   |none=>rfl
   |some u=>
    have e':b=a:=hA b (by rw[q];simp);subst e';rw[hK (by rw[q];simp)] at e;cases e)
  have hM:Mod K mg (KQ s₁.heap H):=⟨hKb,nsK hns,⟨mb,nsK hb,hbb⟩,let ⟨mc,h1,h2⟩:=hlim;⟨mc,nsK h1,h2⟩⟩;have e0:Uk P w K mg (KQ s₁.heap H) callerA [] s₁ H:=⟨rfl,hM,λb o e=>T7 e,Nat.le_of_eq (Ou _ _),trivial,λb hb=>absurd (show b∈([]:List Addr) from hb) (by simp),hok,.of_eq hg⟩;refine codeAny_mono ((F _ hKb (nsK hns)).run callerA [] s₁ H ⟨[.ref a],[]⟩ [.ref a] [.ref a] _ _ hr e0 (hbind s₁ (.ref a)) (.cons rfl .nil) (hsp H hO hS)) λr s' h=>?_;cases r with
  |error e=>exact(hCX H e s' h).elim
  |ok fl=>
   cases fl with
   |next=>exact False.elim h
   |brk=>exact False.elim h
   |cont=>exact False.elim h
   |ret u=>
    obtain⟨v,H',os,bare,un,hok',r',q⟩:=h;have q':v=.bl true:=q;subst q';obtain rfl:u=Value.bool true:=r';refine⟨rfl,OldK.of_keep λb o e=>?_,os,bare⟩;cases q:H b with
    |none=>exact un.keep b o e q (by intro z;exact absurd (show b∈([]:List Addr) from z) (by simp)) (by simp)
    |some u=>
     rcases hO b with z|⟨ob,xs,z⟩
     ·rw[q] at z;cases z
     ·have z2:=un.frzs b ob _ z;obtain⟨e1,_⟩:=hok b _ z;obtain⟨e2,_⟩:=hok' b _ z2;rw[e] at e1;cases e1;exact e2
 cases hk:K.lookup a with
 |some o=>
  have e:=KX a o hk;rw[ha] at e;cases e;refine core (λ_=>none) (λ_=>.inl rfl) (.inr ⟨_,vs.toArray,_,hk,rfl,rfl,rfl,by rw[List.size_toArray,lenV];exact hl,by simpa using rv⟩) (λb u z=>by have z':(none:Option HO)=some u:=z;cases z') (λb z=>absurd rfl z) λz=>absurd rfl z
 |none=>
  refine core (λb=>if b=a then some (.frz { cls:=.type "list",data:=.seq vs.toArray } (.lst (ns.map V.int))) else none) (λb=>?_) (.inl (.inr ⟨{ cls:=.type "list",data:=.seq vs.toArray },if_pos rfl⟩)) (λb u z=>?_) (λb z=>?_) λ_=>hk
  ·by_cases hb:b=a
   ·exact .inr ⟨_,_,if_pos hb⟩
   ·exact .inl (if_neg hb)
  ·by_cases hb:b=a
   ·have z':=(if_pos hb).symm.trans z;cases z';subst hb;exact⟨ha,by rw[AAF];exact hl,vs,_,rv,ha⟩
   ·have z':=(if_neg hb).symm.trans z;cases z'
  ·by_cases hb:b=a
   ·exact hb
   ·exact absurd (if_neg hb) z
theorem Sy{l:PySem.W.OpenLaw}{n k:Nat}{q:Program}{loose:List Str}{XP:(Str->Option Value)->Heap->Prop}{YP:World->Heap->Prop}{d:DefRec}{K:Params->PySem.W.Frag}{CX:World->CXT}{sp:World->Sp}{x:Str}
  (hn:l.most=some n) (hn2:n<=sizeLine) (hdf:d.params.defaults=[]) (hr:Room k callerA)
  (hY:∀(w:World) (h:Heap),YP w h->(K w.params).In h)
  (F:∀(w:World) (mg:Str->Option Value) (fa:Addr) (h:Heap),(K w.params).In h->h.Ns mainGlobals mg->mg d.name=some (.ref fa)->
   ∃fd:FuncData,(∀(s:Shared) (u:Value),BindsTo s fd ⟨[u],[]⟩ [(x,u)]) /\
    ∀base:Heap,(K w.params).In base->base.Ns mainGlobals mg->FnOk l.prog w (K w.params) mg base (CX w) k fa fd [x] (sp w))
  (hsp:∀(w:World) (H:Hp) (a:Addr) (ns:List Int),ns.length<=n->Uj H->SqL (K w.params) H a (ns.map V.int)->sp w [.ref a] H (λv _=>v=.bl true) λ_ _ _=>False)
  (hCX:∀(w:World) (H:Hp) (s:Shared) (e:Value) (s':Shared),CX w [] H s (λ_ _ _=>False) e s'->False) :
  PySem.W.WalkO q loose XP YP l.row.toRowW d [] (λf vs=>PySem.call f vs):=by
 refine Att.Ly hn hdf λw s₀ s₁ mg mb fa o pm cd doc a vs ns G Y_ ho hd hcd hmg hobj hints hlen hg=>?_;have KX:=hY w _ Y_;obtain⟨fd,hb,hF⟩:=F w mg fa _ KX G.T.g hmg;exact RC KX G.T.g G.T.b G.T.builtins G.T.nolimit hg hobj hints (AAt hlen hn2) hr hF hb (λH hO hS=>hsp w H a ns hlen hO hS) λH e s'=>hCX w H s₁ e s'
noncomputable def F6(s:Stmt):Arguments:=match s with
 | .FunctionDef _ a _ _ _ _ _ _ _ _=>a
 |_=>{ posonlyargs:=[],args:=[],vararg:=none,kwonlyargs:=[],kw_defaults:=[],kwarg:=none,defaults:=[] }
noncomputable def DB(s:Stmt):List Stmt:=match s with
 | .FunctionDef _ _ b _ _ _ _ _ _ _=>b
 |_=>[]
noncomputable def AS(s:Stmt):Scope:=match s with
 | .FunctionDef _ _ _ _ _ _ sc _ _ _=>sc
 |_=>{ kind:=.function,names:=[],isGenerator:=false,isCoroutine:=false }
noncomputable abbrev CX0:CXT:=λ_ _ _ _ _ _=>False
noncomputable abbrev E0:XK:=λ_ _ _=>False
theorem Xh{X:Cx}:M4 CX0 X E0:=λ_ _ _ _ _ _ _ h=>h.elim
structure Fun(K:PySem.W.Frag)(x qual:Str)(st:Stmt)(f:Addr)(fd:FuncData):Prop where
 ex:∃(oc:Value) (od:Option Addr) (kV doc pm:Value) (an:Option Addr) (cdv ct:Value) (osl:Array (Option Value)),
  fd=PySem.W.fnOf x qual (F6 st) (DB st) (AS st) .none kV doc pm an cdv ct/\K.lookup f=some ⟨oc,od,.func fd,osl⟩/\PySem.W.codeIn K cdv qual=true
 kp:PySem.W.keepIn K (.ref f)=true
section
variable{P:Program}{w:World}{K:PySem.W.Frag}{mg:Str->Option Value}{base:Heap}
theorem Fun.ok{x qual:Str}{st:Stmt}{f:Addr}{fd:FuncData}{N ps:List Str}{k:Nat}{sp:Sp}(F:Fun K x qual st f fd)(S:Ae N ps (AS st))(len:∀vs H Q E,sp vs H Q E->vs.length=ps.length)
  (hbody:∀(cdv:Value) (A:Around) (outer:List Env) (s:Shared) (H:Hp) (vs:List V) (Q:VK) (E:XK),Room k (A.deeper (envOfC qual (AS st) s.heap.objs.size f cdv))->sp vs H Q E->
   ∃t,PSs (Ic CX0 P w K mg base N qual (AS st) f cdv A outer s H E).nox (DB st) t/\t { nx:=λ_ H'=>Q .non H',rt:=Q } (start N vs) H):FnOk P w K mg base CX0 (k+1) f fd ps sp:=by
 obtain⟨oc,od,kV,doc,pm,an,cdv,ct,osl,rfl,lk,hcd⟩:=F.ex;refine YB lk hcd S len λA outer s H vs Q E hr hsp=>?_;obtain⟨t,h,q⟩:=hbody cdv A outer s H vs Q E hr hsp;exact⟨t,h.nox,q⟩
theorem Fun.binds{x qual:Str}{st:Stmt}{f:Addr}{fd:FuncData}{ps:List Str}(F:Fun K x qual st f fd)
  (h:∀(kV doc pm:Value) (an:Option Addr) (cdv ct:Value) (us:List Value),us.length=ps.length->bindArgs (PySem.W.fnOf x qual (F6 st) (DB st) (AS st) .none kV doc pm an cdv ct) ⟨us,[]⟩=pure (ps.zip us)):Binds K fd ps []:=by
 obtain⟨oc,od,kV,doc,pm,an,cdv,ct,osl,rfl,lk,hcd⟩:=F.ex;exact .all (h kV doc pm an cdv ct)
theorem We{x qual:Str}{st:Stmt}{f:Addr}{oc:Value}{od an:Option Addr}{osl:Array (Option Value)}{kV doc pm cdv ct:Value}(l:K.lookup f=some ⟨oc,od,.func (PySem.W.fnOf x qual (F6 st) (DB st) (AS st) .none kV doc pm an cdv ct),osl⟩)
  (c:PySem.W.codeIn K cdv qual=true) (k:PySem.W.keepIn K (.ref f)=true):Fun K x qual st f (PySem.W.fnOf x qual (F6 st) (DB st) (AS st) .none kV doc pm an cdv ct):=⟨⟨oc,od,kV,doc,pm,an,cdv,ct,osl,rfl,l,c⟩,k⟩
end
theorem Ra{A:Around}{k:Nat}(hr:Room k A):A.units+1<cLine:=AAs (Nat.add_le_add_left (by decide:1<=64) _) hr.units
section
variable{κ:Type}[DecidableEq κ]
end
noncomputable def E6(env:Env):List (Str×NameKind)->List (Str×Addr)->List (Str×Addr)
 |[],cs=>cs
 |(n,k)::r,cs=>E6 env r (if k==.free then (match env.cells.lookup n with|some c=>(n,c)::cs|none=>cs) else cs)
theorem DM{env:Env}:∀(l:List (Str×NameKind)) (cs:List (Str×Addr)),(∀x∈l,x.2=.free->∃c,env.cells.lookup x.1=some c)->
  (forIn l cs λ(x:Str×NameKind) (r:List (Str×Addr))=>(if (x.2==NameKind.free)=true then (do let a ←cellOf env x.1;pure (ForInStep.yield ((x.1,a)::r))) else pure (ForInStep.yield r):Sem (ForInStep (List (Str×Addr)))))=pure (E6 env l cs)
 |[],cs,_=>by rw[List.forIn_nil];rfl
 |(n,k)::r,cs,h=>by
  have hr:∀x∈r,x.2=.free->∃c,env.cells.lookup x.1=some c:=λx hx=>h x (AAQ _ hx);rw[List.forIn_cons];by_cases hk:k=.free
  ·subst hk;obtain⟨c,hc⟩:=h (n,.free) AAP rfl;have e:cellOf env n=pure c:=by unfold cellOf;rw[hc]
   dsimp only;rw[if_pos (by decide),e,pure_bind,pure_bind];dsimp only;rw[DM r _ hr];show _=pure (E6 env r (if (NameKind.free==NameKind.free)=true then (match env.cells.lookup n with|some c=>(n,c)::cs|none=>cs) else cs));rw[if_pos (by decide),hc]
  ·have hb:¬(k==NameKind.free)=true:=by simpa using hk
   dsimp only;rw[if_neg hb,pure_bind];dsimp only;rw[DM r _ hr];show _=pure (E6 env r (if (k==NameKind.free)=true then (match env.cells.lookup n with|some c=>(n,c)::cs|none=>cs) else cs));rw[if_neg hb]
theorem EA{scope:Scope}{env:Env}(h:∀x∈scope.names,x.2=.free->∃c,env.cells.lookup x.1=some c):closureFor scope env=pure (E6 env scope.names []):=by
 have e:=DM (env:=env) scope.names [] h;unfold closureFor;dsimp only;rw[←bind_pure (pure (E6 env scope.names [])),←e]
theorem Ez{env:Env}:∀(l:List (Str×NameKind)) (cs:List (Str×Addr)),(∀x c,cs.lookup x=some c->env.cells.lookup x=some c)->∀x c,(E6 env l cs).lookup x=some c->env.cells.lookup x=some c
 |[],cs,h=>h
 |(n,k)::r,cs,h=>by
  refine Ez r _ ?_;intro x c;by_cases hk:(k==NameKind.free)=true
  ·rw[if_pos hk];cases hl:env.cells.lookup n with
   |none=>exact h x c
   |some d=>
    intro q;by_cases hx:x=n
    ·subst hx;rw[List.lookup_cons_self] at q;rw[hl];exact q
    ·have hb:(x==n)=false:=AAf.mpr hx;simp only[List.lookup_cons,hb] at q;exact h x c q
  ·rw[if_neg hk];exact h x c
theorem IG{env:Env}:∀(l:List (Str×NameKind)) (cs:List (Str×Addr)) (x:Str),(cs.lookup x).isSome=true->((E6 env l cs).lookup x).isSome=true
 |[],cs,x,h=>h
 |(n,k)::r,cs,x,h=>by
  refine IG r _ x ?_;by_cases hk:(k==NameKind.free)=true
  ·rw[if_pos hk];cases hl:env.cells.lookup n with
   |none=>exact h
   |some d=>
    by_cases hx:(x==n)=true
    ·simp only[List.lookup_cons,hx,Option.isSome_some]
    ·have hb:(x==n)=false:=by simpa using hx
     simp only[List.lookup_cons,hb];exact h
  ·rw[if_neg hk];exact h
theorem Lr{env:Env}:∀(l:List (Str×NameKind)) (cs:List (Str×Addr)) (x:Str) (c:Addr),(x,NameKind.free)∈l->env.cells.lookup x=some c->((E6 env l cs).lookup x).isSome=true
 |[],cs,x,c,h,_=>by simp at h
 |(n,k)::r,cs,x,c,h,hc=>by
  rcases AAI.mp h with e|e
  ·obtain⟨rfl,rfl⟩:=Prod.mk.inj e;refine IG r _ _ ?_;rw[if_pos (by decide),hc];simp only[List.lookup_cons_self,Option.isSome_some]
  ·exact Lr r _ x c e hc
theorem Jb{env:Env}{l:List (Str×NameKind)}{x:Str}{c:Addr}(h:(x,NameKind.free)∈l)(hc:env.cells.lookup x=some c):(E6 env l []).lookup x=some c:=by
 obtain⟨d,hd⟩:=Option.isSome_iff_exists.mp (Lr l [] x c h hc);have:=Ez l [] (λ_ _ z=>by simp at z) x d hd;rw[hc] at this;cases this;exact hd
noncomputable def CJ:List (Str×NameKind)->List Str
 |[]=>[]
 |(n,.free)::r=>n::CJ r
 |_::r=>CJ r
theorem Fa{x:Str}:∀{l:List (Str×NameKind)},x∈CJ l->(x,NameKind.free)∈l
 |[],h=>by simp[CJ] at h
 |(n,k)::r,h=>by
  cases k<;>first
   |(rcases AAI.mp (show x∈n::CJ r from h) with e|e;{subst e;exact AAP};{exact AAQ _ (Fa e)})
   |exact AAQ _ (Fa (show x∈CJ r from h))
theorem JP{x:Str}:∀{l:List (Str×NameKind)},(x,NameKind.free)∈l->x∈CJ l
 |[],h=>by simp at h
 |(n,k)::r,h=>by
  rcases AAI.mp h with e|e
  ·cases e;exact AAP
  ·have ih:=JP e;cases k<;>first
    |exact AAQ _ ih
    |exact ih
theorem Er{x:Str}(f:Str×NameKind->Str×NameKind)(hf:∀p,f p=p∨p.2=.free/\f p=(p.1,.cell)):∀(l:List (Str×NameKind)) (k:NameKind),(l.map f).lookup x=some k->l.lookup x=some k∨l.lookup x=some .free/\k=.cell
 |[],_,h=>nomatch h
 |(y,j)::l,k,h=>by
  have rest:=Er (x:=x) f hf l k;rw[AAW] at h;rcases hf (y,j) with e|⟨ej,e⟩<;>rw[e] at h<;>cases he:x==y<;>simp only[List.lookup_cons,he] at h ⊢
  ·exact rest h
  ·exact .inl h
  ·exact rest h
  ·cases h;cases (show j=NameKind.free from ej);exact .inr ⟨rfl,rfl⟩
theorem DX{scope:Scope}{env:Env}{x:Str}{k:NameKind}(h:(relabel scope env).names.lookup x=some k):scope.names.lookup x=some k∨scope.names.lookup x=some .free/\k=.cell:=by
 unfold relabel at h;refine Er _ (λp=>?_) _ _ h;obtain⟨n,j⟩:=p;dsimp only;split
 ·rename_i hc;refine .inr ⟨?_,rfl⟩;simp only[Bool.and_eq_true,beq_iff_eq] at hc;exact hc.1.1
 ·exact .inl rfl
noncomputable def JC(ix:List Nat)(O:St):St:=ix.map λj=>(O[j]?).getD none
noncomputable def cxB(X:Cx)(scope:Scope)(tgs:List Str)(fp:List Addr)(C:Addr)(s:Shared)(H:Hp):Cx:=
 { X with N:=tgs++CJ scope.names,s₀:=s,H₀:=H,env:=compEnvC scope (E6 X.env scope.names []) C X.env,outer:=X.stack,ex:=fp,fn:=λ_=>false,pn:=[],xe:=λ_ _=>False }
noncomputable def Wz{α:Type}(P:α->Prop):List α->Prop
 |[]=>True
 |x::r=>P x/\Wz P r
theorem IN{α:Type}{P:α->Prop}:∀{l:List α},Wz P l->∀x∈l,P x
 |[],_,_,h=>by simp at h
 |_::_,h,x,hx=>by
  rcases AAI.mp hx with e|e
  ·subst e;exact h.1
  ·exact IN h.2 x e
structure BScope(X:Cx)(scope:Scope)(tgs:List Str)(ix:List Nat):Prop where
 kind:scope.kind=.function
 nocell:∀y∈scope.names,y.2≠.cell
 loc:∀y∈scope.names,y.2=.local->scope.names.lookup y.1=some .local
 fre:Wz (λx=>X.env.kindOf x=some .cell∨X.env.kindOf x=some .free) (CJ scope.names)
 ixs:(CJ scope.names).map some=ix.map λj=>X.N[j]?
 ndl:∀x∈CJ scope.names,scope.names.lookup x=some .free
section
variable{X:Cx}{scope:Scope}{tgs:List Str}{ix:List Nat}
theorem BScope.cells(S:BScope X scope tgs ix)(ok:X.Ok):∀x∈scope.names,x.2=.free->∃c,X.env.cells.lookup x.1=some c:=λx hx hk=>by
 obtain⟨n,k⟩:=x;subst hk;exact ok.has n (IN S.fre n (JP hx))
theorem Inv.cellLt{w4:List (Addr×Obj)}{O:St}{H:Hp}{s:Shared}(I:Inv X w4 O H s){x:Str}{c:Addr}(e:X.env.cells.lookup x=some c):c<s.heap.objs.size:=by
 obtain⟨v,q⟩:=I.cell x c e;exact q.lt
theorem Inv.track{w4:List (Addr×Obj)}{O:St}{H:Hp}{s:Shared}{D:Addr}{o:HO}(I:Inv X w4 O H s)(f:GF X w4 H D)(new:ObjOk X.prog X.w (upd H D o) s.heap D o):Inv X w4 O (upd H D o) s:=by
 obtain⟨f0,f1,f2,f3,f4,f5⟩:=f;have nD:∀b u,H b=some u->b≠D:=λb u e z=>by rw[z,f0] at e;cases e
 have:=I.step (h':=s.heap) (H':=upd H D o) (g':=s.gens) (t':=s.toks) (d':=s.drawn) (ch:=[D]) (λb hb=>?_) (λb u _ _ _ e _=>e) (λb u _ _ _ e _=>⟨u.slots,e⟩) (λb u hb e n=>?_) (λb u _ e=>⟨u,e⟩)
  (λb xs e=>?_) (λb u v e=>?_) (λb ps e=>?_) (λm hm=>hm) (λb u e=>?_) I.bare
 ·exact this
 ·have e:b=D:=by simpa using hb
  subst e;exact⟨f3,f1,f4,f5⟩
 ·rw[A0 (λz=>hb (by simp[z]))];exact n
 ·rw[A0 (nD b _ e)];exact e
 ·rw[A0 (nD b _ e)];exact e
 ·exact⟨#[],by rw[A0 (nD b _ e),e];simp⟩
 ·by_cases hb:b=D
  ·subst hb;rw[BZ] at e;cases e;exact new
  ·rw[A0 hb] at e;exact(I.hok b u e).stay (λ_ _ _ q=>q) (λc q=>by rw[A0 (nD c _ q)];exact q) λc xs q=>by rw[A0 (nD c _ q)];exact q
theorem R6{w4:List (Addr×Obj)}{O:St}{H:Hp}{s:Shared}{fp:List Addr}{C:Addr}(S:BScope X scope tgs ix)(I:Inv X w4 O H s)(hf:∀b∈fp,GF X w4 H b)(hfo:∀b∈fp,b<s.heap.objs.size)(hC:s.heap.objs.size<=C):
  (cxB X scope tgs fp C s H).Ok:=by
 have sub:∀x c,(E6 X.env scope.names []).lookup x=some c->X.env.cells.lookup x=some c:=Ez scope.names [] (λ_ _ z=>by simp at z);refine⟨I.ok.mod,S.kind,I.ok.glob,I.ok.blt,hC,λx y c h1 h2=>I.ok.inj x y c (sub x c h1) (sub y c h2),λx hx=>?_,λx c h=>absurd h (by simp[cxB]),I.ok.hd,I.ok.frames,.inl rfl,λb hb=>⟨?_,λx c e=>?_⟩,λb o e=>I.bs b o e,
  AAt I.ok.bsz I.sz,λb o e hb=>?_,λb hb hz=>?_,I.stack,I.stkFree⟩
 ·have hx':(relabel scope X.env).names.lookup x=some .cell∨(relabel scope X.env).names.lookup x=some .free:=hx;have hm:(x,NameKind.free)∈scope.names:=by
   rcases hx' with h|h
   ·rcases DX h with q|q
    ·exact absurd rfl (S.nocell _ (PySem.mem_of_lookup q))
    ·exact PySem.mem_of_lookup q.1
   ·rcases DX h with q|q
    ·exact PySem.mem_of_lookup q
    ·exact absurd q.2 (by decide)
  obtain⟨c,hc⟩:=S.cells I.ok _ hm rfl;exact⟨c,Jb hm hc⟩
 ·exact λz=>absurd (hfo b hb) (by rw[z];exact Nat.not_lt.mpr hC)
 ·exact(hf b hb).2.2.2.2.1 x c (sub x c e)
 ·obtain⟨f0,f1,f2,f3,f4,f5⟩:=hf b hb;rcases f3 with z|z
  ·exact I.ok.noex b o e z
  ·exact absurd (Heap.lt_size (I.ok.bs b o e).1) (Nat.not_lt.mpr z)
 ·obtain⟨f0,f1,f2,f3,f4,f5⟩:=hf b hb;rcases AAI.mp (I.stkSub b hz) with z|z
  ·exact f1 z
  ·exact f2 z
end
section
variable{X:Cx}{scope:Scope}{tgs:List Str}{ix:List Nat}
noncomputable abbrev Ct(tgs:List Str)(ix:List Nat)(O:St):St:=List.replicate tgs.length none++JC ix O
theorem HI{O:St}{k:Nat}{v:V}(h:(Ct tgs ix O)[k]?=some (some v)):tgs.length<=k/\∃j,ix[k-tgs.length]?=some j/\O[j]?=some (some v):=by
 have hk:tgs.length<=k:=by
  rcases Nat.lt_or_ge k tgs.length with z|z
  ·rw[AAS (by simpa using z),List.getElem?_replicate,if_pos z] at h;cases h
  ·exact z
 refine⟨hk,?_⟩;rw[AAR (by simpa using hk),AAo] at h;unfold JC at h;rw[AAV] at h;cases e:ix[k-tgs.length]? with
 |none=>rw[e] at h;cases h
 |some j=>
  rw[e] at h;refine⟨j,rfl,?_⟩;have h':(O[j]?).getD none=some v:=Option.some.inj h;cases q:O[j]? with
  |none=>rw[q] at h';cases h'
  |some o=>
   rw[q] at h';have h'':o=some v:=h';rw[h'']
theorem Mo{w4:List (Addr×Obj)}{O:St}{H:Hp}{s s4:Shared}{fp:List Addr}{C D:Addr}{o:Obj}(S:BScope X scope tgs ix)(I:Inv X w4 O H s)(hf:∀b∈fp,GF X w4 H b)(hfo:∀b∈fp,b<s.heap.objs.size)
  (hC:s.heap.objs.size<=C) (hD:s.heap.objs.size<=D) (hDC:D≠C) {m:Str->Option Value} (hn:s4.heap.Ns C m) (hk:∀b u,s.heap.get? b=some u->s4.heap.get? b=some u) (hos:s4.os=s.os) (hg:s4.gens=s.gens)
  (hDo:s4.heap.get? D=some o) (hcell:∀v,o.data≠.cell v):Inv (cxB X scope tgs fp C s H) [(D,o)] (Ct tgs ix O) H s4:=by
 have ok:=R6 (tgs:=tgs) (ix:=ix) (C:=C) S I hf hfo hC;have sub:∀x c,(E6 X.env scope.names []).lookup x=some c->X.env.cells.lookup x=some c:=Ez scope.names [] (λ_ _ z=>by simp at z);refine⟨ok,hos,by rw[hg];exact I.bare,Un.kept hk,⟨m,hn,λk x v h1 h2 h3=>?_⟩,λx c e=>?_,I.hok.fresh hC,λx c e=>I.freeC x c (sub x c e),λp hp=>?_,I.hok.kept hk,?_⟩
 ·obtain⟨hkl,j,hj,hσ⟩:=HI h2;have h1':(CJ scope.names)[k-tgs.length]?=some x:=by
   have:(tgs++CJ scope.names)[k]?=some x:=h1
   rwa [AAR hkl] at this
  have hx:x∈CJ scope.names:=AAU h1';have hXN:X.N[j]?=some x:=by
   have e:=congrArg (λl=>l[k-tgs.length]?) S.ixs;simp only[AAV,h1',hj,Option.map_some] at e;exact(Option.some.inj e).symm
  have kx:=IN S.fre x hx;obtain⟨m0,hn0,hl⟩:=I.loc;obtain⟨u,r,l⟩:=hl j x v hXN hσ (by rcases kx with z|z;exact .inr (.inl z);exact .inr (.inr z));refine⟨u,r,?_⟩;rcases l with ⟨z,_⟩|⟨_,c,hc,q⟩
  ·rcases kx with y|y<;>rw[z] at y<;>cases y
  ·refine .inr ⟨?_,c,Jb (Fa hx) hc,?_⟩
   ·have h3':(relabel scope X.env).names.lookup x=some .local∨(relabel scope X.env).names.lookup x=some .cell∨(relabel scope X.env).names.lookup x=some .free:=h3;rcases h3' with z|z|z
    ·exfalso;rcases DX z with w|w
     ·have lk:scope.names.lookup x=some .local:=w;have:=S.ndl x hx;rw[lk] at this;cases this
     ·exact absurd w.2 (by decide)
    ·exact .inl z
    ·exact .inr z
   ·obtain⟨oc,hoc,hd⟩:=q;exact⟨oc,hk c oc hoc,hd⟩
 ·obtain⟨v,oc,hoc,hd⟩:=I.cell x c (sub x c e);exact⟨v,oc,hk c oc hoc,hd⟩
 ·have e:p=(D,o):=by simpa[cxB] using hp
  subst e;refine⟨hDo,I.hok.fresh hD,hDC,λhz=>?_,hcell⟩;have hz':D∈frs X.stack:=hz;rcases AAI.mp (I.stkSub D hz') with z|z
  ·exact absurd I.lt (by rw[←z];exact Nat.not_lt.mpr hD)
  ·exact I.nofs hD z
 ·show (List.replicate tgs.length none++JC ix O).length=(tgs++CJ scope.names).length;have e:=congrArg List.length S.ixs;simp only[AAF] at e;rw[AAG,AAG,AAo,e];unfold JC;rw[AAF]
def GK(n:Nat)(g:TG):Prop:=∀x O H Q,g x O H Q->g x O H λu7 H2=>Q u7 H2/\u7.length=O.length/\u7.drop n=O.drop n
theorem UV{n i:Nat}(h:i<n):GK n (Gf i):=λx O H Q q=>⟨q,by simp,by rw[List.drop_set_of_lt h]⟩
def YM(tgs:List Str)(ix:List Nat)(g:TG)(tc:TT)(te:TE)(O:St)(Q:VK)(J:It)(H1:Hp):Prop:=∃W:Nat->Nat->List V->Hp->Prop,(∃m,W 0 m [] H1)/\∀i m ys H,W i m ys H->
 (J.stop i H/\ys.length<=sizeLine/\∀p,H p=none->Q (.ref p) (upd H p (.lst ys))) ∨
 (J.go i H/\ys.length<sizeLine/\∃N:List V->Hp->Prop,(∀ys' H',N ys' H'->∃m',m'<m/\W (i+1) m' ys' H')/\∀x H',J.yld i H x H'->g x (Ct tgs ix O) H' λu7 H2=>tc u7 H2 λb H3=>
  if b=true then te u7 H3 λv H4=>N (ys++[v]) H4 else N ys H3)
noncomputable def P1(tgs:List Str)(ix:List Nat)(wi:TI)(g:TG)(tc:TT)(te:TE):TE:=λO H Q=>wi O H λJ H1=>YM tgs ix g tc te O Q J H1
theorem Mv{α:Type}{t:Sem α}{Q Q':α->Shared->Prop}{M:Model}{A:Around}{E:Value->Shared->Prop}{s:Shared}(h:wpAny M A t Q (λ_ _=>False) s)(hQ:∀a s,Q a s->Q' a s):wpAny M A t Q' E s:=AAk h hQ λ_ _ x=>x.elim
end
section
variable{X:Cx}{scope:Scope}{tgs:List Str}{ix:List Nat}
noncomputable abbrev KI(its:List Value)(k:Nat):Obj:={ cls:=.type "list",data:=.seq its.toArray k }
theorem Ul{fp:List Addr}{C:Addr}{s0:Shared}{H0:Hp}{w4:List (Addr×Obj)}{O v6:St}{H:Hp}{s:Shared}(I:Inv (cxB X scope tgs fp C s0 H0) w4 v6 H s)(l6:v6.length=(Ct tgs ix O).length)
  (d6:v6.drop tgs.length=(Ct tgs ix O).drop tgs.length):Inv (cxB X scope tgs fp C s0 H0) w4 (Ct tgs ix O) H s:=by
 refine I.weak l6.symm λk v e=>?_;obtain⟨hk,_⟩:=HI e;have e1:v6[k]?=(v6.drop tgs.length)[k-tgs.length]?:=by rw[List.getElem?_drop];congr 1;omega
 have e2:(Ct tgs ix O)[k]?=((Ct tgs ix O).drop tgs.length)[k-tgs.length]?:=by rw[List.getElem?_drop];congr 1;omega
 rw[e1,d6,←e2];exact e
end
section
variable{X:Cx}
theorem Lx:CA X (.builtin "isinstance") (λxs H Q=>∃x T t b,xs=[x,.ty T]/\GE X.K H x t/\PySem.W.kitOne X.K t (.type T)=some b/\Q (.bl b) H):=by
 intro w4 s O H xs us Q I r h;obtain⟨x,T,t,b,rfl,ty,e,q⟩:=h;obtain⟨u,w',rfl,rx,ry⟩:=W5 r;cases ry;exact Op I rx ty e λtk=>⟨.bl b,H,I.tok tk,rfl,q⟩
end
mutual
inductive DatV (K:PySem.W.Frag) (H:Hp):V->PyData->Prop
 |non:DatV K H .non .none
 |bl (b:Bool):DatV K H (.bl b) (.bool b)
 |int (i:Int):DatV K H (.int i) (.int i)
 |str (x:Str):DatV K H (.str x) (.str x)
 |tup {a:Addr} {xs:List V} {ds:List PyData}:SqT K H a xs->DatVs K H xs ds->DatV K H (.ref a) (.tuple ds)
 |lst {a:Addr} {xs:List V} {ds:List PyData}:SqL K H a xs->DatVs K H xs ds->DatV K H (.ref a) (.list ds)
inductive DatVs (K:PySem.W.Frag) (H:Hp):List V->List PyData->Prop
 |nil:DatVs K H [] []
 |cons {v:V} {d:PyData} {vs:List V} {ds:List PyData}:DatV K H v d->DatVs K H vs ds->DatVs K H (v::vs) (d::ds)
end
section
variable{X:Cx}{w4:List (Addr×Obj)}{O:St}{H:Hp}{s:Shared}
mutual
theorem DatV.reads(I:Inv X w4 O H s):∀{v:V} {d:PyData},DatV X.K H v d->∀{u:Value},RelV v u->∃as,Reads s.heap u d as
 |_,_,.non,_,r=>by cases r;exact⟨[],.none⟩
 |_,_,.bl b,_,r=>by cases r;exact⟨[],.bool b⟩
 |_,_,.int i,_,r=>by obtain⟨t,rfl⟩:=r;exact⟨[],.int i t⟩
 |_,_,.str x,_,r=>by obtain⟨t,rfl⟩:=r;exact⟨[],.str x t⟩
 |_,_,.tup hq hs,_,r=>by
  cases r;obtain⟨its,rv,⟨o,e,c,n,d⟩,_⟩:=I.tuple hq;obtain⟨as,ra⟩:=DatVs.reads I hs rv;exact⟨_,.tuple e c d (by simpa using ra)⟩
 |_,_,.lst hq hs,_,r=>by
  cases r;obtain⟨its,rv,⟨o,n,e,c,_,d⟩,_⟩:=I.list hq;obtain⟨as,ra⟩:=DatVs.reads I hs rv;exact⟨_,.list e c d (by simpa using ra)⟩
theorem DatVs.reads(I:Inv X w4 O H s):∀{vs:List V} {ds:List PyData},DatVs X.K H vs ds->∀{us:List Value},Vals vs us->∃as,ReadsAll s.heap us ds as
 |_,_,.nil,_,.nil=>⟨[],.nil⟩
 |_,_,.cons h t,_,.cons r rr=>by
  obtain⟨a,ra⟩:=DatV.reads I h r;obtain⟨b,rb⟩:=DatVs.reads I t rr;exact⟨_,.cons ra rb⟩
end
end
section
variable{X:Cx}
theorem WB(hu:X.A.units+64<cLine):OpR X (compareOp .Eq) (λx y H Q=>∃d d',DatV X.K H x d/\DatV X.K H y d'/\SeqAt.shaped d=true/\SeqAt.shaped d'=true/\Q (.bl (PyData.eqv d d')) H):=by
 intro w4 s O H x y v u Q I rx ry h;obtain⟨d,d',h1,h2,s1,s2,q⟩:=h;obtain⟨as,ra⟩:=h1.reads I rx;obtain⟨bs,rb⟩:=h2.reads I ry;exact SeqAt.compareEq_shaped ra rb s1 s2 hu ⟨.bl _,H,I,rfl,q⟩
theorem V7(hu:X.A.units+64<cLine):OpR X (compareOp .NotEq) (λx y H Q=>∃d d',DatV X.K H x d/\DatV X.K H y d'/\SeqAt.shaped d=true/\SeqAt.shaped d'=true/\Q (.bl (!PyData.eqv d d')) H):=by
 intro w4 s O H x y v u Q I rx ry h;obtain⟨d,d',h1,h2,s1,s2,q⟩:=h;obtain⟨as,ra⟩:=h1.reads I rx;obtain⟨bs,rb⟩:=h2.reads I ry;exact SeqAt.compareNe_shaped ra rb s1 s2 hu ⟨.bl _,H,I,rfl,q⟩
theorem P9{A:Around}{k:Nat}(hr:Room k A):A.units+64<cLine:=hr.units
end
theorem Inv.turnedL{X:Cx}{w4:List (Addr×Obj)}{O:St}{H:Hp}{s:Shared}{h':Heap}{t':Nat}{ch:List Addr}(I:Inv X w4 O H s)(k:∀b o,b∉ch->s.heap.get? b=some o->h'.get? b=some o)(hf:∀b∈ch,GF X w4 H b):Inv X w4 O H { s with heap:=h',toks:=t' }:=by
 have nit:∀b u,H b=some u->b∉ch:=λb u e z=>by rw[(hf b z).1] at e;cases e
 refine I.step (g':=s.gens) (d':=s.drawn) (ch:=ch) (λb hb=>⟨(hf b hb).2.2.2.1,(hf b hb).2.1,(hf b hb).2.2.2.2.1,(hf b hb).2.2.2.2.2⟩) (λb o _ _ hc e _=>k b o hc e) (λb o _ _ hc e _=>⟨o.slots,k b o hc e⟩) (λ_ _ _ _ n=>n)
  (λb o hc e=>⟨o,k b o hc e⟩) (λ_ _ e=>e) (λ_ _ _ e=>e) (λb ps e=>⟨#[],by rw[e];simp⟩) (λm hm=>?_) (λb u e=>?_) I.bare
 ·obtain⟨o,es,ep,ho,r⟩:=hm;exact⟨o,es,ep,k _ o (λz=>(hf _ z).2.1 rfl) ho,r⟩
 ·refine(I.hok b u e).stay (λc v hc q=>k c v ?_ q) (λ_ q=>q) λ_ _ q=>q;rcases hc with z|z
  ·rw[z];exact nit b u e
  ·exact nit c _ z
noncomputable def ItP(K:PySem.W.Frag)(n:Nat)(src:Nat->List V)(Cond:PySem.W.Frag->Hp->Prop):It:=
 ⟨λi H=>i<n/\Cond K H,λi H v H'=>∃T,H T=none/\v=.ref T/\H'=upd H T (.tup (src i)),λi H=>i=n/\Cond K H⟩
theorem HE{P:Program}{w:World}{K:PySem.W.Frag}{es:List Expr}{k0:Nat}{pos:Pos}{I0:Addr}{Y:Type}{fp wr:List Addr}{n:Nat}{src:Nat->List V}{good:Y->Prop}{Pt:Y->Nat->Array Value->Prop}{Sw:Y->Nat->Heap->Prop}{Mid:Y->Nat->Addr->Heap->Prop}{tn:Nat->Heap->Prop}{Cond:PySem.W.Frag->Hp->Prop}
  (W:∀A:Around,A.handled=none->∀z,good z->WalksT P w A I0 fp wr n (Pt z) (Sw z) (Mid z)) (hmem:I0∈wr) (hPt:∀z i vals,good z->Pt z i vals->Vals (src i) vals.toList) (hlen:∀i,(src i).length<=sizeLine)
  (obj:∀i h,tn i h->∀b∈wr,∃o,h.get? b=some o/\∀v,o.data≠.cell v)
  (keep:∀i h h',tn i h->(∀b∈wr,∀o,h.get? b=some o->h'.get? b=some o)->tn i h')
  (into:∀(X:Cx) (w4:List (Addr×Obj)) (O:St) (H:Hp) (s:Shared) (i:Nat),X.prog=P->X.w=w->X.K=K->Inv X w4 O H s->Cond K H->tn i s.heap->∃z,good z/\Sw z i s.heap) (out:∀z i h,Sw z i h->tn i h)
  (self:∀(A:Around) (i:Nat) (s:Shared) (Q:Value->Shared->Prop) (E:Value->Shared->Prop),tn i s.heap->Q (.ref I0) s->wpAny (model P w) A (pyIter (.ref I0)) Q E s) :
  L7 P w K (.Tuple es k0 pos) (ItP K n src Cond) wr I0 tn where
 mem:=hmem
 obj:=obj
 keep:=keep
 item:=by
  intro X hP hw hK hc i w4 s O H E I hf st hg;obtain⟨hi,hcond⟩:=hg;obtain⟨z,gz,sz⟩:=into X w4 O H s i hP hw hK I hcond st;have W':=W X.A (I.ok.hd hc) z gz;refine W'.item i s _ _ hi sz λT vals h' tk hp hT ht hm kk=>⟨_,rfl,?_⟩;have I1:Inv X w4 O H { s with heap:=h',toks:=tk }:=I.turnedL kk hf;refine W'.go es k0 pos i T _ _ _ hm λh2 st2 kk2=>?_;have I2:Inv X w4 O H { s with heap:=h2,toks:=tk }:=I1.turnedL (t':=tk) kk2 hf;have hn:H T=none:=I.hok.fresh hT;have ht2:IsTup h2 T vals:=by
   obtain⟨o,e,r⟩:=ht;exact⟨o,kk2 T o (W'.apart i T _ hm) e,r⟩
  refine⟨.ref T,upd H T (.tup (src i)),I2.track (I.fpOk hT hn) ⟨hlen i,vals.toList,hPt z i vals gz hp,by simpa using ht2⟩,rfl,⟨T,hn,rfl,rfl⟩,out z _ _ st2,λb hb=>?_⟩;have hbT:b≠T:=λz=>W'.apart i T _ hm (by rw[←z];exact hb);rw[A0 hbT];exact(hf b hb).1
 done:=by
  intro X hP hw hK hc i w4 s O H E I hf st hg;obtain⟨hi,hcond⟩:=hg;subst hi;obtain⟨z,gz,sz⟩:=into X w4 O H s i hP hw hK I hcond st;exact(W X.A (I.ok.hd hc) z gz).done s _ _ sz λh' tk kk=>⟨rfl,I.turnedL kk hf⟩
 self:=self
noncomputable def Ey(xs:List V)(i:Nat):List V:=[.int i,xs.getD i .non]
theorem ID{xs:List V}{its:List Value}(r:Vals xs its){i:Nat}{vals:Array Value}(h:∃t x,its.toArray[i]?=some x/\vals=#[.int i t,x]):Vals (Ey xs i) vals.toList:=by
 obtain⟨t,x,hx,rfl⟩:=h;have hx':its[i]?=some x:=by simpa using hx
 have hlt:i<its.length:=(AAT.mp hx').1;have hl:=r.length;have hv:xs[i]?=some (xs.getD i .non):=by
  rw[AAu (by omega)];simp[List.getD,show i<xs.length by omega]
 obtain⟨u,hu,ru⟩:=r.get hv;rw[hx'] at hu;cases hu;exact .cons ⟨t,rfl⟩ (.cons ru .nil)
theorem Nw{P:Program}{w:World}{e it:Addr}{f:Nat->Heap->Prop}(A:Around)(i:Nat)(s:Shared)(Q:Value->Shared->Prop)(E:Value->Shared->Prop)(st:(∃old,IsEnum s.heap e it i old)/\f i s.heap)(h:Q (.ref e) s):wpAny (model P w) A (pyIter (.ref e)) Q E s:=by
 obtain⟨⟨old,he⟩,_⟩:=st;exact wpAny_pyIter_enum he h
theorem Rt{e it:Addr}{h:Heap}{i:Nat}{o:Obj}(he:∃old,IsEnum h e it i old)(ho:h.get? it=some o)(hd:∃vs,o.data=.fields vs):∀b∈[e,it],∃o,h.get? b=some o/\∀v,o.data≠.cell v:=λb hb=>by
 rcases AAI.mp hb with z|z
 ·subst z;obtain⟨old,he⟩:=he;exact⟨_,he,λv q=>by cases q⟩
 ·rw[AAK.mp z];obtain⟨vs,hd⟩:=hd;exact⟨o,ho,λv q=>by rw[hd] at q;cases q⟩
theorem MI{P:Program}{w:World}{K:PySem.W.Frag}{es:List Expr}{k0:Nat}{pos:Pos}(a e it:Addr)(xs:List V)(hei:e≠it)(hea:e≠a)(hai:a≠it):
  L7 P w K (.Tuple es k0 pos) (ItP K xs.length (Ey xs) λK H=>SqL K H a xs) [e,it] e (λi h=>(∃old,IsEnum h e it i old)/\h.IsListIter it a i):=
 HE (Y:=List Value) (good:=λits=>Vals xs its) (Pt:=λits i vals=>∃t x,its.toArray[i]?=some x/\vals=#[.int i t,x]) (Sw:=λits i h=>(∃old,IsEnum h e it i old)/\h.IsListIter it a i/\h.IsList a its.toArray)
  (λA hA its r=>by
   have hl:xs.length=its.toArray.size:=by rw[List.size_toArray];exact r.length
   rw[hl];exact WalksT.enumerateD (Draws.list (show A.in1.handled=none from hA) it a hai its.toArray) e hei (by simp[hei,hea]) (by simp))
  (by simp) (λits i vals r h=>ID r h) (λi=>(by show 2<=sizeLine;decide))
  (λi h st=>by obtain⟨o,ho,_,hd⟩:=st.2;exact Rt st.1 ho ⟨_,hd⟩)
  (λi h h' st k=>⟨by obtain⟨old,q⟩:=st.1;exact⟨old,k e (by simp) _ q⟩,st.2.at λo q=>k it (by simp) o q⟩)
  (λX w4 O H s i hP hw hK I hc st=>by
   subst hK;obtain⟨its,r,p,_⟩:=I.list hc;exact⟨its,r,st.1,st.2,p.isList⟩)
  (λz i h st=>⟨st.1,st.2.1⟩) (λA i s Q E st h=>Nw (f:=λi h=>h.IsListIter it a i) A i s Q E st h)
end L2
namespace L2
open PySem PySem.Spec PyProof.Rows
open AutoSeq1 (wpAny_loadPart')
section
variable{X:Cx}{es:List Expr}{k0:Nat}{tpos:Pos}
noncomputable def Wc(K:PySem.W.Frag)(ta:TA):TI:=λO H R=>ta O H λvs H1=>∃a xs,vs=[.ref a]/\SqL K H1 a xs/\R (ItP K xs.length (Ey xs) λK H=>SqL K H a xs) H1
theorem Jf:bootBuiltins "enumerate" = some (.type "enumerate"):=by decide +kernel
theorem Pr{w4:List (Addr×Obj)}{O:St}{H:Hp}{s:Shared}(I:Inv X w4 O H s):∀b∈[s.heap.objs.size+1,s.heap.objs.size],GF X w4 H b:=λb hb=>by
 have hb':b=s.heap.objs.size+1∨b=s.heap.objs.size:=by simpa using hb
 rcases hb' with e|e<;>subst e
 ·exact I.fpOk (Nat.le_succ _) (I.hok.fresh (Nat.le_succ _))
 ·exact I.fpOk (AAE _) (I.hok.fresh (AAE _))
theorem Qd{a:Expr}{ta:TA}{p pos:Pos}(hg:Gl X "enumerate")(hm:X.mg "enumerate" = none)(ha:PA X [a] ta)(hs:starEach [a] X.env=[(false,eval a X.env)]:=by rfl):PI X (.Tuple es k0 tpos) (.Call (.Name "enumerate" p) [a] [] pos) (Wc X.K ta):=by
 intro w4 s O H R I h;refine Call_ (GP I hg hm Jf (PyProof.Rows.callWith_type1 (thn (ha pos w4 s O H _ I h) λus s1 ⟨vs,H1,I1,r1,q1⟩=>?_) hs rfl));obtain⟨l,xs,e,hq,q⟩:=q1;subst e;obtain⟨u,rfl,ru⟩:=FM r1;cases ru;obtain⟨its,rv,pl,hz⟩:=I1.list hq;have hlt:l<s1.heap.objs.size:=by obtain⟨o,n,e,_⟩:=pl;exact Heap.lt_size e
 refine call_enumerate_list pl.isList λh' he hit hsz kk=>wpAny_pyIter_enum he ?_;exact⟨s1.heap.objs.size+1,[s1.heap.objs.size+1,s1.heap.objs.size],_,_,H1,rfl,I1.kept (t':=s1.toks) kk,MI l _ _ xs (Nat.succ_ne_self _) (Nat.ne_of_gt (AAi hlt)) (AAe hlt),⟨⟨_,he⟩,hit⟩,Pr I1,q⟩
end
end L2
namespace L2
open PySem PySem.Spec PyProof.Rows
end L2
namespace Nk
open PySem PySem.Spec PyProof.Rows
inductive NK where
 |int (i:Int)|tup (ks:List NK)
noncomputable instance:DecidableEq NK:=λ_ _=>Classical.propDecidable _
mutual
def NK.deep:NK->Nat
 | .int _=>0
 | .tup ks=>NK.deeps ks+1
def NK.deeps:List NK->Nat
 |[]=>0
 |k::ks=>max (NK.deep k) (NK.deeps ks)
end
mutual
def NK.hash:NK->Int
 | .int i=>hashInt i
 | .tup ks=>reduceHash (Builtin.Tuple.tupleHashOf (NK.hashes ks))
def NK.hashes:List NK->List Int
 |[]=>[]
 |k::ks=>NK.hash k::NK.hashes ks
end
mutual
def NK.draws:NK->Nat
 | .int _=>1
 | .tup ks=>NK.drawsL ks+1
def NK.drawsL:List NK->Nat
 |[]=>0
 |k::ks=>NK.draws k+NK.drawsL ks
end
mutual
def At(h:Heap):NK->Value->Prop
 | .int i,v=>∃t,v=.int i t
 | .tup ks,v=>∃a o items n,v=.ref a/\h.get? a=some o/\o.cls=.type "tuple" /\ o.data=.seq items n/\Ats h ks items.toList
def Ats(h:Heap):List NK->List Value->Prop
 |[],vs=>vs=[]
 |k::ks,vs=>∃v vs',vs=v::vs'/\At h k v/\Ats h ks vs'
end
mutual
theorem At.inj{h:Heap}:∀{k j:NK} {v:Value},At h k v->At h j v->k=j
 | .int i,.int j,v,a,b=>by
  unfold At at a b;obtain⟨t,rfl⟩:=a;obtain⟨u,e⟩:=b;injection e with e1 _
  rw[e1]
 | .int i,.tup js,v,a,b=>by
  unfold At at a b;obtain⟨t,rfl⟩:=a;obtain⟨_,_,_,_,e,_⟩:=b;cases e
 | .tup ks,.int j,v,a,b=>by
  unfold At at a b;obtain⟨t,rfl⟩:=b;obtain⟨_,_,_,_,e,_⟩:=a;cases e
 | .tup ks,.tup js,v,a,b=>by
  unfold At at a b;obtain⟨x,o,items,n,rfl,h1,_,h3,h4⟩:=a;obtain⟨x',o',items',n',e,h1',_,h3',h4'⟩:=b;cases e;rw[h1] at h1';cases h1';rw[h3] at h3';cases h3';rw[Ats.inj h4 h4']
theorem Ats.inj{h:Heap}:∀{ks js:List NK} {vs:List Value},Ats h ks vs->Ats h js vs->ks=js
 |[],[],_,_,_=>rfl
 |[],_::_,vs,a,b=>by
  unfold Ats at a b;subst a;obtain⟨_,_,e,_⟩:=b;cases e
 |_::_,[],vs,a,b=>by
  unfold Ats at a b;subst b;obtain⟨_,_,e,_⟩:=a;cases e
 |k::ks,j::js,vs,a,b=>by
  unfold Ats at a b;obtain⟨v,vs',rfl,a1,a2⟩:=a;obtain⟨v',vs'',e,b1,b2⟩:=b;cases e;rw[At.inj a1 b1,Ats.inj a2 b2]
end
mutual
theorem At.kept{h h':Heap}:∀{k:NK} {v:Value},At h k v->(∀a o items n,h.get? a=some o->o.cls=.type "tuple" -> o.data=.seq items n->h'.get? a=some o)->At h' k v
 | .int i,v,a,_=>by unfold At at a ⊢;exact a
 | .tup ks,v,a,kp=>by
  unfold At at a ⊢;obtain⟨x,o,items,n,rfl,h1,h2,h3,h4⟩:=a;exact⟨x,o,items,n,rfl,kp x o items n h1 h2 h3,h2,h3,Ats.kept h4 kp⟩
theorem Ats.kept{h h':Heap}:∀{ks:List NK} {vs:List Value},Ats h ks vs->(∀a o items n,h.get? a=some o->o.cls=.type "tuple" -> o.data=.seq items n->h'.get? a=some o)->Ats h' ks vs
 |[],vs,a,_=>by unfold Ats at a ⊢;exact a
 |k::ks,vs,a,kp=>by
  unfold Ats at a ⊢;obtain⟨v,vs',rfl,a1,a2⟩:=a;exact⟨v,vs',rfl,At.kept a1 kp,Ats.kept a2 kp⟩
end
section
variable{prog:Program}{w:World}{A:Around}{E:Value->Shared->Prop}{s:Shared}
theorem Rc{a:Addr}{o:Obj}{items:Array Value}{n:Nat}{hs:List Int}{d:Nat}{Q:Int->Shared->Prop}(hu:A.units<cLine)(ho:s.heap.get? a=some o)(hc:o.cls=.type "tuple")(hd:o.data=.seq items n)
  (each:∀(P:Array Int->Shared->Prop),P hs.toArray { s with toks:=s.toks+d }->wpAny (model prog w) A.in1 (forIn items.toList (#[]:Array Int) λx r=>do let y ←pyHash x;pure (ForInStep.yield (r.push y))) P E s)
  (q:Q (reduceHash (Builtin.Tuple.tupleHashOf hs)) { s with toks:=s.toks+(d+1) }):wpAny (model prog w) A (pyHash (.ref a)) Q E s:=by
 have hT:s.TypeIs (.ref a) "tuple" := ⟨o,ho,hc⟩;show wpAny _ _ (pyHashByItsType (.ref a)) Q E s;unfold pyHashByItsType;refine AAA (wpAny_cRoomFor_or (.inr hu) (AAA (wpAny_specialOf hT PySem.F.slot_tuple_hash.lookup ?_)));rw[if_neg (by rw[beq_builtin_none];exact AAh)];refine AAA (wpAny_specialOf hT PySem.F.slot_tuple_hash.lookup ?_);show wpAny _ _ (callSpecialIfBoundUnlessNone? (.ref a) "__hash__" _ >>= _) Q E s;refine AAA (wpAny_callSpecialIfBoundUnlessNone?_slot hT PySem.F.slot_tuple_hash (AAd PySem.F.slot_tuple_hash hT PySem.F.entry_tuple_hash ?_ (PySem.F.args_tuple_hash_1 _)));show wpAny _ _ (Builtin.Tuple.tupleItemsOf (.ref a) >>= _) _ _ s;refine AAA (wpAny_tupleItemsOf ho hd (AAA ?_));rw[←Array.forIn_toList];refine each _ ?_;show wpAny _ _ (retInt (Builtin.Tuple.tupleHashOf hs.toArray.toList)) _ _ _;refine wpAny_ret_mkInt ?_;show wpAny _ _ (pyHashByItsType.reduced _) Q E _;unfold pyHashByItsType.reduced;unfold reduceHash at q;split
 ·rename_i hr;rw[if_pos hr] at q;exact AAB q
 ·rename_i hr;rw[if_neg hr] at q;exact AAA (wpAny_rule (AAB q))
mutual
theorem At.hash:∀{k:NK} {v:Value} {A:Around} {E:Value->Shared->Prop} {s:Shared} {Q:Int->Shared->Prop},A.units+k.deep<cLine->At s.heap k v->Q k.hash { s with toks:=s.toks+k.draws }->wpAny (model prog w) A (pyHash v) Q E s
 | .int i,v,A,E,s,Q,hu,hk,q=>by
  unfold At at hk;obtain⟨t,rfl⟩:=hk;exact(intKind prog w).pyHash (k:=i) (by simp[intKind,Value.isInt]) q
 | .tup ks,v,A,E,s,Q,hu,hk,q=>by
  unfold At at hk;obtain⟨a,o,items,n,rfl,h1,h2,h3,h4⟩:=hk;have hu':A.units+(NK.deeps ks+1)<cLine:=hu;refine Rc (hs:=NK.hashes ks) (d:=NK.drawsL ks) (by omega) h1 h2 h3 (λP p=>?_) q;exact Ats.hash (A:=A.in1) (by show A.units+1+NK.deeps ks<cLine;omega) h4 (acc:=#[]) (by simpa using p)
theorem Ats.hash:∀{ks:List NK} {vs:List Value} {A:Around} {E:Value->Shared->Prop} {s:Shared} {acc:Array Int} {P:Array Int->Shared->Prop},A.units+NK.deeps ks<cLine->Ats s.heap ks vs->P (acc++(NK.hashes ks).toArray) { s with toks:=s.toks+NK.drawsL ks }->
  wpAny (model prog w) A (forIn vs acc λx r=>do let y ←pyHash x;pure (ForInStep.yield (r.push y))) P E s
 |[],vs,A,E,s,acc,P,hu,hk,q=>by
  unfold Ats at hk;subst hk;rw[List.forIn_nil];exact AAB (by simpa[NK.hashes,NK.drawsL] using q)
 |k::ks,vs,A,E,s,acc,P,hu,hk,q=>by
  unfold Ats at hk;obtain⟨v,vs',rfl,a1,a2⟩:=hk;rw[List.forIn_cons];have hu':A.units+max (NK.deep k) (NK.deeps ks)<cLine:=hu;refine AAA (AAA (At.hash (by omega) a1 (AAB ?_)));refine Ats.hash (by omega) (s:={ s with toks:=s.toks+k.draws }) a2 ?_;simpa[NK.hashes,NK.drawsL,Nat.add_assoc] using q
end
end
end Nk
namespace Nk
open PySem PySem.Spec PyProof.Rows PySem.MeetsSeq PySem.SeqAt
theorem Ats.len{h:Heap}:∀{ks:List NK} {vs:List Value},Ats h ks vs->vs.length=ks.length
 |[],_,a=>by unfold Ats at a;subst a;rfl
 |k::ks,_,a=>by
  unfold Ats at a;obtain⟨v,vs',rfl,_,a2⟩:=a;simp[Ats.len a2]
noncomputable def Hg(ks js:List NK)(j:Nat):Bool:=decide (ks[j]?=js[j]?)
theorem Om{ks js:List NK}:((List.range (min ks.length js.length)).all (Hg ks js)&&ks.length==js.length)=decide (NK.tup ks=NK.tup js):=by
 by_cases e:ks=js
 ·subst e;rw[AAO rfl,beq_self_eq_true,Bool.and_true,List.all_eq_true];intro j _;exact AAO rfl
 ·rw[AAN (λz=>e (NK.tup.inj z))];by_cases hl:ks.length=js.length
  ·rw[beq_iff_eq.mpr hl,Bool.and_true,←Bool.not_eq_true];intro z;rw[List.all_eq_true] at z;refine e (List.ext_getElem? λj=>?_);by_cases hj:j<ks.length
   ·exact of_decide_eq_true (z j (List.mem_range.mpr (by omega)))
   ·rw[List.getElem?_eq_none (by omega),List.getElem?_eq_none (by omega)]
  ·rw[AAf.mpr hl,Bool.and_false]
mutual
theorem At.eq:∀{k j:NK} {u v:Value} {A:Around} {s:Shared},A.units+k.deep<cLine->At s.heap k u->At s.heap j v->EqAt A s u v (decide (k=j))
 | .int i,.int j,u,v,A,s,hu,a,b=>by
  unfold At at a b;obtain⟨t,rfl⟩:=a;obtain⟨t',rfl⟩:=b;have:decide (NK.int i=NK.int j)=(i==j):=by
   by_cases e:i=j
   ·subst e;simp
   ·rw[AAN (λz=>e (NK.int.inj z)),AAf.mpr e]
  rw[this];exact EqAt.int_int i t j t'
 | .int i,.tup js,u,v,A,s,hu,a,b=>by
  unfold At at a b;obtain⟨t,rfl⟩:=a;obtain⟨x,o,items,n,rfl,h1,h2,h3,_⟩:=b;rw[AAN (by intro z;cases z)];exact EqAt.int_tuple i t ⟨o,h1,h2,n,h3⟩ (AAs (Nat.le_add_right _ _) hu)
 | .tup ks,.int j,u,v,A,s,hu,a,b=>by
  unfold At at a b;obtain⟨t,rfl⟩:=b;obtain⟨x,o,items,n,rfl,h1,h2,h3,_⟩:=a;rw[AAN (by intro z;cases z)];exact EqAt.tuple_int j t ⟨o,h1,h2,n,h3⟩ (AAs (Nat.le_add_right _ _) hu)
 | .tup ks,.tup js,u,v,A,s,hu,a,b=>by
  have a':=a;have b':=b;unfold At at a b;obtain⟨x,o,items,n,rfl,h1,h2,h3,h4⟩:=a;obtain⟨y,o',items',n',rfl,h1',h2',h3',h4'⟩:=b;have hu':A.units+(NK.deeps ks+1)<cLine:=hu;by_cases e:x=y
  ·subst e;rw[At.inj a' b',AAO rfl];exact EqAt.same _
  ·rw[←Om];have l1:=h4.len;have l2:=h4'.len;rw[Array.length_toList] at l1 l2;rw[←l1,←l2];refine EqAt.of_refs e (RcAt.tuples ⟨o,h1,h2,n,h3⟩ ⟨o',h1',h2',n',h3'⟩ (by omega) λj g1 g2=>?_);have:=Ats.eqs (A:=A.in1) (by show A.units+1+NK.deeps ks<cLine;omega) h4 h4' j (by simpa using g1) (by simpa using g2);simpa using this
theorem Ats.eqs:∀{ks js:List NK} {us vs:List Value} {A:Around} {s:Shared},A.units+NK.deeps ks<cLine->Ats s.heap ks us->Ats s.heap js vs->∀(j:Nat) (h1:j<us.length) (h2:j<vs.length),EqAt A s us[j] vs[j] (Hg ks js j)
 |[],js,us,vs,A,s,hu,a,b,j,h1,h2=>by unfold Ats at a;subst a;simp at h1
 |k::ks,[],us,vs,A,s,hu,a,b,j,h1,h2=>by unfold Ats at b;subst b;simp at h2
 |k::ks,l::js,us,vs,A,s,hu,a,b,j,h1,h2=>by
  unfold Ats at a b;obtain⟨u,us',rfl,a1,a2⟩:=a;obtain⟨v,vs',rfl,b1,b2⟩:=b;have hu':A.units+max (NK.deep k) (NK.deeps ks)<cLine:=hu;cases j with
  |zero=>
   have:=At.eq (k:=k) (j:=l) (A:=A) (by omega) a1 b1;have e:Hg (k::ks) (l::js) 0=decide (k=l):=by unfold Hg;simp
   rw[e];exact this
  |succ j=>
   have:=Ats.eqs (A:=A) (by omega) a2 b2 j (by simpa using h1) (by simpa using h2);have e:Hg (k::ks) (l::js) (j+1)=Hg ks js j:=by unfold Hg;simp
   rw[e];simpa using this
end
section
variable{prog:Program}{w:World}
theorem At.quiet:∀(d:Nat) {k:NK} {v:Value} {A:Around} {E:Value->Shared->Prop} {s:Shared} {Q:Bool->Shared->Prop},k.deep<=d->At s.heap k v->Q true s->wpAny (model prog w) A (eqIsQuiet d v) Q E s
 |d,.int i,v,A,E,s,Q,hd,a,q=>by
  unfold At at a;obtain⟨t,rfl⟩:=a;unfold eqIsQuiet;exact AAB q
 |0,.tup ks,v,A,E,s,Q,hd,a,q=>by
  have hd':NK.deeps ks+1<=0:=hd;omega
 |d'+1,.tup ks,v,A,E,s,Q,hd,a,q=>by
  have hd':NK.deeps ks+1<=d'+1:=hd;unfold At at a;obtain⟨x,o,items,n,rfl,h1,h2,h3,h4⟩:=a;have hT:s.TypeIs (.ref x) "tuple" := ⟨o,h1,h2⟩;unfold eqIsQuiet;refine AAA (wpAny_specialOf hT PySem.F.slot_tuple_eq.lookup ?_);show wpAny _ _ (isInstance (.ref x) (.type "tuple") >>= _) _ _ s;refine AAA (wpAny_isInstance hT isSubtype_tuple_tuple ?_);simp only[Bool.not_true,Bool.false_eq_true,if_false];refine AAA (wpAny_seqItems h1 h3 (AAA ?_));show wpAny _ _ (forIn items _ _) _ _ s;rw[←Array.forIn_toList];refine wpAny_forIn_list _ (λrest r s'=>r.1=none/\s'=s/\∃ks',NK.deeps ks'<=d'/\Ats s.heap ks' rest) _ ?_ ?_ _ _ ⟨rfl,rfl,ks,by omega,h4⟩
  ·rintro y rest r s' ⟨hr,rfl,ks',hk,at'⟩;cases ks' with
   |nil=>unfold Ats at at';cases at'
   |cons k' ks'=>
    unfold Ats at at';obtain⟨_,_,e,a1,a2⟩:=at';cases e;have hk':max (NK.deep k') (NK.deeps ks')<=d':=hk;refine AAA (At.quiet d' (k:=k') (by omega) a1 ?_);simp only[Bool.not_true,Bool.false_eq_true,if_false];exact AAB ⟨rfl,rfl,ks',by omega,a2⟩
  ·rintro⟨r1,r2⟩ s' ⟨hr,rfl,_⟩;simp only at hr;subst hr;exact AAB q
noncomputable def kind(prog:Program)(w:World):HeapKind prog w NK where
 is:=λh k a=>At h k (.ref a)/\k.deep<=8
 hash:=NK.hash
 draws:=NK.draws
 room:=λA=>A.units+8<cLine
 inj:=λhx hy=>hx.1.inj hy.1
 keeps:=λ{h h' k a d o es ep} x ho hd hs=>⟨x.1.kept λb o' items n e _ e3=>by
  have hne:b≠d:=by
   intro z;subst z;rw[ho] at e;cases e;rw[hd] at e3;cases e3
  exact(hs.2 b hne).trans e,x.2⟩
 pyHash:=λhu hk h=>At.hash (by have:=hk.2;omega) hk.1 h
 eqBool:=λ{A E s x y a b Q} hu hx hy h=>At.eq (by have:=hx.2;omega) hx.1 hy.1 _ _ E Q h
 quiet:=λhk h=>At.quiet 8 hk.2 hk.1 h
end
noncomputable abbrev Cs:=Int×Int×List Int
noncomputable def csK(c:Cs):NK:=.tup [.int c.1,.int c.2.1,.tup (c.2.2.map NK.int)]
open L2 in
noncomputable def D9(p:Addr)(l:List (Cs×Addr×V)):HO:=.ext λh=>∃(us:List Value) (o:Obj) (es:Array DictEntry) (ep:Nat),Vals (l.map (·.2.2)) us/\h.get? p=some o/\o.ExactDict/\o.data=.dict es ep /\
 es.toList=(l.zip us).map (λx=>{ key:=.ref x.1.2.1,hash:=(csK x.1.1).hash,val:=x.2 })/\(l.map (·.1)).Nodup/\l.length<=sizeLine/\(p==sysModules)=false
end Nk
namespace Mi
open PySem L2 Nk
inductive D where
 |non|bl (b:Bool)|int (i:Int)|str (x:Str)|ty (n:String)|scr (ns:List Int)|tup (xs:List D)|lst (xs:List D)|ref (n:Nat)
inductive MO where
 |lst (xs:List D)|dK (kvs:List (Key×D))|dC (kvs:List (Cs×D))|ins (c:Str) (fs:List (Str×D))|dP (kvs:List (D×D))|exc (c:Str) (n:Option Nat)
abbrev Mh:=List MO
set_option genInjectivity false in
structure KW where
 fr:PySem.W.Frag
 w:World
instance:CoeOut KW PySem.W.Frag:=⟨KW.fr⟩
noncomputable abbrev _root_.L2.Cx.kw(X:Cx):KW:=⟨X.K,X.w⟩
noncomputable abbrev M(α:Type):=Mh->Option (α×Mh)
noncomputable abbrev Sl:=List (Option D)
noncomputable def ret{α:Type}(a:α):M α:=λZ=>some (a,Z)
noncomputable def bnd{α β:Type}(m:M α)(f:α->M β):M β:=λZ=>match m Z with
 |some (a,w5)=>f a w5
 |none=>none
noncomputable def Bb{α:Type}:M α:=λ_=>none
theorem AF{α β:Type}{m:M α}{f:α->M β}{Z:Mh}{r:β×Mh}(h:bnd m f Z=some r):∃a w5,m Z=some (a,w5)/\f a w5=some r:=by
 unfold bnd at h;cases e:m Z with
 |none=>rw[e] at h;cases h
 |some p=>obtain⟨a,w5⟩:=p;rw[e] at h;exact⟨a,w5,rfl,h⟩
@[simp] theorem YN{α β:Type}(a:α)(f:α->M β):bnd (ret a) f=f a:=rfl
theorem AM{α β:Type}{m:M α}{f:α->M β}{Z w5:Mh}{a:α}(h:m Z=some (a,w5)):bnd m f Z=f a w5:=by unfold bnd;rw[h]
def ScrAt(K:PySem.W.Frag)(H:Hp)(a:Addr)(xs:List V):Prop:=
 (∃o,H a=some (.frz o (.lst xs)))∨∃(o:Obj) (its:Array Value) (n:Nat),K.lookup a=some o/\o.cls=.type "list" /\ o.dict=none/\o.data=.seq its n/\its.size<=sizeLine/\Vals xs its.toList
theorem ScrAt.sq{K:PySem.W.Frag}{H:Hp}{a:Addr}{xs:List V}(h:ScrAt K H a xs):SqL K H a xs:=h.elim (λz=>.inl (.inr z)) .inr
mutual
def Is(K:KW)(Y:Nat->Addr)(k:Nat)(H:Hp):D->V->Prop
 | .non,v=>v=.non
 | .bl b,v=>v=.bl b
 | .int i,v=>v=.int i
 | .str x,v=>v=.str x
 | .ty n,v=>v=.ty n
 | .scr ns,v=>∃p,v=.ref p/\ScrAt K H p (ns.map V.int)
 | .tup ds,v=>∃p vs,v=.ref p/\SqT K H p vs/\IsL K Y k H ds vs
 | .lst ds,v=>∃p vs,v=.ref p/\H p=some (.lst vs)/\(∀n,n<k->Y n≠p)/\IsL K Y k H ds vs
 | .ref n,v=>n<k/\v=.ref (Y n)
def IsL(K:KW)(Y:Nat->Addr)(k:Nat)(H:Hp):List D->List V->Prop
 |[],vs=>vs=[]
 |d::ds,vs=>∃v vs',vs=v::vs'/\Is K Y k H d v/\IsL K Y k H ds vs'
end
section
variable{K:KW}{Y Y' x6:Nat->Addr}{k k' k2:Nat}{H H' H2:Hp}
theorem IsL.length:∀{ds:List D} {vs:List V},IsL K Y k H ds vs->vs.length=ds.length
 |[],_,h=>by unfold IsL at h;subst h;rfl
 |_::_,_,h=>by
  unfold IsL at h;obtain⟨v,vs',rfl,_,h⟩:=h;simp only[AAH,IsL.length h]
theorem IsL.get:∀{ds:List D} {vs:List V} {i:Nat} {d:D},IsL K Y k H ds vs->ds[i]?=some d->∃v,vs[i]?=some v/\Is K Y k H d v
 |[],_,_,_,_,e=>by simp at e
 |_::_,_,0,_,h,e=>by
  unfold IsL at h;obtain⟨v,vs',rfl,h1,_⟩:=h;simp at e;subst e;exact⟨v,rfl,h1⟩
 |_::_,_,i+1,d,h,e=>by
  unfold IsL at h;obtain⟨v,vs',rfl,_,h⟩:=h;obtain⟨u,e1,e2⟩:=IsL.get (i:=i) (d:=d) h (by simpa using e);exact⟨u,by simpa using e1,e2⟩
theorem IsL.append:∀{ds es:List D} {vs us:List V},IsL K Y k H ds vs->IsL K Y k H es us->IsL K Y k H (ds++es) (vs++us)
 |[],_,_,_,h,q=>by unfold IsL at h;subst h;exact q
 |_::_,_,_,_,h,q=>by
  unfold IsL at h;obtain⟨v,vs',rfl,h1,h⟩:=h;show IsL K Y k H (_::(_++_)) _;unfold IsL;exact⟨v,_,rfl,h1,IsL.append h q⟩
theorem IsL.take:∀(n:Nat) {ds:List D} {vs:List V},IsL K Y k H ds vs->IsL K Y k H (ds.take n) (vs.take n)
 |0,ds,vs,_=>by rw[List.take_zero,List.take_zero];unfold IsL;rfl
 |n+1,[],_,h=>by unfold IsL at h;subst h;simp only[List.take_nil];unfold IsL;rfl
 |n+1,_::_,_,h=>by
  unfold IsL at h;obtain⟨v,vs',rfl,h1,h⟩:=h;simp only[List.take_succ_cons];unfold IsL;exact⟨v,_,rfl,h1,IsL.take n h⟩
theorem IsL.drop:∀(n:Nat) {ds:List D} {vs:List V},IsL K Y k H ds vs->IsL K Y k H (ds.drop n) (vs.drop n)
 |0,_,_,h=>h
 |n+1,[],_,h=>by unfold IsL at h;subst h;simp only[List.drop_nil];unfold IsL;rfl
 |n+1,_::_,_,h=>by
  unfold IsL at h;obtain⟨v,vs',rfl,h1,h⟩:=h;simp only[List.drop_succ_cons];exact IsL.drop n h
theorem IsL.cons{d:D}{ds:List D}{v:V}{vs:List V}(h:Is K Y k H d v)(t:IsL K Y k H ds vs):IsL K Y k H (d::ds) (v::vs):=by
 unfold IsL;exact⟨v,vs,rfl,h,t⟩
theorem IsL.nil:IsL K Y k H [] []:=by unfold IsL;rfl
theorem IsL.one{d:D}{v:V}(h:Is K Y k H d v):IsL K Y k H [d] [v]:=.cons h .nil
theorem IsL.ints:∀{ns:List Int} {vs:List V},IsL K Y k H (ns.map D.int) vs->vs=ns.map V.int
 |[],_,h=>by unfold IsL at h;exact h
 |_::_,_,h=>by
  unfold List.map IsL at h;obtain⟨v,vs',rfl,h1,h⟩:=h;unfold Is at h1;rw[h1,IsL.ints h];rfl
theorem IsL.ofInts:∀(ns:List Int),IsL K Y k H (ns.map D.int) (ns.map V.int)
 |[]=>.nil
 |n::r=>.cons (by unfold Is;rfl) (IsL.ofInts r)
noncomputable def RV:HO->Bool
 | .lst _=>true
 | .dK _=>true
 | .ext _=>true
 | .ins _ _ _=>true
 |_=>false
def Muts(Y:Nat->Addr)(k:Nat)(H:Hp):Prop:=∀n,n<k->∃o,H (Y n)=some o/\RV o=true
structure Ext(Y:Nat->Addr)(k:Nat)(H:Hp)(Y':Nat->Addr)(k':Nat)(H':Hp):Prop where
 le:k<=k'
 agree:∀n,n<k->Y' n=Y n
 fresh:∀n,k<=n->n<k'->H (Y' n)=none
 keep:∀p o,H p=some o->(∀n,n<k->Y n≠p)->H' p=some o
 was:Muts Y k H
 there:Muts Y k H'
theorem Ext.refl(h:Muts Y k H):Ext Y k H Y k H:=⟨AAE _,λ_ _=>rfl,λn h1 h2=>absurd h1 (by omega),λ_ _ e _=>e,h,h⟩
theorem Ext.trans(a:Ext Y k H Y' k' H')(b:Ext Y' k' H' x6 k2 H2):Ext Y k H x6 k2 H2 where
 le:=AAt a.le b.le
 agree:=λn h=>(b.agree n (AAM h a.le)).trans (a.agree n h)
 fresh:=λn h1 h2=>by
  rcases Nat.lt_or_ge n k' with z|z
  ·rw[b.agree n z];exact a.fresh n h1 z
  ·have q:=b.fresh n z h2;cases e:H (x6 n) with
   |none=>rfl
   |some o=>
    by_cases hx:∃m,m<k/\Y m=x6 n
    ·obtain⟨m,hm,e2⟩:=hx;obtain⟨o',q',_⟩:=a.there m hm;rw[e2,q] at q';cases q'
    ·have:=a.keep _ o e (λm hm e2=>hx ⟨m,hm,e2⟩);rw[q] at this;cases this
 keep:=λp o e hn=>b.keep p o (a.keep p o e hn) (λn hlt e2=>by
  rcases Nat.lt_or_ge n k with z|z
  ·rw[a.agree n z] at e2;exact hn n z e2
  ·have:=a.fresh n z hlt;rw[e2,e] at this;cases this)
 was:=a.was
 there:=λn h=>by
  have:=b.there n (AAM h a.le);rw[a.agree n h] at this;exact this
theorem Ext.out(a:Ext Y k H Y' k' H'){p:Addr}{o:HO}(e:H p=some o)(hn:∀n,n<k->Y n≠p):∀n,n<k'->Y' n≠p:=λn h e2=>by
 rcases Nat.lt_or_ge n k with z|z
 ·rw[a.agree n z] at e2;exact hn n z e2
 ·have:=a.fresh n z h;rw[e2,e] at this;cases this
theorem Muts.ne(a:Muts Y k H){p:Addr}{o:HO}(e:H p=some o)(hm:RV o=false):∀n,n<k->Y n≠p:=λn hn e2=>by
 obtain⟨o',q,h⟩:=a n hn;rw[e2,e] at q;cases q;rw[hm] at h;cases h
theorem Jv{p:Addr}{vs:List V}(a:Ext Y k H Y' k' H')(h:SqT K H p vs):SqT K H' p vs:=by
 rcases h with h|h
 ·rcases h with h|⟨o,h⟩
  ·exact .inl (.inl (a.keep p _ h (a.was.ne h rfl)))
  ·exact .inl (.inr ⟨o,a.keep p _ h (a.was.ne h rfl)⟩)
 ·exact .inr h
theorem J2{p:Addr}{vs:List V}(a:Ext Y k H Y' k' H')(h:ScrAt K H p vs):ScrAt K H' p vs:=by
 rcases h with ⟨o,h⟩|h
 ·exact .inl ⟨o,a.keep p _ h (a.was.ne h rfl)⟩
 ·exact .inr h
mutual
theorem Is.ext(a:Ext Y k H Y' k' H'):∀{d:D} {v:V},Is K Y k H d v->Is K Y' k' H' d v
 | .non,_,h=>by unfold Is at h ⊢;exact h
 | .bl _,_,h=>by unfold Is at h ⊢;exact h
 | .int _,_,h=>by unfold Is at h ⊢;exact h
 | .str _,_,h=>by unfold Is at h ⊢;exact h
 | .ty _,_,h=>by unfold Is at h ⊢;exact h
 | .scr ns,_,h=>by
  unfold Is at h ⊢;obtain⟨p,rfl,h⟩:=h;exact⟨p,rfl,J2 a h⟩
 | .tup ds,_,h=>by
  unfold Is at h ⊢;obtain⟨p,vs,rfl,h1,h2⟩:=h;exact⟨p,vs,rfl,Jv a h1,IsL.ext a h2⟩
 | .lst ds,_,h=>by
  unfold Is at h ⊢;obtain⟨p,vs,rfl,h1,hn,h2⟩:=h;exact⟨p,vs,rfl,a.keep p _ h1 hn,a.out h1 hn,IsL.ext a h2⟩
 | .ref n,_,h=>by
  unfold Is at h ⊢;obtain⟨h,rfl⟩:=h;exact⟨AAM h a.le,by rw[a.agree n h]⟩
theorem IsL.ext(a:Ext Y k H Y' k' H'):∀{ds:List D} {vs:List V},IsL K Y k H ds vs->IsL K Y' k' H' ds vs
 |[],_,h=>by unfold IsL at h ⊢;exact h
 |_::_,_,h=>by
  unfold IsL at h ⊢;obtain⟨v,vs',rfl,h1,h2⟩:=h;exact⟨v,vs',rfl,Is.ext a h1,IsL.ext a h2⟩
end
noncomputable def KVs(K:KW)(Y:Nat->Addr)(k:Nat)(H:Hp):List (Key×D)->List (Key×V)->Prop
 |[],r=>r=[]
 |(y,d)::l,r=>∃v r',r=(y,v)::r'/\Is K Y k H d v/\KVs K Y k H l r'
theorem KVs.ext(a:Ext Y k H Y' k' H'):∀{l:List (Key×D)} {r:List (Key×V)},KVs K Y k H l r->KVs K Y' k' H' l r
 |[],_,h=>h
 |(_,_)::_,_,h=>by
  obtain⟨v,r',rfl,h1,h2⟩:=h;exact⟨v,r',rfl,h1.ext a,h2.ext a⟩
noncomputable def csD(c:Cs):D:=.tup [.int c.1,.int c.2.1,.tup (c.2.2.map D.int)]
noncomputable def CVs(K:KW)(Y:Nat->Addr)(k:Nat)(H:Hp):List (Cs×D)->List (Cs×Addr×V)->Prop
 |[],r=>r=[]
 |(y,d)::l,r=>∃a v r',r=(y,a,v)::r'/\Is K Y k H (csD y) (.ref a)/\Is K Y k H d v/\CVs K Y k H l r'
theorem CVs.ext(a:Ext Y k H Y' k' H'):∀{l:List (Cs×D)} {r:List (Cs×Addr×V)},CVs K Y k H l r->CVs K Y' k' H' l r
 |[],_,h=>h
 |(_,_)::_,_,h=>by
  obtain⟨b,v,r',rfl,h1,h2,h3⟩:=h;exact⟨b,v,r',rfl,h1.ext a,h2.ext a,h3.ext a⟩
noncomputable def FVs(K:KW)(Y:Nat->Addr)(k:Nat)(H:Hp):List (Str×D)->List (Str×V)->Prop
 |[],r=>r=[]
 |(y,d)::l,r=>∃v r',r=(y,v)::r'/\Is K Y k H d v/\FVs K Y k H l r'
theorem FVs.ext(a:Ext Y k H Y' k' H'):∀{l:List (Str×D)} {r:List (Str×V)},FVs K Y k H l r->FVs K Y' k' H' l r
 |[],_,h=>h
 |(_,_)::_,_,h=>by
  obtain⟨v,r',rfl,h1,h2⟩:=h;exact⟨v,r',rfl,h1.ext a,h2.ext a⟩
mutual
def hD(w:World):D->Int
 | .int i=>hashInt i
 | .str x=>hashStr w x
 | .tup ks=>reduceHash (Builtin.Tuple.tupleHashOf (hDs w ks))
 |_=>0xFCA86420
def hDs(w:World):List D->List Int
 |[]=>[]
 |k::ks=>hD w k::hDs w ks
end
noncomputable def YE(w:World)(p:Addr)(l:List (D×Addr×V)):HO:=.ext λh=>∃(us:List Value) (o:Obj) (es:Array DictEntry) (ep:Nat),Vals (l.map (·.2.2)) us/\h.get? p=some o/\o.ExactDict/\o.data=.dict es ep /\
 es.toList=(l.zip us).map (λx=>{ key:=.ref x.1.2.1,hash:=hD w x.1.1,val:=x.2 })/\(l.map (·.1)).Nodup/\l.length<=sizeLine/\(p==sysModules)=false
mutual
def Kz:D->Bool
 | .non=>true
 | .int _=>true
 | .str _=>true
 | .tup ds=>KzL ds
 |_=>false
def KzL:List D->Bool
 |[]=>true
 |d::ds=>Kz d&&KzL ds
end
mutual
def deep:D->Nat
 | .tup ks=>deeps ks+1
 |_=>0
def deeps:List D->Nat
 |[]=>0
 |k::ks=>max (deep k) (deeps ks)
end
noncomputable def PVs(K:KW)(Y:Nat->Addr)(k:Nat)(H:Hp):List (D×D)->List (D×Addr×V)->Prop
 |[],r=>r=[]
 |(y,d)::l,r=>∃a v r',r=(y,a,v)::r'/\(Kz y=true/\deep y<=8/\Is K Y k H y (.ref a))/\Is K Y k H d v/\PVs K Y k H l r'
theorem PVs.ext(a:Ext Y k H Y' k' H'):∀{l:List (D×D)} {r:List (D×Addr×V)},PVs K Y k H l r->PVs K Y' k' H' l r
 |[],_,h=>h
 |(_,_)::_,_,h=>by
  obtain⟨b,v,r',rfl,h1,h2,h3⟩:=h;exact⟨b,v,r',rfl,⟨h1.1,h1.2.1,h1.2.2.ext a⟩,h2.ext a,h3.ext a⟩
def VB(K:PySem.W.Frag)(c:Str)(C:Addr):Prop:=PySem.W.nsIn K mainGlobals c=some (some (.ref C))
noncomputable def Yw(p C:Addr)(dx:Option Addr):HO:=.ext λh=>∃oe vs,h.get? p=some oe/\oe.cls=.ref C/\oe.dict=dx/\oe.data=.fields vs
def Y7(H:Hp)(n:Option Nat)(dx:Option Addr):Prop:=match n with
 |none=>dx=none
 |some i=>∃d,dx=some d/\H d=some (.xd [("at",.int (i:Int))])
noncomputable def ObjIs(K:KW)(Y:Nat->Addr)(k:Nat)(H:Hp)(p:Addr):MO->HO->Prop
 | .lst ds,o=>∃vs,o=.lst vs/\IsL K Y k H ds vs
 | .dK l,o=>∃r,o=.dK r/\KVs K Y k H l r
 | .dC l,o=>∃r,o=D9 p r/\CVs K Y k H l r
 | .ins c l,o=>∃C dx r,o=.ins C dx r/\VB K c C/\H dx=some (.own p)/\FVs K Y k H l r
 | .dP l,o=>∃r,o=YE K.w p r/\PVs K Y k H l r
 | .exc c n,o=>∃C dx,o=Yw p C dx/\VB K c C/\Y7 H n dx
structure RelH(K:KW)(Y:Nat->Addr)(Z:Mh)(H:Hp):Prop where
 inj:∀i j,i<Z.length->j<Z.length->Y i=Y j->i=j
 obj:∀n o,Z[n]?=some o->∃u,H (Y n)=some u/\ObjIs K Y Z.length H (Y n) o u
theorem ObjIs.mut{p:Addr}{o:MO}{u:HO}(h:ObjIs K Y k H p o u):RV u=true:=by
 cases o with
 |lst ds=>obtain⟨vs,rfl,_⟩:=h;rfl
 |dK l=>obtain⟨r,rfl,_⟩:=h;rfl
 |dC l=>obtain⟨r,rfl,_⟩:=h;rfl
 |ins c l=>obtain⟨C,dx,r,rfl,_⟩:=h;rfl
 |dP l=>obtain⟨r,rfl,_⟩:=h;rfl
 |exc c n=>obtain⟨C,dx,rfl,_⟩:=h;rfl
theorem ObjIs.ext(a:Ext Y k H Y' k' H'){p:Addr}{o:MO}{u:HO}(h:ObjIs K Y k H p o u):ObjIs K Y' k' H' p o u:=by
 cases o with
 |lst ds=>obtain⟨vs,rfl,h⟩:=h;exact⟨vs,rfl,h.ext a⟩
 |dK l=>obtain⟨r,rfl,h⟩:=h;exact⟨r,rfl,h.ext a⟩
 |dC l=>obtain⟨r,rfl,h⟩:=h;exact⟨r,rfl,h.ext a⟩
 |ins c l=>obtain⟨C,dx,r,rfl,h0,h1,h⟩:=h;exact⟨C,dx,r,rfl,h0,a.keep dx _ h1 (a.was.ne h1 rfl),h.ext a⟩
 |dP l=>obtain⟨r,rfl,h⟩:=h;exact⟨r,rfl,h.ext a⟩
 |exc c n=>
  obtain⟨C,dx,rfl,h0,h1⟩:=h;refine⟨C,dx,rfl,h0,?_⟩;cases n with
  |none=>exact h1
  |some i=>
   obtain⟨d,e,q⟩:=h1;exact⟨d,e,a.keep d _ q (a.was.ne q rfl)⟩
theorem RelH.muts{Z:Mh}(r:RelH K Y Z H):Muts Y Z.length H:=λn hn=>by
 obtain⟨u,e,h⟩:=r.obj n Z[n] (by simp[hn]);exact⟨u,e,h.mut⟩
theorem RelH.ext0{Z:Mh}(r:RelH K Y Z H):Ext Y Z.length H Y Z.length H:=Ext.refl r.muts
theorem RelH.laid{Z:Mh}(r:RelH K Y Z H){p:Addr}(o:HO)(hp:H p=none):Ext Y Z.length H Y Z.length (upd H p o)/\RelH K Y Z (upd H p o):=by
 have kp:∀q u,H q=some u->upd H p o q=some u:=λq u e=>by rw[A0 (CF e hp)];exact e
 have a:Ext Y Z.length H Y Z.length (upd H p o):=⟨AAE _,λ_ _=>rfl,λn h1 h2=>absurd h1 (by omega),λq u e _=>kp q u e,r.muts,λn hn=>by
  obtain⟨u,e,h⟩:=r.muts n hn;exact⟨u,kp _ _ e,h⟩⟩
 refine⟨a,r.inj,λn o' e=>?_⟩;obtain⟨u,e1,h⟩:=r.obj n o' e;exact⟨u,kp _ _ e1,h.ext a⟩
theorem RelH.grown{Z:Mh}(r:RelH K Y Z H){p:Addr}{o:HO}{m:MO}(hp:H p=none)(h:ObjIs K Y Z.length H p m o):
  ∃Y',Ext Y Z.length H Y' (Z++[m]).length (upd H p o)/\RelH K Y' (Z++[m]) (upd H p o)/\Y' Z.length=p:=by
 have kp:∀q u,H q=some u->upd H p o q=some u:=λq u e=>by rw[A0 (CF e hp)];exact e
 let Y':Nat->Addr:=λn=>if n=Z.length then p else Y n
 have e0:Y' Z.length=p:=if_pos rfl;have e1:∀n,n<Z.length->Y' n=Y n:=λn hn=>if_neg (by omega);have a:Ext Y Z.length H Y' (Z++[m]).length (upd H p o):=⟨by simp,e1,λn h1 h2=>by
   have:n=Z.length:=by simp at h2;omega
   rw[this,e0];exact hp,λq u e _=>kp q u e,r.muts,λn hn=>by
  obtain⟨u,e,h⟩:=r.muts n hn;exact⟨u,kp _ _ e,h⟩⟩
 refine⟨Y',a,⟨λi j hi hj e=>?_,λn o' e=>?_⟩,e0⟩
 ·simp at hi hj;have old:∀i,i<Z.length->Y' i≠p:=λi hi e=>by
   obtain⟨u,q,_⟩:=r.muts i hi;rw[←e1 i hi,e,hp] at q;cases q
  rcases Nat.lt_or_ge i Z.length with zi|zi<;>rcases Nat.lt_or_ge j Z.length with zj|zj
  ·rw[e1 i zi,e1 j zj] at e;exact r.inj i j zi zj e
  ·have:j=Z.length:=by omega
   subst this;rw[e0] at e;exact absurd e (old i zi)
  ·have:i=Z.length:=by omega
   subst this;rw[e0] at e;exact absurd e.symm (old j zj)
  ·omega
 ·rcases Nat.lt_or_ge n Z.length with z|z
  ·rw[AAS z] at e;obtain⟨u,q,hq⟩:=r.obj n o' e;exact⟨u,by rw[e1 n z];exact kp _ _ q,by rw[e1 n z];exact hq.ext a⟩
  ·have hn:n=Z.length:=by
    have:=(AAT.mp e).1;simp at this;omega
   subst hn;rw[AAR (AAE _),Nat.sub_self] at e;simp at e;subst e;exact⟨o,by rw[e0,BZ],by rw[e0];exact h.ext a⟩
theorem RelH.changed{Z:Mh}(r:RelH K Y Z H){n:Nat}{o:HO}{m:MO}(hn:n<Z.length)(h:ObjIs K Y Z.length H (Y n) m o):
  Ext Y Z.length H Y (Z.set n m).length (upd H (Y n) o)/\RelH K Y (Z.set n m) (upd H (Y n) o):=by
 have ne:∀i,i<Z.length->i≠n->Y i≠Y n:=λi hi hne e=>hne (r.inj i n hi hn e);have a:Ext Y Z.length H Y (Z.set n m).length (upd H (Y n) o):=⟨by simp,λ_ _=>rfl,λi h1 h2=>by simp at h2;omega,λq u e hq=>by rw[A0 (λz=>hq n hn z.symm)];exact e,r.muts,λi hi=>by
  by_cases z:i=n
  ·subst z;exact⟨o,BZ,h.mut⟩
  ·obtain⟨u,e,hu⟩:=r.muts i hi;exact⟨u,by rw[A0 (ne i hi z)];exact e,hu⟩⟩
 refine⟨a,λi j hi hj=>r.inj i j (by simpa using hi) (by simpa using hj),λi o' e=>?_⟩;by_cases z:i=n
 ·subst z;rw[List.getElem?_set_self hn] at e;cases e;exact⟨o,BZ,h.ext a⟩
 ·rw[AAp (Ne.symm z)] at e;have hi:i<Z.length:=(AAT.mp e).1;obtain⟨u,q,hq⟩:=r.obj i o' e;exact⟨u,by rw[A0 (ne i hi z)];exact q,hq.ext a⟩
structure RelS(K:KW)(Y:Nat->Addr)(k:Nat)(H:Hp)(B:Sl)(O:St):Prop where
 len:O.length=B.length
 get:∀(i:Nat) (d:D),B[i]?=some (some d)->∃v,O[i]?=some (some v)/\Is K Y k H d v
theorem RelS.ext{B:Sl}{O:St}(a:Ext Y k H Y' k' H')(r:RelS K Y k H B O):RelS K Y' k' H' B O:=⟨r.len,λi d e=>by
 obtain⟨v,e1,h⟩:=r.get i d e;exact⟨v,e1,h.ext a⟩⟩
theorem RelS.set{B:Sl}{O:St}(r:RelS K Y k H B O){d:D}{v:V}(i:Nat)(h:Is K Y k H d v):RelS K Y k H (B.set i (some d)) (O.set i (some v)):=⟨by simp[r.len],λj e q=>by
 by_cases z:i=j
 ·subst z;have hi:i<B.length:=by
   have:=(AAT.mp q).1;simpa using this
  rw[List.getElem?_set_self hi] at q;cases q;exact⟨v,List.getElem?_set_self (by rw[r.len];exact hi),h⟩
 ·rw[AAp z] at q;obtain⟨u,e1,hu⟩:=r.get j e q;exact⟨u,by rw[AAp z];exact e1,hu⟩⟩
end
end Mi
namespace Mi
open PySem L2
noncomputable abbrev Exn:=Str×Option Nat
inductive Fl where
 |next|brk|cont|rt (d:D)|xc (x:Exn)
abbrev Aft(K:KW)(Y:Nat->Addr)(Z:Mh)(H:Hp)(Z':Mh)(φ:(Nat->Addr)->Hp->Prop):Prop:=
 ∀Y' H',Ext Y Z.length H Y' Z'.length H'->RelH K Y' Z' H'->φ Y' H'
noncomputable def tE(K:KW)(m:Sl->M D):TE:=λO H Q=>∃Y Z B d Z',RelH K Y Z H/\RelS K Y Z.length H B O/\m B Z=some (d,Z') /\
 Aft K Y Z H Z' λY' H'=>∀v,Is K Y' Z'.length H' d v->Q v H'
noncomputable def tT(K:KW)(m:Sl->M Bool):TT:=λO H Q=>∃Y Z B b Z',RelH K Y Z H/\RelS K Y Z.length H B O/\m B Z=some (b,Z') /\
 Aft K Y Z H Z' λ_ H'=>Q b H'
noncomputable def tL(K:KW)(m:Sl->M (List D)):TA:=λO H Q=>∃Y Z B ds Z',RelH K Y Z H/\RelS K Y Z.length H B O/\m B Z=some (ds,Z') /\
 Aft K Y Z H Z' λY' H'=>∀vs,IsL K Y' Z'.length H' ds vs->Q vs H'
noncomputable def FlP(K:KW)(Dn:M9)(Y':Nat->Addr)(k:Nat)(H':Hp)(x9:Sl)(O':St):Fl->Prop
 | .next=>Dn.nx O' H'
 | .brk=>Dn.bk O' H'
 | .cont=>Dn.ct O' H'
 | .rt d=>∀v,Is K Y' k H' d v->Dn.rt v H'
 | .xc _=>False
noncomputable def tSt(K:KW)(m:Sl->M (Fl×Sl)):TS:=λDn O H=>∃Y Z B f x9 Z',RelH K Y Z H/\RelS K Y Z.length H B O/\m B Z=some ((f,x9),Z') /\
 Aft K Y Z H Z' λY' H'=>∀O',RelS K Y' Z'.length H' x9 O'->FlP K Dn Y' Z'.length H' x9 O' f
structure RE(X:Cx)(e:Expr)(m:Sl->M D):Prop where
 pe:PE X e (tE X.kw m)
structure RT(X:Cx)(e:Expr)(m:Sl->M Bool):Prop where
 pe:PT X e (tT X.kw m)
structure RW(X:Cx)(e:Expr)(m:Sl->M Bool):Prop where
 pe:PW X e (tT X.kw m)
structure RA(X:Cx)(es:List Expr)(m:Sl->M (List D)):Prop where
 pe:PA X es (tL X.kw m)
structure RS(X:Cx)(st:Stmt)(m:Sl->M (Fl×Sl)):Prop where
 pe:PS X st (tSt X.kw m)
structure RSs(X:Cx)(st:List Stmt)(m:Sl->M (Fl×Sl)):Prop where
 pe:PSs X st (tSt X.kw m)
section
variable{X:Cx}{e a b c:Expr}{es:List Expr}{pos:Pos}
theorem PE.wk{t t':TE}(h:PE X e t)(w:∀O H Q,t' O H Q->t O H Q):PE X e t':=λw4 s O H Q I q=>h w4 s O H Q I (w O H Q q)
theorem RE.wk{m:Sl->M D}{t:TE}(h:PE X e t)(w:∀O H Q,tE X.kw m O H Q->t O H Q):RE X e m:=⟨PE.wk h w⟩
theorem PT.wk{t t':TT}(h:PT X e t)(w:∀O H Q,t' O H Q->t O H Q):PT X e t':=λw4 s O H Q I q=>h w4 s O H Q I (w O H Q q)
theorem RT.wk{m:Sl->M Bool}{t:TT}(h:PT X e t)(w:∀O H Q,tT X.kw m O H Q->t O H Q):RT X e m:=⟨PT.wk h w⟩
theorem PW.wk{t t':TT}(h:PW X e t)(w:∀O H Q,t' O H Q->t O H Q):PW X e t':=λwh w4 s O H Q I q=>h wh w4 s O H Q I (w O H Q q)
theorem RW.wk{m:Sl->M Bool}{t:TT}(h:PW X e t)(w:∀O H Q,tT X.kw m O H Q->t O H Q):RW X e m:=⟨PW.wk h w⟩
theorem PA.wk{t t':TA}(h:PA X es t)(w:∀O H Q,t' O H Q->t O H Q):PA X es t':=λp w4 s O H Q I q=>h p w4 s O H Q I (w O H Q q)
theorem RA.wk{m:Sl->M (List D)}{t:TA}(h:PA X es t)(w:∀O H Q,tL X.kw m O H Q->t O H Q):RA X es m:=⟨PA.wk h w⟩
theorem PS.wk{st:Stmt}{t t':TS}(h:PS X st t)(w:∀D O H,t' D O H->t D O H):PS X st t':=λw4 s O H D I q=>h w4 s O H D I (w D O H q)
theorem RS.wk{m:Sl->M (Fl×Sl)}{st:Stmt}{t:TS}(h:PS X st t)(w:∀D O H,tSt X.kw m D O H->t D O H):RS X st m:=⟨PS.wk h w⟩
theorem PSs.wk{st:List Stmt}{t t':TS}(h:PSs X st t)(w:∀D O H,t' D O H->t D O H):PSs X st t':=λw4 s O H D I q=>h w4 s O H D I (w D O H q)
theorem RSs.wk{m:Sl->M (Fl×Sl)}{st:List Stmt}{t:TS}(h:PSs X st t)(w:∀D O H,tSt X.kw m D O H->t D O H):RSs X st m:=⟨PSs.wk h w⟩
theorem OpR.wk{f:Value->Value->Sem Value}{r r':R2}(h:OpR X f r)(w:∀x y H Q,r' x y H Q->r x y H Q):OpR X f r':=λw4 s O H x y v u Q I rx ry q=>h w4 s O H x y v u Q I rx ry (w x y H Q q)
noncomputable def GQ:Expr->Bool
 | .Starred _ _=>true
 |_=>false
theorem A1{e:Expr}{es:List Expr}{env:Env}(h:GQ e=false):starEach (e::es) env=(false,eval e env)::starEach es env:=by
 cases e<;>first|rfl|cases h
theorem Cu{pos:Pos}{env:Env}:∀{es:List Expr},(es.all λe=>!GQ e)=true->(backTo pos (starEach es env)).any (·.1)=false
 |[],_=>rfl
 |e::es,h=>by
  rw[List.all_cons,Bool.and_eq_true] at h;have h1:GQ e=false:=by simpa using h.1
  have ih:=Cu (pos:=pos) (env:=env) h.2;rw[A1 h1];unfold backTo at ih ⊢;simpa using ih
noncomputable def AA(i:Nat):Sl->M D:=λB Z=>match B[i]? with
 |some (some d)=>some (d,Z)
 |_=>none
noncomputable def mC(d:D):Sl->M D:=λ_=>ret d
theorem AB(i:Nat){x:Str}(hN:X.N[i]?=some x:=by rfl)(hv:Vis X.env.scope x:=by first|exact Or.inl rfl|exact Or.inr (Or.inl rfl)|exact Or.inr (Or.inr rfl))(hd:(x==("__debug__" : Str))=false:=by decide)
  (hcd:(x==("__classdict__" : Str))=false:=by decide):RE X (.Name x pos) (AA i):=RE.wk (Vt hN hv hd hcd) λO H Q h=>by
 obtain⟨Y,Z,B,d,Z',R,S,e,q⟩:=h;unfold AA at e;split at e
 ·rename_i d' ed;cases e;obtain⟨v,e1,h1⟩:=S.get i _ ed;exact⟨v,e1,q Y H R.ext0 R v h1⟩
 ·cases e
theorem OV{t:TE}{d:D}{v:V}(h:PE X e (tC v))(hd:∀Y k H,Is X.kw Y k H d v):RE X e (mC d):=RE.wk h λO H Q h=>by
 obtain⟨Y,Z,B,d,Z',R,S,e,q⟩:=h;cases e;exact q Y H R.ext0 R v (hd _ _ _)
theorem AE{i j}:RE X (.Constant (.int i) j pos) (mC (.int i)):=OV (t:=λ_ _ _=>True) Vz λ_ _ _=>by unfold Is;rfl
theorem FQ{i j}:RE X (.Constant (.bool i) j pos) (mC (.bl i)):=OV (t:=λ_ _ _=>True) Xg λ_ _ _=>by unfold Is;rfl
theorem Dp{j}:RE X (.Constant .none j pos) (mC .non):=OV (t:=λ_ _ _=>True) Vy λ_ _ _=>by unfold Is;rfl
theorem Aq{i j}:RE X (.Constant (.str i) j pos) (mC (.str i)):=OV (t:=λ_ _ _=>True) Vv λ_ _ _=>by unfold Is;rfl
theorem Tc{x:Str}{v:V}{u:Value}{d:D}(hm:X.mg x=some u)(r:RelV v u)(hd:∀Y k H,Is X.kw Y k H d v)(hg:Gl X x:=by rfl)(hdb:(x==("__debug__" : Str))=false:=by decide):RE X (.Name x pos) (mC d):=
 OV (t:=λ_ _ _=>True) (Tv hg hm r hdb) hd
noncomputable def mOp(g:D->D->M D)(ma mb:Sl->M D):Sl->M D:=λB=>bnd (ma B) λx=>bnd (mb B) λy=>g x y
noncomputable def mUn(g:D->M D)(ma:Sl->M D):Sl->M D:=λB=>bnd (ma B) g
noncomputable def rM(K:KW)(g:D->D->M D):R2:=λx y H Q=>∃Y Z a b d Z',RelH K Y Z H/\Is K Y Z.length H a x/\Is K Y Z.length H b y/\g a b Z=some (d,Z') /\
 Aft K Y Z H Z' λY' H'=>∀v,Is K Y' Z'.length H' d v->Q v H'
noncomputable def rM1(K:KW)(g:D->M D):V->Hp->VK->Prop:=λx H Q=>∃Y Z a d Z',RelH K Y Z H/\Is K Y Z.length H a x/\g a Z=some (d,Z') /\
 Aft K Y Z H Z' λY' H'=>∀v,Is K Y' Z'.length H' d v->Q v H'
noncomputable def rMA(K:KW)(g:List D->M D):List V->Hp->VK->Prop:=λxs H Q=>∃Y Z as d Z',RelH K Y Z H/\IsL K Y Z.length H as xs/\g as Z=some (d,Z') /\
 Aft K Y Z H Z' λY' H'=>∀v,Is K Y' Z'.length H' d v->Q v H'
theorem NM{K:KW}{g:D->D->M D}{ma mb:Sl->M D}{O:St}{H:Hp}{Q:VK}(h:tE K (mOp g ma mb) O H Q):tOp (rM K g) (tE K ma) (tE K mb) O H Q:=by
 obtain⟨Y,Z,B,d,Z',R,S,e,q⟩:=h;obtain⟨x,w5,e1,e⟩:=AF e;obtain⟨y,w6,e2,e3⟩:=AF e;refine⟨Y,Z,B,x,w5,R,S,e1,λx4 H1 E1 R1 v1 i1=>?_⟩;refine⟨x4,w5,B,y,w6,R1,S.ext E1,e2,λx6 H2 E2 R2 v2 i2=>?_⟩;exact⟨x6,w6,x,y,d,Z',R2,i1.ext E2,i2,e3,λu3 H3 E3 R3 v3 i3=>q u3 H3 ((E1.trans E2).trans E3) R3 v3 i3⟩
theorem XB{K:KW}{g:D->M D}{ma:Sl->M D}{O:St}{H:Hp}{Q:VK}(h:tE K (mUn g ma) O H Q):tUn (rM1 K g) (tE K ma) O H Q:=by
 obtain⟨Y,Z,B,d,Z',R,S,e,q⟩:=h;obtain⟨x,w5,e1,e⟩:=AF e;refine⟨Y,Z,B,x,w5,R,S,e1,λx4 H1 E1 R1 v1 i1=>?_⟩;exact⟨x4,w5,x,d,Z',R1,i1,e,λu3 H3 E3 R3 v3 i3=>q u3 H3 (E1.trans E3) R3 v3 i3⟩
theorem AW{op:Operator}{g:D->D->M D}{ma mb:Sl->M D}(ho:OpR X (binaryOp op) (rM X.kw g))(ha:RE X a ma)(hb:RE X b mb):RE X (.BinOp a op b pos) (mOp g ma mb):=RE.wk (Xd ho ha.pe hb.pe) λ_ _ _ h=>NM h
theorem XR{op:UnaryOp}{g:D->M D}{ma:Sl->M D}(ho:UnR X (unaryOp op) (rM1 X.kw g))(ha:RE X a ma):RE X (.UnaryOp op a pos) (mUn g ma):=RE.wk (Xc ho ha.pe) λ_ _ _ h=>XB h
theorem Eh{op:CmpOp}{g:D->D->M D}{ma mb:Sl->M D}(ho:OpR X (compareOp op) (rM X.kw g))(ha:RE X a ma)(hb:RE X b mb)(hm:behindInMarks op b=false:=by first|exact Qw _|rfl):RE X (.Compare a [op] [b] pos) (mOp g ma mb):=
 RE.wk (Tx ho ha.pe hb.pe hm) λ_ _ _ h=>NM h
theorem AQ{g:D->D->M D}{ma mb:Sl->M D}(ho:IxR X (rM X.kw g))(ha:RE X a ma)(hb:RE X b mb)(hs:OA b:=by exact λ_ _=>rfl):RE X (.Subscript a b pos) (mOp g ma mb):=RE.wk (Xe ho ha.pe hb.pe hs) λ_ _ _ h=>NM h
noncomputable def asB:D->M Bool
 | .bl b=>ret b
 |_=>Bb
noncomputable def AK(m:Sl->M D):Sl->M Bool:=λB=>bnd (m B) asB
theorem NL{K:KW}{m:Sl->M D}{O:St}{H:Hp}{Q:Bool->Hp->Prop}(h:tT K (AK m) O H Q):tE K m O H λx H'=>∃k,x=.bl k/\Q k H':=by
 obtain⟨Y,Z,B,b,Z',R,S,e,q⟩:=h;obtain⟨x,w5,e1,e⟩:=AF e;refine⟨Y,Z,B,x,w5,R,S,e1,λx4 H1 E1 R1 v1 i1=>?_⟩;cases x with
 |bl k=>
  cases e;unfold Is at i1;exact⟨b,i1,q x4 H1 E1 R1⟩
 |_=>cases e
theorem Ah{op:CmpOp}{g:D->D->M D}{ma mb:Sl->M D}(ho:OpR X (compareOp op) (rM X.kw g))(ha:RE X a ma)(hb:RE X b mb)(hm:behindInMarks op b=false:=by first|exact Qw _|rfl):RT X (.Compare a [op] [b] pos) (AK (mOp g ma mb)):=
 RT.wk (Tl ho ha.pe hb.pe hm) λO H Q h=>NM (Q:=λx H'=>∃k,x=.bl k/\Q k H') (NL h)
theorem Cw{m:Sl->M D}(h:RE X e m)(he:∀whole,isTrue e X.env whole=(do let v ←whole;standAt e.pos;holding [v] (truthy v)):=by intro _;rfl):RT X e (AK m):=
 RT.wk (Vm h.pe he) λ_ _ _ q=>NL q
noncomputable def C5(ma mb:Sl->M Bool):Sl->M Bool:=λB=>bnd (ma B) λx=>if x=true then mb B else ret false
noncomputable def mOr(ma mb:Sl->M Bool):Sl->M Bool:=λB=>bnd (ma B) λx=>if x=true then ret true else mb B
noncomputable def Dh(ma:Sl->M Bool):Sl->M Bool:=λB=>bnd (ma B) λx=>ret (!x)
theorem FY{ma:Sl->M Bool}(ha:RT X a ma):RT X (.UnaryOp .Not a pos) (Dh ma):=RT.wk (Vn ha.pe) λO H Q h=>by
 obtain⟨Y,Z,B,b,Z',R,S,e,q⟩:=h;obtain⟨x,w5,e1,e⟩:=AF e;cases e;exact⟨Y,Z,B,x,_,R,S,e1,q⟩
theorem EG{ma:Sl->M Bool}(ha:RT X a ma):RW X (.BoolOp .And [a] pos) ma:=⟨Tj ha.pe⟩
theorem MS{ma:Sl->M Bool}(ha:RT X a ma):RW X (.BoolOp .Or [a] pos) ma:=⟨Vk ha.pe⟩
theorem Ef{rest:List Expr}{ma mb:Sl->M Bool}(ha:RT X a ma)(hb:RW X (.BoolOp .And (b::rest) pos) mb):RW X (.BoolOp .And (a::b::rest) pos) (C5 ma mb):=RW.wk (Vl ha.pe hb.pe) λO H Q h=>by
 obtain⟨Y,Z,B,z,Z',R,S,e,q⟩:=h;obtain⟨x,w5,e1,e⟩:=AF e;refine⟨Y,Z,B,x,w5,R,S,e1,λx4 H1 E1 R1=>?_⟩;cases x with
 |true=>exact⟨x4,w5,B,z,Z',R1,S.ext E1,e,λx6 H2 E2 R2=>q x6 H2 (E1.trans E2) R2⟩
 |false=>cases e;exact q x4 H1 E1 R1
theorem LB{rest:List Expr}{ma mb:Sl->M Bool}(ha:RT X a ma)(hb:RW X (.BoolOp .Or (b::rest) pos) mb):RW X (.BoolOp .Or (a::b::rest) pos) (mOr ma mb):=RW.wk (XY ha.pe hb.pe) λO H Q h=>by
 obtain⟨Y,Z,B,z,Z',R,S,e,q⟩:=h;obtain⟨x,w5,e1,e⟩:=AF e;refine⟨Y,Z,B,x,w5,R,S,e1,λx4 H1 E1 R1=>?_⟩;cases x with
 |true=>cases e;exact q x4 H1 E1 R1
 |false=>exact⟨x4,w5,B,z,Z',R1,S.ext E1,e,λx6 H2 E2 R2=>q x6 H2 (E1.trans E2) R2⟩
theorem RW.rt{m:Sl->M Bool}(h:RW X e m):RT X e m:=⟨h.pe.pt⟩
noncomputable def mIf(mc:Sl->M Bool)(ma mb:Sl->M D):Sl->M D:=λB=>bnd (mc B) λx=>if x=true then ma B else mb B
theorem HV{mc:Sl->M Bool}{ma mb:Sl->M D}(hc:RT X c mc)(ha:RE X a ma)(hb:RE X b mb):RE X (.IfExp c a b pos) (mIf mc ma mb):=RE.wk (Qg hc.pe ha.pe hb.pe) λO H Q h=>by
 obtain⟨Y,Z,B,z,Z',R,S,e,q⟩:=h;obtain⟨x,w5,e1,e⟩:=AF e;refine⟨Y,Z,B,x,w5,R,S,e1,λx4 H1 E1 R1=>?_⟩;cases x with
 |true=>exact⟨x4,w5,B,z,Z',R1,S.ext E1,e,λx6 H2 E2 R2=>q x6 H2 (E1.trans E2) R2⟩
 |false=>exact⟨x4,w5,B,z,Z',R1,S.ext E1,e,λx6 H2 E2 R2=>q x6 H2 (E1.trans E2) R2⟩
noncomputable def Ep(ma mb:Sl->M D):Sl->M D:=λB=>bnd (ma B) λx=>bnd (asB x) λc=>if c=true then mb B else ret (.bl false)
noncomputable def LS(ma:Sl->M D):Sl->M D:=λB=>bnd (ma B) λx=>bnd (asB x) λc=>ret (.bl (!c))
theorem IM{x:D}{Z w5:Mh}{c:Bool}(h:asB x Z=some (c,w5)):x=.bl c/\w5=Z:=by
 cases x with
 |bl k=>cases h;exact⟨rfl,rfl⟩
 |_=>cases h
theorem MY{op}{m:Sl->M D}(h:RE X a m):RE X (.BoolOp op [a] pos) m:=⟨Vw h.pe⟩
theorem J5{rest:List Expr}{ma mb:Sl->M D}(ha:RE X a ma)(hb:RE X (.BoolOp .And (b::rest) pos) mb):RE X (.BoolOp .And (a::b::rest) pos) (Ep ma mb):=RE.wk (V2 ha.pe hb.pe) λO H Q h=>by
 obtain⟨Y,Z,B,z,Z',R,S,e,q⟩:=h;obtain⟨x,w5,e1,e⟩:=AF e;obtain⟨c,w6,e2,e⟩:=AF e;obtain⟨rfl,rfl⟩:=IM e2;refine⟨Y,Z,B,_,w6,R,S,e1,λx4 H1 E1 R1 v1 i1=>⟨c,by unfold Is at i1;exact i1,?_⟩⟩;cases c with
 |true=>exact⟨x4,w6,B,z,Z',R1,S.ext E1,e,λx6 H2 E2 R2=>q x6 H2 (E1.trans E2) R2⟩
 |false=>cases e;exact q x4 H1 E1 R1 _ (by unfold Is;rfl)
theorem Vi{ma:Sl->M D}(ha:RE X a ma):RE X (.UnaryOp .Not a pos) (LS ma):=RE.wk (Vx ha.pe) λO H Q h=>by
 obtain⟨Y,Z,B,z,Z',R,S,e,q⟩:=h;obtain⟨x,w5,e1,e⟩:=AF e;obtain⟨c,w6,e2,e⟩:=AF e;obtain⟨rfl,rfl⟩:=IM e2;cases e;exact⟨Y,Z,B,_,_,R,S,e1,λx4 H1 E1 R1 v1 i1=>⟨c,by unfold Is at i1;exact i1,q x4 H1 E1 R1 _ (by unfold Is;rfl)⟩⟩
noncomputable def Eo(g g':D->D->M D)(ma mb mc:Sl->M D):Sl->M D:=λB=>bnd (ma B) λx=>bnd (mb B) λy=>bnd (g x y) λz=>bnd (asB z) λk=>if k=true then bnd (mc B) λw=>g' y w else ret (.bl false)
noncomputable def AJ:Sl->M (List D):=λ_=>ret []
noncomputable def AC(m:Sl->M D)(r:Sl->M (List D)):Sl->M (List D):=λB=>bnd (m B) λx=>bnd (r B) λxs=>ret (x::xs)
theorem AH:RA X [] AJ:=RA.wk HZ λO H Q h=>by
 obtain⟨Y,Z,B,z,Z',R,S,e,q⟩:=h;cases e;exact q Y H R.ext0 R [] .nil
theorem AD{m:Sl->M D}{r:Sl->M (List D)}(h:RE X e m)(hr:RA X es r)(hs:starEach (e::es) X.env=(false,eval e X.env)::starEach es X.env:=by exact A1 rfl):RA X (e::es) (AC m r):=RA.wk (Fv h.pe hr.pe hs) λO H Q h=>by
 obtain⟨Y,Z,B,z,Z',R,S,e,q⟩:=h;obtain⟨x,w5,e1,e⟩:=AF e;obtain⟨xs,w6,e2,e⟩:=AF e;cases e;exact⟨Y,Z,B,x,w5,R,S,e1,λx4 H1 E1 R1 v1 i1=>⟨x4,w5,B,xs,_,R1,S.ext E1,e2,λx6 H2 E2 R2 vs i2=>q x6 H2 (E1.trans E2) R2 _ (.cons (i1.ext E2) i2)⟩⟩
noncomputable def lim(n:Nat):M Unit:=λZ=>if n<=sizeLine then some ((),Z) else none
theorem D4{n:Nat}{Z w5:Mh}{u:Unit}(h:lim n Z=some (u,w5)):n<=sizeLine/\w5=Z:=by
 unfold lim at h;split at h
 ·rename_i hn;cases h;exact⟨hn,rfl⟩
 ·cases h
theorem RB{n:Nat}(h:n<=sizeLine)(Z:Mh):lim n Z=some ((),Z):=if_pos h
noncomputable def Ax(ds:List D):M D:=bnd (lim ds.length) λ_=>ret (.tup ds)
noncomputable def BT(ds:List D):M D:=bnd (lim ds.length) λ_=>ret (.lst ds)
noncomputable def FZ(ds:List D):M D:=bnd (lim ds.length) λ_=>λZ=>some (.ref Z.length,Z++[.lst ds])
noncomputable def AG(f:List D->M D)(m:Sl->M (List D)):Sl->M D:=λB=>bnd (m B) f
theorem NY{K:KW}{Y:Nat->Addr}{Z Z':Mh}{H:Hp}{ds:List D}{vs:List V}{d:D}{Q:VK}(R:RelH K Y Z H)(i:IsL K Y Z.length H ds vs)(e:Ax ds Z=some (d,Z'))(q:Aft K Y Z H Z' λY' H'=>∀v,Is K Y' Z'.length H' d v->Q v H'):
  vs.length<=sizeLine/\∀p,H p=none->Q (.ref p) (upd H p (.tup vs)):=by
 obtain⟨u,w5,e1,e2⟩:=AF e;clear e;obtain⟨hl,e3⟩:=D4 e1;cases e2;cases e3;refine⟨by rw[i.length];exact hl,λp hp=>?_⟩;obtain⟨E1,R1⟩:=R.laid (.tup vs) hp;exact q Y _ E1 R1 _ (by unfold Is;exact⟨p,vs,rfl,SqT.of BZ,i.ext E1⟩)
theorem Gw{K:KW}{Y:Nat->Addr}{Z Z':Mh}{H:Hp}{ds:List D}{vs:List V}{d:D}{Q:VK}(R:RelH K Y Z H)(i:IsL K Y Z.length H ds vs)(e:BT ds Z=some (d,Z'))(q:Aft K Y Z H Z' λY' H'=>∀v,Is K Y' Z'.length H' d v->Q v H'):
  vs.length<=sizeLine/\∀p,H p=none->Q (.ref p) (upd H p (.lst vs)):=by
 obtain⟨u,w5,e1,e2⟩:=AF e;clear e;obtain⟨hl,e3⟩:=D4 e1;cases e2;cases e3;refine⟨by rw[i.length];exact hl,λp hp=>?_⟩;obtain⟨E1,R1⟩:=R.laid (.lst vs) hp;have ho:∀n,n<Z.length->Y n≠p:=λn hn z=>by
  obtain⟨o,e,_⟩:=R.muts n hn;rw[z,hp] at e;cases e
 exact q Y _ E1 R1 _ (by unfold Is;exact⟨p,vs,rfl,BZ,ho,i.ext E1⟩)
theorem UB{K:KW}{Y:Nat->Addr}{Z Z':Mh}{H:Hp}{ds:List D}{vs:List V}{d:D}{Q:VK}(R:RelH K Y Z H)(i:IsL K Y Z.length H ds vs)(e:FZ ds Z=some (d,Z'))(q:Aft K Y Z H Z' λY' H'=>∀v,Is K Y' Z'.length H' d v->Q v H'):
  vs.length<=sizeLine/\∀p,H p=none->Q (.ref p) (upd H p (.lst vs)):=by
 obtain⟨u,w5,e1,e2⟩:=AF e;clear e;obtain⟨hl,e3⟩:=D4 e1;cases e2;cases e3;refine⟨by rw[i.length];exact hl,λp hp=>?_⟩;obtain⟨Y',E1,R1,e0⟩:=R.grown (m:=.lst ds) hp ⟨vs,rfl,i⟩;exact q Y' _ E1 R1 _ (by unfold Is;exact⟨by simp,by rw[e0]⟩)
theorem E9{K:KW}{f:List D->M D}{m:Sl->M (List D)}{O:St}{H:Hp}{Q:VK}{R:List V->Hp->Prop}(h:tE K (AG f m) O H Q)
  (hf:∀Y Z Z' H ds vs d,RelH K Y Z H->IsL K Y Z.length H ds vs->f ds Z=some (d,Z')->(Aft K Y Z H Z' λY' H'=>∀v,Is K Y' Z'.length H' d v->Q v H')->R vs H):tL K m O H R:=by
 obtain⟨Y,Z,B,z,Z',S1,S,e,q⟩:=h;obtain⟨ds,w5,e1,e⟩:=AF e;exact⟨Y,Z,B,ds,w5,S1,S,e1,λx4 H1 E1 R1 vs iv=>hf x4 w5 Z' H1 ds vs z R1 iv e λx6 H2 E2 R2=>q x6 H2 (E1.trans E2) R2⟩
theorem Aw{x1}{m:Sl->M (List D)}(h:RA X es m):RE X (.Tuple es x1 pos) (AG Ax m):=RE.wk (Vu h.pe) λ_ _ _ q=>E9 q λ_ _ _ _ _ _ _ R i e q=>NY R i e q
theorem DY{m:Sl->M (List D)}(h:RA X es m):RE X (.List es pos) (AG BT m):=RE.wk (Qf h.pe) λ_ _ _ q=>E9 q λ_ _ _ _ _ _ _ R i e q=>Gw R i e q
theorem FB{m:Sl->M (List D)}(h:RA X es m):RE X (.List es pos) (AG FZ m):=RE.wk (Qf h.pe) λ_ _ _ q=>E9 q λ_ _ _ _ _ _ _ R i e q=>UB R i e q
theorem A3{id:String}{x:Str}{g:List D->M D}{m:Sl->M (List D)}{p:Pos}(hc:CA X (.builtin id) (rMA X.kw g))(hm:X.mg x=none)(hv:bootBuiltins x=some (.builtin id))(ha:RA X (e::es) m)(hg:Gl X x:=by rfl)(hn:x ≠ "__name__" := by decide)(hdb:(x==("__debug__" : Str))=false:=by decide)
  (he:starEach (e::es) X.env=(false,eval e X.env)::starEach es X.env:=by exact A1 rfl) (hpl:(backTo pos (starEach es X.env)).any (·.1)=false:=by exact Cu rfl):RE X (.Call (.Name x p) (e::es) [] pos) (AG g m):=
 RE.wk (LK hc hg hm hv ha.pe hn hdb he hpl) λ_ _ _ q=>E9 q λY Z Z' H ds vs d R i e q=>⟨Y,Z,ds,d,Z',R,i,e,q⟩
theorem Cy{T:String}{x:Str}{g:List D->M D}{m:Sl->M (List D)}{p:Pos}(hc:CA X (.type T) (rMA X.kw g))(hm:X.mg x=none)(hv:bootBuiltins x=some (.type T))(ha:RA X (e::es) m)(hg:Gl X x:=by rfl)(hn:x ≠ "__name__" := by decide)(hdb:(x==("__debug__" : Str))=false:=by decide)
  (he:starEach (e::es) X.env=(false,eval e X.env)::starEach es X.env:=by exact A1 rfl) (hpl:(backTo pos (starEach es X.env)).any (·.1)=false:=by exact Cu rfl):RE X (.Call (.Name x p) (e::es) [] pos) (AG g m):=
 RE.wk (FC hc hg hm hv ha.pe hn hdb he hpl) λ_ _ _ q=>E9 q λY Z Z' H ds vs d R i e q=>⟨Y,Z,ds,d,Z',R,i,e,q⟩
noncomputable def spM(K:KW)(n:Nat)(φ:List D->M D):Sp:=λvs H Q _=>vs.length=n/\rMA K φ vs H Q
theorem Th{n k:Nat}{φ:List D->M D}{f:Addr}{fd:FuncData}{ps:List Str}{x:Str}{m:Sl->M (List D)}{p:Pos}(F:FnOk X.prog X.w X.kw X.mg X.base CX0 k f fd ps (spM X.kw n φ))(hr:Room k X.A)(hm:X.mg x=some (.ref f))(hk:PySem.W.keepIn X.kw (.ref f)=true)(hb:Binds X.kw fd ps [])
  (hφ:∀ds Z r,φ ds Z=some r->ds.length=n) (ha:RA X (e::es) m) (hg:Gl X x:=by rfl) (hdb:(x==("__debug__" : Str))=false:=by decide) (he:starEach (e::es) X.env=(false,eval e X.env)::starEach es X.env:=by exact A1 rfl) (hpl:(backTo pos (starEach es X.env)).any (·.1)=false:=by exact Cu rfl) :
  RE X (.Call (.Name x p) (e::es) [] pos) (AG φ m):=
 RE.wk (Ty F hr hg hm hk hb .nil Xh ha.pe hdb he hpl) λ_ _ _ q=>E9 q λY Z Z' H ds vs d R i e q=>by
  rw[AAa];exact⟨by rw[i.length];exact hφ ds Z _ e,Y,Z,ds,d,Z',R,i,e,q⟩
end
section
variable{X:Cx}{e a c tg iter:Expr}{es:List Expr}{pos:Pos}{st:Stmt}{rest body:List Stmt}
noncomputable def Ay:Sl->M (Fl×Sl):=λB=>ret (.next,B)
noncomputable def AT(m1 m2:Sl->M (Fl×Sl)):Sl->M (Fl×Sl):=λB=>bnd (m1 B) λr=>match r.1 with
 | .next=>m2 r.2
 |f=>ret (f,r.2)
theorem Aj:RSs X [] Ay:=RSs.wk To λDn O H h=>by
 obtain⟨Y,Z,B,f,x9,Z',R,S,e,q⟩:=h;cases e;exact q Y H R.ext0 R O S
theorem AI{m1 m2:Sl->M (Fl×Sl)}(h1:RS X st m1)(h2:RSs X rest m2):RSs X (st::rest) (AT m1 m2):=RSs.wk (QV h1.pe h2.pe) λDn O H h=>by
 obtain⟨Y,Z,B,f,x9,Z',R,S,e,q⟩:=h;obtain⟨⟨f1,w9⟩,w5,e1,e⟩:=AF e;refine⟨Y,Z,B,f1,w9,w5,R,S,e1,λx4 H1 E1 R1 v7 S1=>?_⟩;cases f1 with
 |next=>exact⟨x4,w5,w9,f,x9,Z',R1,S1,e,λx6 H2 E2 R2=>q x6 H2 (E1.trans E2) R2⟩
 |brk=>cases e;exact q x4 H1 E1 R1 v7 S1
 |cont=>cases e;exact q x4 H1 E1 R1 v7 S1
 |rt d=>cases e;exact q x4 H1 E1 R1 v7 S1
 |xc x=>cases e;exact q x4 H1 E1 R1 v7 S1
theorem AO{m:Sl->M (Fl×Sl)}(h:RS X st m):RSs X [st] m:=⟨Tn h.pe⟩
noncomputable def A5(m:Sl->M D):Sl->M (Fl×Sl):=λB=>bnd (m B) λ_=>ret (.next,B)
theorem CY{m:Sl->M D}(h:RE X e m)(hs:swapsWith e none pos.line X.env=pure false:=by rfl):RS X (.Expr e pos) (A5 m):=RS.wk (Tp h.pe hs) λDn O H h=>by
 obtain⟨Y,Z,B,f,x9,Z',R,S,e,q⟩:=h;obtain⟨x,w5,e1,e⟩:=AF e;cases e;exact⟨Y,Z,_,x,_,R,S,e1,λx4 H1 E1 R1 v i1=>q x4 H1 E1 R1 O (S.ext E1)⟩
noncomputable def Av(m:Sl->M D):Sl->M (Fl×Sl):=λB=>bnd (m B) λd=>ret (.rt d,B)
theorem Aa{m:Sl->M D}(h:RE X e m):RS X (.Return (some e) pos) (Av m):=RS.wk (Vp h.pe) λDn O H h=>by
 obtain⟨Y,Z,B,f,x9,Z',R,S,e,q⟩:=h;obtain⟨x,w5,e1,e⟩:=AF e;cases e;exact⟨Y,Z,_,x,_,R,S,e1,λx4 H1 E1 R1 v i1=>q x4 H1 E1 R1 O (S.ext E1) v i1⟩
noncomputable def sIf(mc:Sl->M Bool)(m1 m2:Sl->M (Fl×Sl)):Sl->M (Fl×Sl):=λB=>bnd (mc B) λx=>if x=true then m1 B else m2 B
theorem BG{mc:Sl->M Bool}{m1 m2:Sl->M (Fl×Sl)}(hc:RT X c mc)(h1:RSs X body m1)(h2:RSs X rest m2):RS X (.If c body rest pos) (sIf mc m1 m2):=RS.wk (Xa hc.pe h1.pe h2.pe) λDn O H h=>by
 obtain⟨Y,Z,B,f,x9,Z',R,S,e,q⟩:=h;obtain⟨x,w5,e1,e⟩:=AF e;refine⟨Y,Z,B,x,w5,R,S,e1,λx4 H1 E1 R1=>?_⟩;cases x with
 |true=>exact⟨x4,w5,B,f,x9,Z',R1,S.ext E1,e,λx6 H2 E2 R2=>q x6 H2 (E1.trans E2) R2⟩
 |false=>exact⟨x4,w5,B,f,x9,Z',R1,S.ext E1,e,λx6 H2 E2 R2=>q x6 H2 (E1.trans E2) R2⟩
noncomputable def DW:Sl->M (Fl×Sl):=λ_=>Bb
theorem HQ:RS X st DW:=RS.wk QX λDn O H h=>by
 obtain⟨Y,Z,B,f,x9,Z',R,S,e,q⟩:=h;cases e
noncomputable def tG(K:KW)(bf:D->Sl->M Sl):TG:=λv O H Q=>∃Y Z B d x9 Z',RelH K Y Z H/\RelS K Y Z.length H B O/\Is K Y Z.length H d v/\bf d B Z=some (x9,Z') /\
 Aft K Y Z H Z' λY' H'=>∀O',RelS K Y' Z'.length H' x9 O'->Q O' H'
structure RG(X:Cx)(tg:Expr)(bf:D->Sl->M Sl):Prop where
 pe:PG X tg (tG X.kw bf)
theorem PG.wk{t t':TG}(h:PG X tg t)(w:∀v O H Q,t' v O H Q->t v O H Q):PG X tg t':=λw4 s O H v u Q I r q=>h w4 s O H v u Q I r (w v O H Q q)
theorem RG.wk{bf:D->Sl->M Sl}{t:TG}(h:PG X tg t)(w:∀v O H Q,tG X.kw bf v O H Q->t v O H Q):RG X tg bf:=⟨PG.wk h w⟩
noncomputable def AN(i:Nat):D->Sl->M Sl:=λd B=>ret (B.set i (some d))
theorem Jt{K:KW}{i:Nat}{v:V}{O:St}{H:Hp}{Q:St->Hp->Prop}(h:tG K (AN i) v O H Q):Gf i v O H Q:=by
 obtain⟨Y,Z,B,d,x9,Z',R,S,i1,e,q⟩:=h;cases e;exact q Y H R.ext0 R _ (S.set i i1)
theorem FA(i:Nat){x:Str}(hN:X.N.Nodup)(hi:X.N[i]?=some x:=by rfl)(hx:Loc X.env.scope x:=by first|exact Or.inl rfl|exact Or.inr rfl)(hf:X.fn x=true∨X.env.scope.names.lookup x=some .local:=by first|exact .inl rfl|exact .inr rfl|assumption):RG X (.Name x pos) (AN i):=
 RG.wk (BL hN hi hx hf) λ_ _ _ _ h=>Jt h
noncomputable def Kd:List Nat->List D->Sl->M Sl
 |[],[],B=>ret B
 |i::is,d::ds,B=>bnd (AN i d B) λw9=>Kd is ds w9
 |_,_,_=>Bb
noncomputable def Kc(is:List Nat):D->Sl->M Sl
 | .tup ds,B=>if ds.length=is.length then Kd is ds B else Bb
 |_,_=>Bb
noncomputable def Mr:List Nat->TGs
 |[]=>YA
 |i::is=>U4 (Gf i) (Mr is)
theorem JO{K:KW}:∀{is:List Nat} {ds:List D} {vs:List V} {B x9:Sl} {O:St} {Y:Nat->Addr} {Z Z':Mh} {H:Hp} {Q:St->Hp->Prop},RelH K Y Z H->RelS K Y Z.length H B O->IsL K Y Z.length H ds vs->Kd is ds B Z=some (x9,Z')->
  (Z'=Z->∀O',RelS K Y Z.length H x9 O'->Q O' H)->Mr is vs O H Q
 |[],[],_,_,_,_,_,_,_,_,_,R,S,i,e,q=>by
  cases e;unfold IsL at i;subst i;exact⟨rfl,q rfl _ S⟩
 |_::is,_::ds,_,B,x9,O,Y,Z,Z',H,Q,R,S,i,e,q=>by
  unfold IsL at i;obtain⟨v,vs',rfl,i1,i2⟩:=i;exact⟨v,vs',rfl,JO (is:=is) (ds:=ds) R (S.set _ i1) i2 e q⟩
 |[],_::_,_,_,_,_,_,_,_,_,_,_,_,_,e,_=>by cases e
 |_::_,[],_,_,_,_,_,_,_,_,_,_,_,_,e,_=>by cases e
theorem MV{is:List Nat}{k:Nat}(hc:X.calm=true)(h:PGs X es (Mr is))(hn:(assignEach es X.env).length=is.length:=by rfl)(hst:(assignEach es X.env).findIdx? (·.1)=none:=by rfl):RG X (.Tuple es k pos) (Kc is):=
 RG.wk (Vs hc h hn hst) λv O H Q h=>by
  obtain⟨Y,Z,B,d,x9,Z',R,S,i1,e,q⟩:=h;cases d with
  |tup ds=>
   unfold Is at i1;obtain⟨p,vs,rfl,h1,h2⟩:=i1;have e':(if ds.length=is.length then Kd is ds B else Bb) Z=some (x9,Z'):=e;by_cases hl:ds.length=is.length
   ·rw[if_pos hl] at e';have e:=e';refine⟨p,vs,rfl,h1,by rw[h2.length,hl],JO R S h2 e λz O' S'=>?_⟩;subst z;exact q Y H R.ext0 R O' S'
   ·rw[if_neg hl] at e';cases e'
  |_=>cases e
noncomputable def Af(m:Sl->M D)(bf:D->Sl->M Sl):Sl->M (Fl×Sl):=λB=>bnd (m B) λd=>bnd (bf d B) λx9=>ret (.next,x9)
theorem TD{K:KW}{m:Sl->M D}{bf:D->Sl->M Sl}{g:TG}{Dn:M9}{O:St}{H:Hp}(hg:∀v H Q,tG K bf v O H Q->g v O H Q)(h:tSt K (Af m bf) Dn O H):Va (tE K m) g Dn O H:=by
 obtain⟨Y,Z,B,f,x9,Z',R,S,e,q⟩:=h;obtain⟨x,w5,e1,e⟩:=AF e;obtain⟨w9,w6,e2,e⟩:=AF e;cases e;exact⟨Y,Z,B,x,w5,R,S,e1,λx4 H1 E1 R1 v i1=>hg _ _ _ ⟨x4,w5,B,x,_,_,R1,S.ext E1,i1,e2,λx6 H2 E2 R2 O' S'=>q x6 H2 (E1.trans E2) R2 O' S'⟩⟩
theorem Ag(i:Nat){x:Str}{m:Sl->M D}{pos':Pos}(hN:X.N.Nodup)(he:RE X e m)(hi:X.N[i]?=some x:=by rfl)(hx:Loc X.env.scope x:=by first|exact Or.inl rfl|exact Or.inr rfl)(hs:swapsWith e (some (.Name x pos')) pos.line X.env=pure false:=by rfl)(hf:X.fn x=true∨X.env.scope.names.lookup x=some .local:=by first|exact .inl rfl|exact .inr rfl|assumption):
  RS X (.Assign [.Name x pos'] e pos) (Af m (AN i)):=RS.wk (Vo hN hi hx he.pe hs hf) λ_ _ _ h=>TD (λ_ _ _ q=>Jt q) h
noncomputable def Gn(mc:Sl->M Bool)(mb:Sl->M (Fl×Sl)):Nat->Sl->M (Fl×Sl)
 |0,_=>Bb
 |n+1,B=>bnd (mc B) λx=>if x=true then bnd (mb B) λr=>match r.1 with
   | .next=>Gn mc mb n r.2
   | .cont=>Gn mc mb n r.2
   | .brk=>ret (.next,r.2)
   | .rt d=>ret (.rt d,r.2)
   | .xc x=>ret (.xc x,r.2)
  else ret (.next,B)
noncomputable def J3(n:Nat)(mc:Sl->M Bool)(mb:Sl->M (Fl×Sl)):Sl->M (Fl×Sl):=Gn mc mb n
theorem LD(n:Nat){mc:Sl->M Bool}{mb:Sl->M (Fl×Sl)}(hp:PassesOwn (model X.prog X.w) X.A X.env X.xe)(hc:RT X c mc)(hb:RSs X body mb):RS X (.While c body [] pos) (J3 n mc mb):=RS.wk (QW hp hc.pe hb.pe) λDn O H h=>by
 refine⟨λn O H=>tSt X.kw (Gn mc mb n) Dn O H,⟨n,h⟩,?_⟩;intro n O H h;obtain⟨Y,Z,B,f,x9,Z',R,S,e,q⟩:=h;cases n with
 |zero=>cases e
 |succ n=>
  obtain⟨x,w5,e1,e⟩:=AF e;refine⟨Y,Z,B,x,w5,R,S,e1,λx4 H1 E1 R1=>?_⟩;cases x with
  |false=>cases e;exact q x4 H1 E1 R1 O (S.ext E1)
  |true=>
   obtain⟨⟨f2,x5⟩,w6,e2,e⟩:=AF e;refine⟨λO' H'=>tSt X.kw (Gn mc mb n) Dn O' H',λO' H' z=>⟨n,Nat.lt_succ_self n,z⟩,?_⟩;refine⟨x4,w5,B,f2,x5,w6,R1,S.ext E1,e2,λx6 H2 E2 R2 u7 S2=>?_⟩;have E12:=E1.trans E2;cases f2 with
   |next=>exact⟨x6,w6,x5,f,x9,Z',R2,S2,e,λu3 H3 E3 R3=>q u3 H3 (E12.trans E3) R3⟩
   |cont=>exact⟨x6,w6,x5,f,x9,Z',R2,S2,e,λu3 H3 E3 R3=>q u3 H3 (E12.trans E3) R3⟩
   |brk=>cases e;exact q x6 H2 E12 R2 u7 S2
   |rt d=>cases e;exact q x6 H2 E12 R2 u7 S2
   |xc x=>cases e;exact q x6 H2 E12 R2 u7 S2
def ItM(K:KW)(J:It)(ds:List D)(Y:Nat->Addr)(Z:Mh)(H:Hp):Prop:=∀Y' (Z':Mh) H',Ext Y Z.length H Y' Z'.length H'->RelH K Y' Z' H'->
 (∀i,i<ds.length->J.go i H')/\J.stop ds.length H'/\∀(i:Nat) x H2 d,ds[i]?=some d->J.yld i H' x H2->Ext Y' Z'.length H' Y' Z'.length H2/\RelH K Y' Z' H2/\Is K Y' Z'.length H2 d x
theorem ItM.ext{K:KW}{J:It}{ds:List D}{Y Y':Nat->Addr}{Z Z':Mh}{H H':Hp}(h:ItM K J ds Y Z H)(E:Ext Y Z.length H Y' Z'.length H'):ItM K J ds Y' Z' H':=λx6 w6 H2 E2 R2=>h x6 w6 H2 (E.trans E2) R2
noncomputable def tI(K:KW)(m:Sl->M (List D)):TI:=λO H R=>∃Y Z B ds Z',RelH K Y Z H/\RelS K Y Z.length H B O/\m B Z=some (ds,Z') /\
 Aft K Y Z H Z' λY' H'=>∀J,ItM K J ds Y' Z' H'->R J H'
structure RI(X:Cx)(tg iter:Expr)(m:Sl->M (List D)):Prop where
 pe:PI X tg iter (tI X.kw m)
theorem PI.wk{t t':TI}(h:PI X tg iter t)(w:∀O H R,t' O H R->t O H R):PI X tg iter t':=λw4 s O H R I q=>h w4 s O H R I (w O H R q)
theorem RI.wk{m:Sl->M (List D)}{t:TI}(h:PI X tg iter t)(w:∀O H R,tI X.kw m O H R->t O H R):RI X tg iter m:=⟨PI.wk h w⟩
theorem PI.or{t t':TI}(h:PI X tg iter t)(h':PI X tg iter t'):PI X tg iter (λO H R=>t O H R∨t' O H R):=λw4 s O H R I q=>q.elim (h w4 s O H R I) (h' w4 s O H R I)
noncomputable def N8:D->M (List D)
 | .lst ds=>ret ds
 | .tup ds=>ret ds
 | .scr ns=>ret (ns.map D.int)
 |_=>Bb
noncomputable def Db(m:Sl->M D):Sl->M (List D):=λB=>bnd (m B) N8
theorem LX{K:KW}{Y:Nat->Addr}{Z:Mh}{H:Hp}{p:Addr}{vs:List V}{ds:List D}(st:∀Y' (Z':Mh) H',Ext Y Z.length H Y' Z'.length H'->RelH K Y' Z' H'->SqL K H' p vs)(i:IsL K Y Z.length H ds vs):ItM K (Itl K p) ds Y Z H:=by
 intro Y' Z' H' E R;have h:=st Y' Z' H' E R;have hl:=i.length;refine⟨λj hj=>⟨vs,vs[j],h,by simp⟩,⟨vs,h,by omega⟩,λj x H2 d hd y=>?_⟩;obtain⟨e,y⟩:=y;subst e;obtain⟨v,ev,iv⟩:=(i.ext E).get hd;have:=y vs h;rw[ev] at this;cases this;exact⟨R.ext0,R,iv⟩
theorem UP{K:KW}{Y:Nat->Addr}{Z:Mh}{H:Hp}{p:Addr}{vs:List V}{ds:List D}(h:SqT K H p vs)(i:IsL K Y Z.length H ds vs):ItM K (Itt K p) ds Y Z H:=by
 intro Y' Z' H' E R;have h:=Jv E h;have hl:=i.length;refine⟨λj hj=>⟨vs,vs[j],h,by simp⟩,⟨vs,h,by omega⟩,λj x H2 d hd y=>?_⟩;obtain⟨e,y⟩:=y;subst e;obtain⟨v,ev,iv⟩:=(i.ext E).get hd;have:=y vs h;rw[ev] at this;cases this;exact⟨R.ext0,R,iv⟩
theorem Ta{m:Sl->M D}{O:St}{H:Hp}{R:It->Hp->Prop}{K:KW}(q:tI K (Db m) O H R):U3 K (tE K m) O H R∨X8 K (tE K m) O H R:=by
 obtain⟨Y,Z,B,ds,Z',R0,S,e,q⟩:=q;obtain⟨x,w5,e1,e⟩:=AF e;cases x with
 |lst es=>
  cases e;refine .inl ⟨Y,Z,B,_,_,R0,S,e1,λx4 H1 E1 R1 v i1=>?_⟩;unfold Is at i1;obtain⟨p,vs,rfl,h1,hn,h2⟩:=i1;exact⟨p,rfl,⟨vs,SqL.of h1⟩,q x4 H1 E1 R1 _ (LX (λY' Z' H' E _=>SqL.of (E.keep p _ h1 hn)) h2)⟩
 |tup es=>
  cases e;refine .inr ⟨Y,Z,B,_,_,R0,S,e1,λx4 H1 E1 R1 v i1=>?_⟩;unfold Is at i1;obtain⟨p,vs,rfl,h1,h2⟩:=i1;exact⟨p,rfl,⟨vs,h1⟩,q x4 H1 E1 R1 _ (UP h1 h2)⟩
 |scr ns=>
  cases e;refine .inl ⟨Y,Z,B,_,_,R0,S,e1,λx4 H1 E1 R1 v i1=>?_⟩;unfold Is at i1;obtain⟨p,rfl,h1⟩:=i1;exact⟨p,rfl,⟨_,h1.sq⟩,q x4 H1 E1 R1 _ (LX (λY' Z' H' E _=>(J2 E h1).sq) (IsL.ofInts ns))⟩
 |non=>cases e
 |bl _=>cases e
 |int _=>cases e
 |str _=>cases e
 |ty _=>cases e
 |ref _=>cases e
theorem DK{m:Sl->M D}(h:RE X e m):RI X tg e (Db m):=RI.wk (PI.or (NV h.pe) (Vr h.pe)) λ_ _ _ q=>Ta q
noncomputable def MT(lo hi:Int):List D:=(List.range (hi-lo).toNat).map λ(j:Nat)=>D.int (lo+(j:Int))
noncomputable def LG:List D->M (List D)
 |[.int j]=>λZ=>if -(2 ^ 62)<=j/\j<2 ^ 62 then some (MT 0 j,Z) else none
 |_=>Bb
noncomputable def DN(m:Sl->M (List D)):Sl->M (List D):=λB=>bnd (m B) LG
theorem UQ{K:KW}{Y:Nat->Addr}{Z:Mh}{H:Hp}{lo hi:Int}:ItM K (Itr lo (hi-lo).toNat) (MT lo hi) Y Z H:=by
 intro Y' Z' H' E R;have hl:(MT lo hi).length=(hi-lo).toNat:=by simp[MT]
 rw[hl];refine⟨λj hj=>hj,AAE _,λj x H2 d hd y=>?_⟩;obtain⟨e,y⟩:=y;subst e;unfold MT at hd;rw[AAV] at hd;cases q:(List.range (hi-lo).toNat)[j]? with
 |none=>rw[q] at hd;cases hd
 |some z=>
  rw[q] at hd;have hz:z=j:=by
   have:=(AAT.mp q).2;simpa using this.symm
  subst hz;cases hd;exact⟨R.ext0,R,by unfold Is;exact y⟩
theorem Dv{a:Expr}{m:Sl->M (List D)}{p:Pos}(hm:X.mg "range" = none)(ha:RA X [a] m)(hg:Gl X "range" := by rfl)(hs:starEach [a] X.env=[(false,eval a X.env)]:=by rfl):RI X tg (.Call (.Name "range" p) [a] [] pos) (DN m):=
 RI.wk (Ob hg hm ha.pe hs) λO H R q=>by
  obtain⟨Y,Z,B,ds,Z',R0,S,e,q⟩:=q;obtain⟨xs,w5,e1,e⟩:=AF e;refine⟨Y,Z,B,xs,w5,R0,S,e1,λx4 H1 E1 R1 vs i1=>?_⟩;unfold LG at e;split at e
  ·rename_i j;split at e
   ·rename_i hb;cases e;unfold IsL Is at i1;obtain⟨v,vs',rfl,rfl,i2⟩:=i1;unfold IsL at i2;subst i2;refine⟨j,rfl,hb.1,hb.2,q x4 H1 E1 R1 _ ?_⟩;have:=UQ (K:=X.kw) (Y:=x4) (Z:=Z') (H:=H1) (lo:=0) (hi:=j);rw[Int.sub_zero] at this;exact this
   ·cases e
  ·cases e
noncomputable def DE(bf:D->Sl->M Sl)(mb:Sl->M (Fl×Sl)):List D->Sl->M (Fl×Sl)
 |[],B=>ret (.next,B)
 |x::xs,B=>bnd (bf x B) λw9=>bnd (mb w9) λr=>match r.1 with
  | .next=>DE bf mb xs r.2
  | .cont=>DE bf mb xs r.2
  | .brk=>ret (.next,r.2)
  | .rt d=>ret (.rt d,r.2)
  | .xc x=>ret (.xc x,r.2)
noncomputable def Fp(src:Sl->M (List D))(bf:D->Sl->M Sl)(mb:Sl->M (Fl×Sl)):Sl->M (Fl×Sl):=λB=>bnd (src B) λds=>DE bf mb ds B
theorem Eg{src:Sl->M (List D)}{bf:D->Sl->M Sl}{mb:Sl->M (Fl×Sl)}(hp:PassesOwn (model X.prog X.w) X.A X.env X.xe)(hc:X.calm=true)(hi:RI X tg iter src)(hg:RG X tg bf)(hb:RSs X body mb)
  (hs:∀x,foldedSetIterable iter X.env x=pure x:=by intro _;rfl):RS X (.For tg iter body [] pos) (Fp src bf mb):=RS.wk (QY hp hc hi.pe hg.pe hb.pe hs) λDn O H h=>by
 obtain⟨Y,Z,B,f,x9,Z',R,S,e,q⟩:=h;obtain⟨ds,w5,e1,e⟩:=AF e;refine⟨Y,Z,B,ds,w5,R,S,e1,λx4 H1 E1 R1 J it=>?_⟩
 let W:Nat->Nat->St->Hp->Prop:=λi m O H=>m=ds.length-i/\i<=ds.length/\∃Y Z B f x9 Z',RelH X.kw Y Z H/\RelS X.kw Y Z.length H B O/\ItM X.kw J ds Y Z H/\DE bf mb (ds.drop i) B Z=some ((f,x9),Z') /\
  Aft X.kw Y Z H Z' λY' H'=>∀O',RelS X.kw Y' Z'.length H' x9 O'->FlP X.kw Dn Y' Z'.length H' x9 O' f
 refine⟨W,⟨ds.length,by simp,AAl _,x4,w5,B,f,x9,Z',R1,S.ext E1,it,e,λx6 H2 E2 R2=>q x6 H2 (E1.trans E2) R2⟩,?_⟩;rintro i m O H ⟨hm,hil,Y,Z,B,f,x9,Z',R,S,it,e,q⟩;obtain⟨go,stop,yl⟩:=it Y Z H R.ext0 R;by_cases hlt:i<ds.length
 ·refine .inr ⟨go i hlt,λO' H'=>W (i+1) (ds.length-(i+1)) O' H',λO' H' z=>⟨_,by omega,z⟩,λx H2 y=>?_⟩;have hd:ds[i]?=some ds[i]:=by simp[hlt]
  obtain⟨E2,R2,ix⟩:=yl i x H2 _ hd y;rw[List.drop_eq_getElem_cons hlt] at e;obtain⟨w9,w5,e1,e⟩:=AF e;obtain⟨⟨f2,x5⟩,w6,e2,e⟩:=AF e;refine⟨Y,Z,B,_,w9,w5,R2,S.ext E2,ix,e1,λu3 H3 E3 R3 u9 S3=>?_⟩;refine⟨u3,w5,w9,f2,x5,w6,R3,S3,e2,λu6 H4 E4 R4 v9 S4=>?_⟩;have E14:=(E2.trans E3).trans E4;cases f2 with
  |next=>exact⟨rfl,hlt,u6,w6,x5,f,x9,Z',R4,S4,it.ext E14,e,λu8 H5 E5 R5=>q u8 H5 (E14.trans E5) R5⟩
  |cont=>exact⟨rfl,hlt,u6,w6,x5,f,x9,Z',R4,S4,it.ext E14,e,λu8 H5 E5 R5=>q u8 H5 (E14.trans E5) R5⟩
  |brk=>cases e;exact q u6 H4 E14 R4 v9 S4
  |rt d=>cases e;exact q u6 H4 E14 R4 v9 S4
  |xc x=>cases e;exact q u6 H4 E14 R4 v9 S4
 ·have hi':i=ds.length:=by omega
  subst hi';rw[List.drop_length] at e;cases e;exact .inl ⟨stop,q Y H R.ext0 R O S⟩
end
section
variable{tgs:List Str}{ix:List Nat}
noncomputable def LJ(ix:List Nat)(B:Sl):Sl:=ix.map λj=>(B[j]?).getD none
noncomputable def CW(n:Nat)(ix:List Nat)(B:Sl):Sl:=List.replicate n none++LJ ix B
noncomputable def ER(bf:D->Sl->M Sl)(mc:Sl->M Bool)(me:Sl->M D)(u5:Sl):List D->List D->M (List D)
 |[],ys=>ret ys
 |x::xs,ys=>bnd (bf x u5) λw9=>bnd (mc w9) λc=>if c=true then bnd (me w9) λy=>ER bf mc me u5 xs (ys++[y]) else ER bf mc me u5 xs ys
noncomputable def Bf(n:Nat)(ix:List Nat)(src:Sl->M (List D))(bf:D->Sl->M Sl)(mc:Sl->M Bool)(me:Sl->M D)(fin:List D->M D):Sl->M D:=λB=>bnd (src B) λds=>bnd (lim ds.length) λ_=>bnd (ER bf mc me (CW n ix B) ds []) fin
noncomputable def Cg:Sl->M Bool:=λ_=>ret true
theorem RelS.block{K:KW}{Y:Nat->Addr}{k:Nat}{H:Hp}{B:Sl}{O:St}(S:RelS K Y k H B O):RelS K Y k H (CW tgs.length ix B) (Ct tgs ix O):=by
 refine⟨by simp[CW,Ct,LJ,JC],λi d e=>?_⟩;unfold CW at e;have hk:tgs.length<=i:=by
  rcases Nat.lt_or_ge i tgs.length with z|z
  ·rw[AAS (by simpa using z),List.getElem?_replicate,if_pos z] at e;cases e
  ·exact z
 rw[AAR (by simpa using hk),AAo] at e;unfold LJ at e;rw[AAV] at e;cases q:ix[i-tgs.length]? with
 |none=>rw[q] at e;cases e
 |some j=>
  rw[q] at e;have e':(B[j]?).getD none=some d:=Option.some.inj e;cases q2:B[j]? with
  |none=>rw[q2] at e';cases e'
  |some o=>
   rw[q2] at e';have e'':o=some d:=e';subst e'';obtain⟨v,ev,iv⟩:=S.get j d q2;refine⟨v,?_,iv⟩;unfold Ct;rw[AAR (by simpa using hk),AAo];unfold JC;rw[AAV,q,Option.map_some,ev];rfl
mutual
def Cl(k:Nat):D->Prop
 | .tup ds=>ClL k ds
 | .lst ds=>ClL k ds
 | .ref n=>n<k
 |_=>True
def ClL(k:Nat):List D->Prop
 |[]=>True
 |d::ds=>Cl k d/\ClL k ds
end
noncomputable def ClO(k:Nat):MO->Prop
 | .lst ds=>ClL k ds
 | .dK l=>ClL k (l.map (·.2))
 | .dC l=>ClL k (l.map (·.2))
 | .ins _ l=>ClL k (l.map (·.2))
 | .dP l=>ClL k (l.map (·.1))/\ClL k (l.map (·.2))
 | .exc _ _=>True
section
variable{K:KW}{Y:Nat->Addr}{k k':Nat}{H:Hp}
mutual
theorem Is.down(hk:k<=k'):∀{d:D} {v:V},Cl k d->Is K Y k' H d v->Is K Y k H d v
 | .non,_,_,h=>by unfold Is at h ⊢;exact h
 | .bl _,_,_,h=>by unfold Is at h ⊢;exact h
 | .int _,_,_,h=>by unfold Is at h ⊢;exact h
 | .str _,_,_,h=>by unfold Is at h ⊢;exact h
 | .ty _,_,_,h=>by unfold Is at h ⊢;exact h
 | .scr _,_,_,h=>by unfold Is at h ⊢;exact h
 | .tup ds,_,c,h=>by
  unfold Is at h ⊢;obtain⟨p,vs,e,h1,h2⟩:=h;exact⟨p,vs,e,h1,IsL.down hk (by unfold Cl at c;exact c) h2⟩
 | .lst ds,_,c,h=>by
  unfold Is at h ⊢;obtain⟨p,vs,e,h1,hn,h2⟩:=h;exact⟨p,vs,e,h1,λn z=>hn n (AAM z hk),IsL.down hk (by unfold Cl at c;exact c) h2⟩
 | .ref n,_,c,h=>by
  unfold Is at h ⊢;exact⟨by unfold Cl at c;exact c,h.2⟩
theorem IsL.down(hk:k<=k'):∀{ds:List D} {vs:List V},ClL k ds->IsL K Y k' H ds vs->IsL K Y k H ds vs
 |[],_,_,h=>by unfold IsL at h ⊢;exact h
 |_::_,_,c,h=>by
  unfold IsL at h ⊢;unfold ClL at c;obtain⟨v,vs',e,h1,h2⟩:=h;exact⟨v,vs',e,Is.down hk c.1 h1,IsL.down hk c.2 h2⟩
end
mutual
theorem Is.cl:∀{d:D} {v:V},Is K Y k H d v->Cl k d
 | .non,_,_=>by unfold Cl;trivial
 | .bl _,_,_=>by unfold Cl;trivial
 | .int _,_,_=>by unfold Cl;trivial
 | .str _,_,_=>by unfold Cl;trivial
 | .ty _,_,_=>by unfold Cl;trivial
 | .scr _,_,_=>by unfold Cl;trivial
 | .tup ds,_,h=>by
  unfold Is at h;unfold Cl;obtain⟨p,vs,e,h1,h2⟩:=h;exact IsL.cl h2
 | .lst ds,_,h=>by
  unfold Is at h;unfold Cl;obtain⟨p,vs,e,h1,hn,h2⟩:=h;exact IsL.cl h2
 | .ref n,_,h=>by
  unfold Is at h;unfold Cl;exact h.1
theorem IsL.cl:∀{ds:List D} {vs:List V},IsL K Y k H ds vs->ClL k ds
 |[],_,_=>by unfold ClL;trivial
 |_::_,_,h=>by
  unfold IsL at h;unfold ClL;obtain⟨v,vs',e,h1,h2⟩:=h;exact⟨Is.cl h1,IsL.cl h2⟩
end
theorem KVs.cl:∀{l:List (Key×D)} {r:List (Key×V)},KVs K Y k H l r->ClL k (l.map (·.2))
 |[],_,_=>by unfold List.map ClL;trivial
 |(_,_)::_,_,h=>by
  obtain⟨v,r',e,h1,h2⟩:=h;rw[AAW];unfold ClL;exact⟨h1.cl,KVs.cl h2⟩
theorem KVs.down(hk:k<=k'):∀{l:List (Key×D)} {r:List (Key×V)},ClL k (l.map (·.2))->KVs K Y k' H l r->KVs K Y k H l r
 |[],_,_,h=>h
 |(_,_)::_,_,c,h=>by
  rw[AAW] at c;unfold ClL at c;obtain⟨v,r',e,h1,h2⟩:=h;exact⟨v,r',e,h1.down hk c.1,KVs.down hk c.2 h2⟩
theorem N3:∀l:List Int,ClL k (l.map D.int)
 |[]=>by unfold List.map ClL;trivial
 |_::l=>by unfold List.map ClL;exact⟨by unfold Cl;trivial,N3 l⟩
theorem EW(c:Nk.Cs):Cl k (csD c):=by
 unfold csD Cl ClL;refine⟨by unfold Cl;trivial,?_⟩;unfold ClL;refine⟨by unfold Cl;trivial,?_⟩;unfold ClL;exact⟨by unfold Cl;exact N3 _,by unfold ClL;trivial⟩
theorem CVs.cl:∀{l:List (Nk.Cs×D)} {r:List (Nk.Cs×Addr×V)},CVs K Y k H l r->ClL k (l.map (·.2))
 |[],_,_=>by unfold List.map ClL;trivial
 |(_,_)::_,_,h=>by
  obtain⟨a,v,r',rfl,_,h1,h2⟩:=h;rw[AAW];unfold ClL;exact⟨h1.cl,CVs.cl h2⟩
theorem CVs.down(hk:k<=k'):∀{l:List (Nk.Cs×D)} {r:List (Nk.Cs×Addr×V)},ClL k (l.map (·.2))->CVs K Y k' H l r->CVs K Y k H l r
 |[],_,_,h=>h
 |(_,_)::_,_,c,h=>by
  rw[AAW] at c;unfold ClL at c;obtain⟨a,v,r',e,h0,h1,h2⟩:=h;exact⟨a,v,r',e,h0.down hk (EW _),h1.down hk c.1,CVs.down hk c.2 h2⟩
theorem FVs.cl:∀{l:List (Str×D)} {r:List (Str×V)},FVs K Y k H l r->ClL k (l.map (·.2))
 |[],_,_=>by unfold List.map ClL;trivial
 |(_,_)::_,_,h=>by
  obtain⟨v,r',rfl,h1,h2⟩:=h;rw[AAW];unfold ClL;exact⟨h1.cl,FVs.cl h2⟩
theorem FVs.down(hk:k<=k'):∀{l:List (Str×D)} {r:List (Str×V)},ClL k (l.map (·.2))->FVs K Y k' H l r->FVs K Y k H l r
 |[],_,_,h=>h
 |(_,_)::_,_,c,h=>by
  rw[AAW] at c;unfold ClL at c;obtain⟨v,r',e,h1,h2⟩:=h;exact⟨v,r',e,h1.down hk c.1,FVs.down hk c.2 h2⟩
theorem PVs.cl:∀{l:List (D×D)} {r:List (D×Addr×V)},PVs K Y k H l r->ClL k (l.map (·.1))/\ClL k (l.map (·.2))
 |[],_,_=>by unfold List.map ClL;exact⟨trivial,trivial⟩
 |(_,_)::_,_,h=>by
  obtain⟨a,v,r',_,h1,h2,h3⟩:=h;rw[AAW,AAW];unfold ClL;exact⟨⟨h1.2.2.cl,(PVs.cl h3).1⟩,h2.cl,(PVs.cl h3).2⟩
theorem PVs.down(hk:k<=k'):∀{l:List (D×D)} {r:List (D×Addr×V)},ClL k (l.map (·.1))->ClL k (l.map (·.2))->PVs K Y k' H l r->PVs K Y k H l r
 |[],_,_,_,h=>h
 |(_,_)::_,_,b,c,h=>by
  rw[AAW] at b c;unfold ClL at b c;obtain⟨a,v,r',e,h1,h2,h3⟩:=h;exact⟨a,v,r',e,⟨h1.1,h1.2.1,h1.2.2.down hk b.1⟩,h2.down hk c.1,PVs.down hk b.2 c.2 h3⟩
theorem ObjIs.cl{p:Addr}{o:MO}{u:HO}(h:ObjIs K Y k H p o u):ClO k o:=by
 cases o with
 |lst ds=>obtain⟨vs,_,h⟩:=h;exact h.cl
 |dK l=>obtain⟨r,_,h⟩:=h;exact h.cl
 |dC l=>obtain⟨r,_,h⟩:=h;exact h.cl
 |ins c l=>obtain⟨C,dx,r,_,_,_,h⟩:=h;exact h.cl
 |dP l=>obtain⟨r,_,h⟩:=h;exact h.cl
 |exc c n=>exact trivial
theorem ObjIs.down(hk:k<=k'){p:Addr}{o:MO}{u:HO}(c:ClO k o)(h:ObjIs K Y k' H p o u):ObjIs K Y k H p o u:=by
 cases o with
 |lst ds=>obtain⟨vs,e,h⟩:=h;exact⟨vs,e,h.down hk c⟩
 |dK l=>obtain⟨r,e,h⟩:=h;exact⟨r,e,h.down hk c⟩
 |dC l=>obtain⟨r,e,h⟩:=h;exact⟨r,e,h.down hk c⟩
 |ins n l=>obtain⟨C,dx,r,e,h0,h1,h⟩:=h;exact⟨C,dx,r,e,h0,h1,h.down hk c⟩
 |dP l=>obtain⟨r,e,h⟩:=h;exact⟨r,e,h.down hk c.1 c.2⟩
 |exc c n=>exact h
end
def ZA(w6 Z':Mh)(d' d:D):Prop:=(d'=d/\Cl Z'.length d)∨∃n ds,d'=.ref n/\w6[n]?=some (.lst ds)/\Z'.length<=n/\d=.lst ds/\ClL Z'.length ds
structure IP(Z w6 Z':Mh)(d' d:D):Prop where
 grow:∃g,w6=Z'++g
 le:Z.length<=Z'.length
 old:∀(n:Nat) (o:MO),Z'[n]?=some o->Z[n]?=some o∨ClO Z'.length o
 conv:ZA w6 Z' d' d
noncomputable def HS:Fl->D
 | .rt d=>d
 |_=>.non
theorem Pw{K:KW}{Y x6:Nat->Addr}{Z w6 Z':Mh}{H H2:Hp}{d' d:D}(R:RelH K Y Z H)(E:Ext Y Z.length H x6 w6.length H2)(R2:RelH K x6 w6 H2)(t:IP Z w6 Z' d' d):
  Ext Y Z.length H x6 Z'.length H2/\RelH K x6 Z' H2/\∀v,Is K x6 w6.length H2 d' v->Is K x6 Z'.length H2 d v:=by
 obtain⟨⟨g,hg⟩,le,old,conv⟩:=t;have hle:Z'.length<=w6.length:=by rw[hg];simp
 have hget:∀(n:Nat) (o:MO),Z'[n]?=some o->w6[n]?=some o:=λn o e=>by
  rw[hg,AAS (AAT.mp e).1];exact e
 refine⟨⟨le,E.agree,λn h1 h2=>E.fresh n h1 (AAM h2 hle),E.keep,E.was,E.there⟩,⟨λi j hi hj=>R2.inj i j (AAM hi hle) (AAM hj hle),λn o e=>?_⟩,λv iv=>?_⟩
 ·obtain⟨u,q,hq⟩:=R2.obj n o (hget n o e);refine⟨u,q,hq.down hle ?_⟩;rcases old n o e with z|z
  ·obtain⟨u0,_,h0⟩:=R.obj n o z;have c:=h0.cl;cases o with
   |lst ds=>exact clL_mono le c
   |dK l=>exact clL_mono le c
   |dC l=>exact clL_mono le c
   |ins n l=>exact clL_mono le c
   |dP l=>exact⟨clL_mono le c.1,clL_mono le c.2⟩
   |exc c n=>exact trivial
  ·exact z
 ·rcases conv with ⟨rfl,c⟩|⟨n,ds,rfl,hn,hle2,rfl,c⟩
  ·exact iv.down hle c
  ·obtain⟨u,q,vs,rfl,il⟩:=R2.obj n _ hn;have hn2:n<w6.length:=(AAT.mp hn).1;unfold Is at iv ⊢;refine⟨x6 n,vs,iv.2,q,λm hm z=>?_,il.down hle c⟩;have:=R2.inj m n (AAM hm hle) hn2 z;omega
where
 cl_mono {k k':Nat} (h:k<=k'):∀{d:D},Cl k d->Cl k' d
  | .non,_=>by unfold Cl;trivial
  | .bl _,_=>by unfold Cl;trivial
  | .int _,_=>by unfold Cl;trivial
  | .str _,_=>by unfold Cl;trivial
  | .ty _,_=>by unfold Cl;trivial
  | .scr _,_=>by unfold Cl;trivial
  | .tup ds,c=>by unfold Cl at c ⊢;exact clL_mono h c
  | .lst ds,c=>by unfold Cl at c ⊢;exact clL_mono h c
  | .ref n,c=>by unfold Cl at c ⊢;exact AAM c h
 clL_mono {k k':Nat} (h:k<=k'):∀{ds:List D},ClL k ds->ClL k' ds
  |[],_=>by unfold ClL;trivial
  |_::_,c=>by unfold ClL at c ⊢;exact⟨cl_mono h c.1,clL_mono h c.2⟩
noncomputable def CV(n:Nat)(ds:List D):Sl:=ds.map some++List.replicate (n-ds.length) none
theorem RelS.start{K:KW}{Y:Nat->Addr}{k:Nat}{H:Hp}{N:List Str}{ds:List D}{vs:List V}(i:IsL K Y k H ds vs):RelS K Y k H (CV N.length ds) (L2.start N vs):=by
 have hl:=i.length;refine⟨by simp[CV,L2.start,hl],λj d e=>?_⟩;unfold CV at e;unfold L2.start;rcases Nat.lt_or_ge j ds.length with z|z
 ·rw[AAS (by simpa using z),AAV] at e;rw[AAS (by simpa[hl] using z),AAV];cases q:ds[j]? with
  |none=>rw[q] at e;cases e
  |some d0=>
   rw[q] at e;cases e;obtain⟨v,ev,iv⟩:=i.get q;exact⟨v,by rw[ev];rfl,iv⟩
 ·rw[AAR (by simpa using z),List.getElem?_replicate] at e;split at e<;>cases e
theorem JS{P:Program}{w:World}{K:PySem.W.Frag}{mg:Str->Option Value}{base:Heap}{x qual:Str}{st:Stmt}{f:Addr}{fd:FuncData}{N ps:List Str}{k n:Nat}{φ:List D->M D}{mb:Sl->M (Fl×Sl)}(F:Fun K x qual st f fd)(S:Ae N ps (AS st))(hn:ps.length=n:=by rfl)
  (body:∀(cdv:Value) (A:Around) (outer:List Env) (s:Shared) (H:Hp) (E:XK),Room k (A.deeper (PyProof.Rows.envOfC qual (AS st) s.heap.objs.size f cdv))->RSs (Ic CX0 P w K mg base N qual (AS st) f cdv A outer s H E).nox (DB st) mb)
  (run:∀ds Z d Z',φ ds Z=some (d,Z')->∃fl x5 w6,mb (CV N.length ds) Z=some ((fl,x5),w6)/\(fl=.next∨∃d,fl=.rt d)/\IP Z w6 Z' (HS fl) d):FnOk P w K mg base CX0 (k+1) f fd ps (spM ⟨K,w⟩ n φ):=by
 refine F.ok S (λvs H Q E h=>by rw[hn];exact h.1) (λcdv A outer s H vs Q E hr h=>⟨_,(body cdv A outer s H E hr).pe,?_⟩);obtain⟨hl,Y,Z,ds,d,Z',R,i,e,q⟩:=h;obtain⟨fl,x5,w6,e2,hfl,t⟩:=run ds Z d Z' e;refine⟨Y,Z,_,fl,x5,w6,R,RelS.start i,e2,λx6 H2 E2 R2 u7 S2=>?_⟩;obtain⟨E3,R3,c⟩:=Pw R E2 R2 t;rcases hfl with rfl|⟨d0,rfl⟩
 ·exact q x6 H2 E3 R3 _ (c _ (by unfold HS Is;rfl))
 ·exact λv iv=>q x6 H2 E3 R3 v (c v iv)
end
noncomputable def CL:D->M (List D)
 | .lst ds=>ret ds
 | .scr ns=>ret (ns.map D.int)
 | .ref n=>λZ=>match Z[n]? with
  |some (.lst ds)=>some (ds,Z)
  |_=>none
 |_=>Bb
section
variable{K:KW}{Y:Nat->Addr}{Z Z':Mh}{H:Hp}{d:D}{v:V}{ds:List D}
theorem C8(R:RelH K Y Z H)(i:Is K Y Z.length H d v)(e:CL d Z=some (ds,Z')):Z'=Z/\∃p vs,v=.ref p/\SqL K H p vs/\IsL K Y Z.length H ds vs:=by
 cases d with
 |lst es=>
  cases e;unfold Is at i;obtain⟨p,vs,rfl,h1,hn,h2⟩:=i;exact⟨rfl,p,vs,rfl,SqL.of h1,h2⟩
 |scr ns=>
  cases e;unfold Is at i;obtain⟨p,rfl,h1⟩:=i;exact⟨rfl,p,_,rfl,h1.sq,IsL.ofInts ns⟩
 |ref n=>
  unfold Is at i;obtain⟨hn,rfl⟩:=i;have e':(match Z[n]? with|some (.lst ds)=>some (ds,Z)|_=>none)=some (ds,Z'):=e;split at e'
  ·rename_i es hq;cases e';obtain⟨u,h1,vs,rfl,h2⟩:=R.obj n _ hq;exact⟨rfl,_,vs,rfl,SqL.of h1,h2⟩
  ·cases e'
 |_=>cases e
theorem B2{i:Int}(h:Is K Y Z.length H (.int i) v):v=.int i:=by unfold Is at h;exact h
theorem EL{i:Str}(h:Is K Y Z.length H (.str i) v):v=.str i:=by unfold Is at h;exact h
theorem RU{i:Bool}(h:Is K Y Z.length H (.bl i) v):v=.bl i:=by unfold Is at h;exact h
theorem Mm(h:Is K Y Z.length H .non v):v=.non:=by unfold Is at h;exact h
theorem X7{n:String}(h:Is K Y Z.length H (.ty n) v):v=.ty n:=by unfold Is at h;exact h
theorem ofI{k:Nat}(i:Int):Is K Y k H (.int i) (.int i):=by unfold Is;rfl
theorem ofS{k:Nat}(i:Str):Is K Y k H (.str i) (.str i):=by unfold Is;rfl
theorem ofB{k:Nat}(i:Bool):Is K Y k H (.bl i) (.bl i):=by unfold Is;rfl
theorem ofN{k:Nat}:Is K Y k H .non .non:=by unfold Is;rfl
theorem FJ{d:D}{vs:List V}{k:Nat}(h:IsL K Y k H [d] vs):∃v,vs=[v]/\Is K Y k H d v:=by
 unfold IsL at h;obtain⟨v,vs',rfl,h1,h2⟩:=h;unfold IsL at h2;subst h2;exact⟨v,rfl,h1⟩
theorem Yu{d d':D}{vs:List V}{k:Nat}(h:IsL K Y k H [d,d'] vs):∃v v',vs=[v,v']/\Is K Y k H d v/\Is K Y k H d' v':=by
 unfold IsL at h;obtain⟨v,vs',rfl,h1,h2⟩:=h;obtain⟨v',rfl,h3⟩:=FJ h2;exact⟨v,v',rfl,h1,h3⟩
theorem Wu{i:Int}{vs:List V}{k:Nat}(h:IsL K Y k H ds vs)(e:atI ds i=some d):∃v,atI vs i=some v/\Is K Y k H d v:=by
 unfold atI at e ⊢;rw[h.length];cases q:ixN ds.length i with
 |none=>rw[q] at e;cases e
 |some j=>
  rw[q] at e;exact h.get e
theorem R7{vs:List V}{k:Nat}{lo hi:Option Int}(h:IsL K Y k H ds vs):IsL K Y k H ((ds.drop (HT.sIx ds.length 0 lo)).take (HT.sIx ds.length ds.length hi-HT.sIx ds.length 0 lo)) (Ln vs lo hi):=by
 unfold Ln;rw[h.length];exact(h.drop _).take _
end
noncomputable def KO(C:Int->Int->Prop)[∀i j,Decidable (C i j)](g:Int->Int->D):D->D->M D
 | .int i,.int j=>λZ=>if C i j then some (g i j,Z) else none
 |_,_=>Bb
noncomputable def Dk:D->D->M D:=KO (λ_ _=>True) λi j=>.int (i-j)
noncomputable def BO:D->D->M D:=KO (λ_ j=>0<j/\j<1073741824) λi j=>.int (i / j)
noncomputable def Ba:D->D->M D:=KO (λ_ j=>0<j) λi j=>.int (i % j)
noncomputable def Iz:D->D->M D:=KO (λi j=>0<=j/\j<=1000000/\i.natAbs<2 ^ 64) λi j=>.int (i ^ j.toNat)
noncomputable def OX:D->D->M D:=KO (λ_ _=>True) λi j=>.bl (decide (i<j))
noncomputable def IW:D->D->M D:=KO (λ_ _=>True) λi j=>.bl (decide (i<=j))
noncomputable def OY:D->D->M D:=KO (λ_ _=>True) λi j=>.bl (decide (j<i))
noncomputable def MZ:D->D->M D:=KO (λ_ _=>True) λi j=>.bl (decide (j<=i))
section
variable{X:Cx}
theorem Ek{f:Value->Value->Sem Value}{C:Int->Int->Prop}[∀i j,Decidable (C i j)]{g:Int->Int->D}{gv:Int->Int->V}(hg:∀i j Y k H,Is X.kw Y k H (g i j) (gv i j))(ho:OpR X f (rI C gv)):OpR X f (rM X.kw (KO C g)):=OpR.wk ho λx y H Q h=>by
 obtain⟨Y,Z,a,b,d,Z',R,ia,ib,e,q⟩:=h;cases a with
 |int i=>
  cases b with
  |int j=>
   have e':(if C i j then some (g i j,Z) else none)=some (d,Z'):=e;split at e'
   ·rename_i hc;cases e';exact⟨i,j,B2 ia,B2 ib,hc,q Y H R.ext0 R _ (hg i j _ _ _)⟩
   ·cases e'
  |_=>cases e
 |_=>cases e
theorem OpR.ofI0{f:Value->Value->Sem Value}{gv:Int->Int->V}(ho:OpR X f (rI0 gv)):OpR X f (rI (λ_ _=>True) gv):=OpR.wk ho λx y H Q h=>by
 obtain⟨i,j,h1,h2,_,q⟩:=h;exact⟨i,j,h1,h2,q⟩
theorem Hb:OpR X (binaryOp .Sub) (rM X.kw Dk):=Ek (λ_ _ _ _ _=>ofI _) (OpR.ofI0 V4)
theorem Cz:OpR X (binaryOp .FloorDiv) (rM X.kw BO):=Ek (λ_ _ _ _ _=>ofI _) T4
theorem Dl:OpR X (binaryOp .Mod) (rM X.kw Ba):=Ek (λ_ _ _ _ _=>ofI _) V9
theorem Ut:OpR X (binaryOp .Pow) (rM X.kw Iz):=Ek (λ_ _ _ _ _=>ofI _) V6
theorem Xp:OpR X (compareOp .Lt) (rM X.kw OX):=Ek (λ_ _ _ _ _=>ofB _) (OpR.ofI0 Xi)
theorem T8:OpR X (compareOp .LtE) (rM X.kw IW):=Ek (λ_ _ _ _ _=>ofB _) (OpR.ofI0 Xj)
theorem Xs:OpR X (compareOp .Gt) (rM X.kw OY):=Ek (λ_ _ _ _ _=>ofB _) (OpR.ofI0 Xk)
theorem Xu:OpR X (compareOp .GtE) (rM X.kw MZ):=Ek (λ_ _ _ _ _=>ofB _) (OpR.ofI0 Xl)
noncomputable def Us:D->M D
 | .int i=>ret (.int (-i))
 |_=>Bb
theorem Xo:UnR X (unaryOp .USub) (rM1 X.kw Us):=λw4 s O H x v Q I r h=>by
 obtain⟨Y,Z,a,d,Z',R,ia,e,q⟩:=h;cases a with
 |int i=>
  cases e;have z:=B2 ia;subst z;exact VO w4 s O H _ v Q I r ⟨i,rfl,q Y H R.ext0 R _ (ofI _)⟩
 |_=>cases e
noncomputable def QR:D->D->M D
 | .int i,.int j=>ret (.int (i+j))
 | .str i,.str j=>bnd (lim (i.length+j.length)) λ_=>ret (.str (i++j))
 | .lst a,.lst b=>BT (a++b)
 | .tup [],.tup b=>Bb
 | .tup (a::as),.tup b=>Ax (a::as++b)
 |_,_=>Bb
theorem Xv:OpR X (binaryOp .Add) (rM X.kw QR):=λw4 s O H x y v u Q I rx ry h=>by
 obtain⟨Y,Z,a,b,d,Z',R,ia,ib,e,q⟩:=h;unfold QR at e;split at e
 ·cases e;cases B2 ia;cases B2 ib;exact WD w4 s O H _ _ v u Q I rx ry ⟨_,_,rfl,rfl,q Y H R.ext0 R _ (ofI _)⟩
 ·obtain⟨_,w5,e1,e2⟩:=AF e;obtain⟨hl,rfl⟩:=D4 e1;cases e2;cases EL ia;cases EL ib;exact Mc w4 s O H _ _ v u Q I rx ry ⟨_,_,rfl,rfl,hl,q Y H R.ext0 R _ (ofS _)⟩
 ·unfold Is at ia ib;obtain⟨p,vs,rfl,h1,hn,h2⟩:=ia;obtain⟨p',vs',rfl,h1',hn',h2'⟩:=ib;obtain⟨hl,w⟩:=Gw R (h2.append h2') e q;exact WC w4 s O H _ _ v u Q I rx ry ⟨p,p',vs,vs',rfl,rfl,h1,h1',by rw[←AAG];exact hl,w⟩
 ·cases e
 ·rename_i a as bs;unfold Is at ia ib;obtain⟨p,vs,rfl,h1,h2⟩:=ia;obtain⟨p',vs',rfl,h1',h2'⟩:=ib;obtain⟨hl,w⟩:=NY R (h2.append h2') e q;refine T5 w4 s O H _ _ v u Q I rx ry ⟨p,p',vs,vs',rfl,rfl,h1,h1',λz=>?_,by rw[←AAG];exact hl,λz=>?_,λ_=>w⟩
  ·have:=h2.length;rw[z] at this;cases this
  ·subst z;have hb:bs=[]:=by
    have:=h2'.length;cases bs with
    |nil=>rfl
    |cons _ _=>cases this
   subst hb;obtain⟨_,w5,e1,e2⟩:=AF e;obtain⟨hl,rfl⟩:=D4 e1;cases e2;exact q Y H R.ext0 R _ (by unfold Is;exact⟨p,vs,rfl,h1,by rw[AAa];exact h2⟩)
 ·cases e
noncomputable def GZ:D->D->M D
 | .int i,.int j=>λZ=>if (-(2 ^ 64)<i/\i<2 ^ 64)∨(-(2 ^ 64)<j/\j<2 ^ 64) then some (.int (i * j),Z) else none
 | .lst a,.int j=>λZ=>if -(2 ^ 63)<=j/\j<2 ^ 63/\a.length * j.toNat<=sizeLine then BT (List.replicate j.toNat a).flatten Z else none
 |_,_=>Bb
theorem IsL.rep{K:KW}{Y:Nat->Addr}{k:Nat}{H:Hp}{ds:List D}{vs:List V}(h:IsL K Y k H ds vs):∀n:Nat,IsL K Y k H (List.replicate n ds).flatten (List.replicate n vs).flatten
 |0=>.nil
 |n+1=>by
  rw[AAm,AAm,List.flatten_cons,List.flatten_cons];exact h.append (IsL.rep h n)
theorem LM:OpR X (binaryOp .Mult) (rM X.kw GZ):=λw4 s O H x y v u Q I rx ry h=>by
 obtain⟨Y,Z,a,b,d,Z',R,ia,ib,e,q⟩:=h;unfold GZ at e;split at e
 ·split at e
  ·rename_i hc;cases e;cases B2 ia;cases B2 ib;exact V8 w4 s O H _ _ v u Q I rx ry ⟨_,_,rfl,rfl,hc,q Y H R.ext0 R _ (ofI _)⟩
  ·cases e
 ·split at e
  ·rename_i hc;cases B2 ib;unfold Is at ia;obtain⟨p,vs,rfl,h1,hn,h2⟩:=ia;obtain⟨hl,w⟩:=Gw R (h2.rep _) e q;exact V5 w4 s O H _ _ v u Q I rx ry ⟨p,_,vs,rfl,rfl,h1,hc.1,hc.2.1,by rw[h2.length];exact hc.2.2,w⟩
  ·cases e
 ·cases e
mutual
def toP(Z:Mh):D->Option PyData
 | .non=>some .none
 | .bl b=>some (.bool b)
 | .int i=>some (.int i)
 | .str x=>some (.str x)
 | .ty _=>none
 | .scr ns=>some (.list (ns.map PyData.int))
 | .tup ds=>(FV Z ds).map PyData.tuple
 | .lst ds=>(FV Z ds).map PyData.list
 | .ref _=>none
def FV(Z:Mh):List D->Option (List PyData)
 |[]=>some []
 |d::ds=>(toP Z d).bind λp=>(FV Z ds).map (p::·)
end
noncomputable def ML(Z:Mh):D->Option PyData
 | .ref n=>match Z[n]? with
  |some (.lst ds)=>(FV Z ds).map PyData.list
  |_=>none
 |d=>toP Z d
section
variable{K:KW}{Y:Nat->Addr}{Z:Mh}{H:Hp}{k:Nat}
theorem Nx:∀(ns:List Int),DatVs K H (ns.map V.int) (ns.map PyData.int)
 |[]=>.nil
 |n::r=>.cons (.int n) (Nx r)
mutual
theorem Is.dat:∀{d:D} {v:V} {p:PyData},Is K Y k H d v->toP Z d=some p->DatV K H v p
 | .non,_,_,h,e=>by unfold Is at h;unfold toP at e;cases e;subst h;exact .non
 | .bl b,_,_,h,e=>by unfold Is at h;unfold toP at e;cases e;subst h;exact .bl b
 | .int b,_,_,h,e=>by unfold Is at h;unfold toP at e;cases e;subst h;exact .int b
 | .str b,_,_,h,e=>by unfold Is at h;unfold toP at e;cases e;subst h;exact .str b
 | .ty b,_,_,h,e=>by unfold toP at e;cases e
 | .scr ns,_,_,h,e=>by
  unfold Is at h;unfold toP at e;cases e;obtain⟨p,rfl,h⟩:=h;exact .lst h.sq (Nx ns)
 | .tup ds,_,_,h,e=>by
  unfold Is at h;unfold toP at e;obtain⟨p,vs,rfl,h1,h2⟩:=h;cases q:FV Z ds with
  |none=>rw[q] at e;cases e
  |some ps=>rw[q] at e;cases e;exact .tup h1 (IsL.dat h2 q)
 | .lst ds,_,_,h,e=>by
  unfold Is at h;unfold toP at e;obtain⟨p,vs,rfl,h1,_,h2⟩:=h;cases q:FV Z ds with
  |none=>rw[q] at e;cases e
  |some ps=>rw[q] at e;cases e;exact .lst (SqL.of h1) (IsL.dat h2 q)
 | .ref n,_,_,h,e=>by unfold toP at e;cases e
theorem IsL.dat:∀{ds:List D} {vs:List V} {ps:List PyData},IsL K Y k H ds vs->FV Z ds=some ps->DatVs K H vs ps
 |[],_,_,h,e=>by unfold IsL at h;unfold FV at e;cases e;subst h;exact .nil
 |d::ds,_,_,h,e=>by
  unfold IsL at h;unfold FV at e;obtain⟨v,vs',rfl,h1,h2⟩:=h;cases q:toP Z d with
  |none=>rw[q] at e;cases e
  |some p=>
   rw[q] at e;cases q2:FV Z ds with
   |none=>rw[q2] at e;cases e
   |some ps=>rw[q2] at e;cases e;exact .cons (Is.dat h1 q) (IsL.dat h2 q2)
end
theorem Ub(R:RelH K Y Z H){d:D}{v:V}{p:PyData}(h:Is K Y Z.length H d v)(e:ML Z d=some p):DatV K H v p:=by
 cases d with
 |ref n=>
  unfold Is at h;obtain⟨_,rfl⟩:=h;have e':(match Z[n]? with|some (.lst ds)=>(FV Z ds).map PyData.list|_=>none)=some p:=e;split at e'
  ·rename_i ds hq;obtain⟨u,h1,vs,rfl,h2⟩:=R.obj n _ hq;cases q:FV Z ds with
   |none=>rw[q] at e';cases e'
   |some ps=>rw[q] at e';cases e';exact .lst (SqL.of h1) (IsL.dat h2 q)
  ·cases e'
 |_=>exact Is.dat (Z:=Z) h e
end
noncomputable def JA(neg:Bool)(a b:D):M D:=λZ=>match ML Z a,ML Z b with
 |some p,some q=>if SeqAt.shaped p=true/\SeqAt.shaped q=true then some (.bl (if neg then !PyData.eqv p q else PyData.eqv p q),Z) else none
 |_,_=>none
noncomputable def AY:D->D->M D:=JA false
noncomputable def EY:D->D->M D:=JA true
theorem HX{neg:Bool}{a b d:D}{Z Z':Mh}(e:JA neg a b Z=some (d,Z')):∃p q,ML Z a=some p/\ML Z b=some q/\SeqAt.shaped p=true/\SeqAt.shaped q=true/\d=.bl (if neg then !PyData.eqv p q else PyData.eqv p q)/\Z'=Z:=by
 unfold JA at e;split at e
 ·rename_i p q e1 e2;split at e
  ·rename_i h;cases e;exact⟨p,q,e1,e2,h.1,h.2,rfl,rfl⟩
  ·cases e
 ·cases e
theorem Ca{k:Nat}(hr:Room k X.A):OpR X (compareOp .Eq) (rM X.kw AY):=OpR.wk (WB (P9 hr)) λx y H Q h=>by
 obtain⟨Y,Z,a,b,d,Z',R,ia,ib,e,q⟩:=h;obtain⟨p,p',e1,e2,s1,s2,rfl,rfl⟩:=HX e;exact⟨p,p',Ub R ia e1,Ub R ib e2,s1,s2,q Y H R.ext0 R _ (ofB _)⟩
theorem Qq{k:Nat}(hr:Room k X.A):OpR X (compareOp .NotEq) (rM X.kw EY):=OpR.wk (V7 (P9 hr)) λx y H Q h=>by
 obtain⟨Y,Z,a,b,d,Z',R,ia,ib,e,q⟩:=h;obtain⟨p,p',e1,e2,s1,s2,rfl,rfl⟩:=HX e;exact⟨p,p',Ub R ia e1,Ub R ib e2,s1,s2,q Y H R.ext0 R _ (ofB _)⟩
noncomputable def isN:D->Bool
 | .non=>true
 |_=>false
noncomputable def IX(neg:Bool):D->D->M D
 |a,.non=>ret (.bl (if neg then !isN a else isN a))
 |_,_=>Bb
theorem Nj{K:KW}{Y:Nat->Addr}{k:Nat}{H:Hp}{a:D}{x:V}(h:Is K Y k H a x):decide (x=V.non)=isN a:=by
 cases a with
 |non=>unfold Is at h;subst h;rfl
 |bl b=>unfold Is at h;subst h;rfl
 |int b=>unfold Is at h;subst h;rfl
 |str b=>unfold Is at h;subst h;rfl
 |ty b=>unfold Is at h;subst h;rfl
 |scr ns=>unfold Is at h;obtain⟨p,rfl,_⟩:=h;rfl
 |tup ns=>unfold Is at h;obtain⟨p,o,rfl,_⟩:=h;rfl
 |lst ns=>unfold Is at h;obtain⟨p,o,rfl,_⟩:=h;rfl
 |ref ns=>unfold Is at h;obtain⟨_,rfl⟩:=h;rfl
theorem Xq:OpR X (compareOp .Is) (rM X.kw (IX false)):=OpR.wk WA λx y H Q h=>by
 obtain⟨Y,Z,a,b,d,Z',R,ia,ib,e,q⟩:=h;cases b with
 |non=>cases e;exact⟨Mm ib,by rw[Nj ia];exact q Y H R.ext0 R _ (ofB _)⟩
 |_=>cases e
theorem T9:OpR X (compareOp .IsNot) (rM X.kw (IX true)):=OpR.wk T3 λx y H Q h=>by
 obtain⟨Y,Z,a,b,d,Z',R,ia,ib,e,q⟩:=h;cases b with
 |non=>cases e;exact⟨Mm ib,by rw[Nj ia];exact q Y H R.ext0 R _ (ofB _)⟩
 |_=>cases e
noncomputable def FR:D->Option V
 | .non=>some .non
 | .bl b=>some (.bl b)
 | .int i=>some (.int i)
 | .str x=>some (.str x)
 |_=>none
noncomputable def DL:List D->Option (List V)
 |[]=>some []
 |d::ds=>(FR d).bind λv=>(DL ds).map (v::·)
section
variable{K:KW}{Y:Nat->Addr}{H:Hp}{k:Nat}
theorem F2{d:D}{v x:V}(h:Is K Y k H d x)(e:FR d=some v):x=v/\DF v=true:=by
 cases d with
 |non=>cases e;unfold Is at h;exact⟨h,rfl⟩
 |bl b=>cases e;unfold Is at h;exact⟨h,rfl⟩
 |int b=>cases e;unfold Is at h;exact⟨h,rfl⟩
 |str b=>cases e;unfold Is at h;exact⟨h,rfl⟩
 |_=>cases e
theorem FF:∀{ds:List D} {vs xs:List V},IsL K Y k H ds xs->DL ds=some vs->xs=vs/\vs.all DF=true
 |[],_,_,h,e=>by cases e;unfold IsL at h;exact⟨h,rfl⟩
 |d::ds,_,_,h,e=>by
  unfold IsL at h;obtain⟨v,vs',rfl,h1,h2⟩:=h;unfold DL at e;cases q:FR d with
  |none=>rw[q] at e;cases e
  |some w=>
   rw[q] at e;cases q2:DL ds with
   |none=>rw[q2] at e;cases e
   |some ws=>
    rw[q2] at e;cases e;obtain⟨rfl,f1⟩:=F2 h1 q;obtain⟨rfl,f2⟩:=FF h2 q2;exact⟨rfl,by rw[List.all_cons,f1,f2];rfl⟩
end
noncomputable def BP:D->M (List D)
 | .tup ds=>ret ds
 |d=>CL d
theorem DU{K:KW}{Y:Nat->Addr}{Z Z':Mh}{H:Hp}{d:D}{v:V}{ds:List D}(R:RelH K Y Z H)(i:Is K Y Z.length H d v)(e:BP d Z=some (ds,Z')):Z'=Z/\∃p vs,v=.ref p/\(SqL K H p vs∨SqT K H p vs)/\IsL K Y Z.length H ds vs:=by
 cases d with
 |tup es=>
  cases e;unfold Is at i;obtain⟨p,vs,rfl,h1,h2⟩:=i;exact⟨rfl,p,vs,rfl,.inr h1,h2⟩
 |lst es=>obtain⟨h,p,vs,a,b,c⟩:=C8 R i e;exact⟨h,p,vs,a,.inl b,c⟩
 |scr es=>obtain⟨h,p,vs,a,b,c⟩:=C8 R i e;exact⟨h,p,vs,a,.inl b,c⟩
 |ref es=>obtain⟨h,p,vs,a,b,c⟩:=C8 R i e;exact⟨h,p,vs,a,.inl b,c⟩
 |_=>cases e
noncomputable def Fz(neg:Bool)(a b:D):M D:=bnd (BP b) λds=>λZ=>match FR a,DL ds with
 |some x,some xs=>some (.bl (if neg then !inV x xs else inV x xs),Z)
 |_,_=>none
noncomputable def Dq(neg:Bool):D->D->M D
 | .str i,.str j=>ret (.bl (if neg then !(!(Builtin.Str.occurrences j i 0 j.length 1).isEmpty) else !(Builtin.Str.occurrences j i 0 j.length 1).isEmpty))
 |a,b=>Fz neg a b
theorem QQ{K:KW}{neg:Bool}{x y:V}{H:Hp}{Q:VK}{Y:Nat->Addr}{Z Z':Mh}{a b d:D}(R:RelH K Y Z H)(ia:Is K Y Z.length H a x)(ib:Is K Y Z.length H b y)(e:Fz neg a b Z=some (d,Z'))(q:Aft K Y Z H Z' λY' H'=>∀v,Is K Y' Z'.length H' d v->Q v H'):rIn K neg x y H Q:=by
 obtain⟨ds,w5,e1,e2⟩:=AF e;obtain⟨hm,p,vs,rfl,h1,h2⟩:=DU R ib e1;subst hm;split at e2
 ·rename_i w ws q1 q2;cases e2;obtain⟨rfl,f1⟩:=F2 ia q1;obtain⟨rfl,f2⟩:=FF h2 q2;exact⟨p,_,rfl,h1,f1,f2,q Y H R.ext0 R _ (ofB _)⟩
 ·cases e2
theorem Xr:OpR X (compareOp .In) (rM X.kw (Dq false)):=λw4 s O H x y v u Q I rx ry h=>by
 obtain⟨Y,Z,a,b,d,Z',R,ia,ib,e,q⟩:=h;unfold Dq at e;split at e
 ·cases e;cases EL ia;cases EL ib;exact Od w4 s O H _ _ v u Q I rx ry ⟨_,_,rfl,rfl,q Y H R.ext0 R _ (ofB _)⟩
 ·exact Oe w4 s O H _ _ v u Q I rx ry (QQ R ia ib e q)
theorem KD:OpR X (compareOp .NotIn) (rM X.kw (Dq true)):=λw4 s O H x y v u Q I rx ry h=>by
 obtain⟨Y,Z,a,b,d,Z',R,ia,ib,e,q⟩:=h;unfold Dq at e;split at e
 ·cases e;cases EL ia;cases EL ib;exact KB w4 s O H _ _ v u Q I rx ry ⟨_,_,rfl,rfl,q Y H R.ext0 R _ (ofB _)⟩
 ·exact KC w4 s O H _ _ v u Q I rx ry (QQ R ia ib e q)
noncomputable def ixD(ds:List D)(i:Int):M D:=λZ=>(atI ds i).map λd=>(d,Z)
noncomputable def AL:D->D->M D
 | .str z,.int i=>λZ=>if z.length<=sizeLine then (atI z.cps.toList i).map λc=>(.str ⟨#[c]⟩,Z) else none
 |a,.int i=>bnd (BP a) λds=>ixD ds i
 |_,_=>Bb
theorem AX:IxR X (rM X.kw AL):=λva sl w4 s O H x y v u Q I rx ry h hsl=>by
 obtain⟨Y,Z,a,b,d,Z',R,ia,ib,e,q⟩:=h;unfold AL at e;split at e
 ·split at e
  ·rename_i z i hl;cases EL ia;cases B2 ib;cases qq:atI z.cps.toList i with
   |none=>rw[qq] at e;cases e
   |some c=>
    rw[qq] at e;cases e;exact Ml va sl w4 s O H _ _ v u Q I rx ry (.inr (.inr ⟨z,i,c,rfl,rfl,hl,qq,q Y H R.ext0 R _ (ofS _)⟩)) hsl
  ·cases e
 ·cases B2 ib;obtain⟨ds,w5,e1,e2⟩:=AF e;obtain⟨hm,p,vs,rfl,h1,h2⟩:=DU R ia e1;subst hm;rename_i i _;unfold ixD at e2;cases qq:atI ds i with
  |none=>rw[qq] at e2;cases e2
  |some c=>
   rw[qq] at e2;cases e2;obtain⟨w,ew,iw⟩:=Wu h2 qq;rcases h1 with h1|h1
   ·exact Ml va sl w4 s O H _ _ v u Q I rx ry (.inl ⟨p,vs,i,w,rfl,rfl,h1,ew,q Y H R.ext0 R _ iw⟩) hsl
   ·exact Ml va sl w4 s O H _ _ v u Q I rx ry (.inr (.inl ⟨p,vs,i,w,rfl,rfl,h1,ew,q Y H R.ext0 R _ iw⟩)) hsl
 ·cases e
noncomputable def Bo:List D->M D
 |[.str z]=>λZ=>if z.length<=sizeLine then some (.int z.length,Z) else none
 |[.ref n]=>λZ=>match Z[n]? with
  |some (.lst ds)=>some (.int ds.length,Z)
  |_=>none
 |[d]=>bnd (BP d) λds=>ret (.int ds.length)
 |_=>Bb
theorem EB:CA X (.builtin "len") (rMA X.kw Bo):=λw4 s O H xs us Q I r h=>by
 obtain⟨Y,Z,as,d,Z',R,ia,e,q⟩:=h;refine SE w4 s O H xs us Q I r ?_;unfold Bo at e;split at e
 ·rename_i z;obtain⟨v,rfl,i1⟩:=FJ ia;split at e
  ·rename_i hl;cases e;cases EL i1;exact⟨_,_,rfl,⟨hl,rfl⟩,q Y H R.ext0 R _ (ofI _)⟩
  ·cases e
 ·rename_i n;obtain⟨v,rfl,i1⟩:=FJ ia;unfold Is at i1;obtain⟨_,rfl⟩:=i1;split at e
  ·rename_i ds hq;cases e;obtain⟨u,h1,vs,rfl,h2⟩:=R.obj n _ hq;exact⟨_,_,rfl,.inl ⟨vs,SqL.of h1,rfl⟩,by rw[h2.length];exact q Y H R.ext0 R _ (ofI _)⟩
  ·cases e
 ·obtain⟨v,rfl,i1⟩:=FJ ia;obtain⟨ds,w5,e1,e2⟩:=AF e;obtain⟨hm,p,vs,rfl,h1,h2⟩:=DU R i1 e1;subst hm;cases e2;rw[←h2.length] at q;rcases h1 with h1|h1
  ·exact⟨_,_,rfl,.inl ⟨vs,h1,rfl⟩,q Y H R.ext0 R _ (ofI _)⟩
  ·exact⟨_,_,rfl,.inr ⟨vs,h1,rfl⟩,q Y H R.ext0 R _ (ofI _)⟩
 ·cases e
noncomputable def Cr(ds:List D)(lo hi:Option Int):List D:=(ds.drop (HT.sIx ds.length 0 lo)).take (HT.sIx ds.length ds.length hi-HT.sIx ds.length 0 lo)
noncomputable def XX(lo hi:Option Int):D->M D
 | .tup ds=>if HT.sIx ds.length 0 lo=0/\HT.sIx ds.length ds.length hi=ds.length then Bb else ret (.tup (Cr ds lo hi))
 |d=>bnd (CL d) λds=>ret (.lst (Cr ds lo hi))
noncomputable def rMS(K:KW):V->Option Int->Option Int->Hp->VK->Prop:=λx lo hi H Q=>∃Y Z a d Z',RelH K Y Z H/\Is K Y Z.length H a x/\XX lo hi a Z=some (d,Z') /\
 Aft K Y Z H Z' λY' H'=>∀v,Is K Y' Z'.length H' d v->Q v H'
theorem RF{K:KW}{Y:Nat->Addr}{Z:Mh}{H:Hp}{ds:List D}{vs:List V}{Q:VK}(R:RelH K Y Z H)(i:IsL K Y Z.length H ds vs)(q:Aft K Y Z H Z λY' H'=>∀v,Is K Y' Z.length H' (.lst ds) v->Q v H')(p:Addr)(hp:H p=none):Q (.ref p) (upd H p (.lst vs)):=by
 obtain⟨E1,R1⟩:=R.laid (.lst vs) hp;have ho:∀n,n<Z.length->Y n≠p:=λn hn z=>by
  obtain⟨o,e,_⟩:=R.muts n hn;rw[z,hp] at e;cases e
 exact q Y _ E1 R1 _ (by unfold Is;exact⟨p,vs,rfl,BZ,ho,i.ext E1⟩)
theorem Nf{K:KW}{Y:Nat->Addr}{Z:Mh}{H:Hp}{ds:List D}{vs:List V}{Q:VK}(R:RelH K Y Z H)(i:IsL K Y Z.length H ds vs)(q:Aft K Y Z H Z λY' H'=>∀v,Is K Y' Z.length H' (.tup ds) v->Q v H')(p:Addr)(hp:H p=none):Q (.ref p) (upd H p (.tup vs)):=by
 obtain⟨E1,R1⟩:=R.laid (.tup vs) hp;exact q Y _ E1 R1 _ (by unfold Is;exact⟨p,vs,rfl,SqT.of BZ,i.ext E1⟩)
theorem Yl:SlR X (rMS X.kw):=λw4 s O H x v vl vu lo hi sl Q I rx hs pl pu h=>by
 obtain⟨Y,Z,a,d,Z',R,ia,e,q⟩:=h;refine(SlR.or TM Vd) w4 s O H x v vl vu lo hi sl Q I rx hs pl pu ?_;unfold XX at e;split at e
 ·rename_i ds;unfold Is at ia;obtain⟨p,vs,rfl,h1,h2⟩:=ia;split at e
  ·cases e
  ·rename_i hc;cases e;exact .inr ⟨p,vs,rfl,h1,by rw[h2.length];exact hc,λp hp=>Nf R (R7 h2) q p hp⟩
 ·obtain⟨ds,w5,e1,e2⟩:=AF e;obtain⟨hm,p,vs,rfl,h1,h2⟩:=C8 R ia e1;subst hm;cases e2;exact .inl ⟨p,vs,rfl,h1,λp hp=>RF R (R7 h2) q p hp⟩
noncomputable def Cb:Sl->M (Option Int):=λ_=>ret none
noncomputable def asI:D->M (Option Int)
 | .int i=>ret (some i)
 |_=>Bb
noncomputable def Ch(m:Sl->M D):Sl->M (Option Int):=λB=>bnd (m B) asI
noncomputable def tPt(K:KW)(m:Sl->M (Option Int)):TO:=λO H Q=>∃Y Z B b Z',RelH K Y Z H/\RelS K Y Z.length H B O/\m B Z=some (b,Z')/\Aft K Y Z H Z' λ_ H'=>Q b H'
structure RO(X:Cx)(e:Option Expr)(m:Sl->M (Option Int)):Prop where
 pe:PO X e (tPt X.kw m)
theorem PO.wk{e:Option Expr}{t t':TO}(h:PO X e t)(w:∀O H Q,t' O H Q->t O H Q):PO X e t':=λw4 s O H Q I q=>h w4 s O H Q I (w O H Q q)
theorem RO.wk{e:Option Expr}{m:Sl->M (Option Int)}{t:TO}(h:PO X e t)(w:∀O H Q,tPt X.kw m O H Q->t O H Q):RO X e m:=⟨PO.wk h w⟩
theorem DR:RO X none Cb:=RO.wk Tu λO H Q h=>by
 obtain⟨Y,Z,B,b,Z',R,S,e,q⟩:=h;cases e;exact q Y H R.ext0 R
theorem CZ{e:Expr}{m:Sl->M D}(h:RE X e m):RO X (some e) (Ch m):=RO.wk (Tt h.pe) λO H Q h=>by
 obtain⟨Y,Z,B,b,Z',R,S,e,q⟩:=h;obtain⟨x,w5,e1,e⟩:=AF e;refine⟨Y,Z,B,x,w5,R,S,e1,λx4 H1 E1 R1 v i1=>?_⟩;cases x with
 |int i=>cases e;exact⟨i,B2 i1,q x4 H1 E1 R1⟩
 |_=>cases e
noncomputable def tyD(Z:Mh):D->Option String
 | .non=>some "NoneType"
 | .bl _=>some "bool"
 | .int _=>some "int"
 | .str _=>some "str"
 | .tup _=>some "tuple"
 | .lst _=>some "list"
 | .scr _=>none
 | .ref n=>match Z[n]? with
  |some (.lst _)=>some "list"
  |some (.dK _)=>some "dict"
  |some (.dC _)=>none
  |some (.ins _ _)=>none
  |some (.dP _)=>none
  |some (.exc _ _)=>none
  |none=>none
 | .ty _=>none
noncomputable def EV(t T:String):Option Bool:=
 if t∈["NoneType", "bool", "int", "str", "tuple", "list", "dict"]/\T∈["bool", "int", "str", "tuple", "list", "dict"] then some (t==T||(t == "bool" && T == "int")) else none
theorem UL{K:KW}{t T:String}{b:Bool}(h:EV t T=some b):PySem.W.kitOne K (.type t) (.type T)=some b:=by
 unfold EV at h;split at h
 ·rename_i hm;obtain⟨h1,h2⟩:=hm;simp only[AAI,List.not_mem_nil,or_false] at h1 h2;rcases h1 with rfl|rfl|rfl|rfl|rfl|rfl|rfl<;>rcases h2 with rfl|rfl|rfl|rfl|rfl|rfl<;>(cases h;kernel_rfl)
 ·cases h
noncomputable def D5:List D->M D
 |[a,.ty T]=>λZ=>match tyD Z a with
  |some t=>(EV t T).map λb=>(.bl b,Z)
  |none=>none
 |_=>Bb
theorem Ka:CA X (.builtin "isinstance") (rMA X.kw D5):=λw4 s O H xs us Q I r h=>by
 obtain⟨Y,Z,as,d,Z',R,ia,e,q⟩:=h;unfold D5 at e;split at e
 ·rename_i a T;obtain⟨v,v',rfl,i1,i2⟩:=Yu ia;cases X7 i2;split at e
  ·rename_i t ht;cases hk:EV t T with
   |none=>rw[hk] at e;cases e
   |some b=>
    rw[hk] at e;cases e;have kit:=UL (K:=X.kw) hk;have fin:=q Y H R.ext0 R _ (ofB b);have byTy:GE X.kw H v (.type t)->wpAny (model X.prog X.w) X.A (call (.builtin "isinstance") us) (EP X w4 O Q) X.xe s:=λty=>
     Lx w4 s O H _ us Q I r ⟨v,T,_,b,rfl,ty,kit,fin⟩
    cases a with
    |non=>cases ht;cases Mm i1;exact byTy .non
    |bl x=>cases ht;cases RU i1;exact byTy (.bl x)
    |int x=>cases ht;cases B2 i1;exact byTy (.int x)
    |str x=>cases ht;cases EL i1;exact byTy (.str x)
    |ty n=>cases ht
    |lst ds=>cases ht;unfold Is at i1;obtain⟨p,vs,rfl,h1,_⟩:=i1;exact byTy (.lst h1)
    |scr ns=>cases ht
    |ref n=>
     unfold Is at i1;obtain⟨_,rfl⟩:=i1;have ht:(match Z[n]? with|some (.lst _)=>some "list" |some (.dK _)=>some "dict" |some (.dC _)=>none|some (.ins _ _)=>none|some (.dP _)=>none|some (.exc _ _)=>none|none=>none)=some t:=ht;split at ht
     ·rename_i ds hq;cases ht;obtain⟨u,h1,vs,rfl,h2⟩:=R.obj n _ hq;exact byTy (.lst h1)
     ·rename_i ds hq;cases ht;obtain⟨u,h1,vs,rfl,h2⟩:=R.obj n _ hq;exact byTy (.dK h1)
     ·cases ht
     ·cases ht
     ·cases ht
     ·cases ht
     ·cases ht
    |tup ds=>
     cases ht;unfold Is at i1;obtain⟨p,vs,rfl,h1,h2⟩:=i1;obtain⟨its,_,⟨o,g1,g2,_⟩,_⟩:=I.tuple h1;obtain⟨u1,u2,rfl,r1,r2⟩:=Vals.two r;cases r1;cases r2;exact PySem.W.kia_one PySem.W.kitx_tuple I.kIn ⟨o,g1,g2⟩ kit (λz=>nomatch z) λtk=>⟨.bl b,H,I.tok _,rfl,fin⟩
  ·cases e
 ·cases e
noncomputable def Oq:List D->M D
 |[.int i]=>ret (.int i)
 |[.bl b]=>ret (.int (if b then 1 else 0))
 |_=>Bb
theorem VA:CA X (.type "int") (rMA X.kw Oq):=λw4 s O H xs us Q I r h=>by
 obtain⟨Y,Z,as,d,Z',R,ia,e,q⟩:=h;refine PD w4 s O H xs us Q I r ?_;unfold Oq at e;split at e
 ·obtain⟨v,rfl,i1⟩:=FJ ia;cases e;cases B2 i1;exact .inl ⟨_,rfl,q Y H R.ext0 R _ (ofI _)⟩
 ·obtain⟨v,rfl,i1⟩:=FJ ia;cases e;cases RU i1;exact .inr ⟨_,rfl,q Y H R.ext0 R _ (ofI _)⟩
 ·cases e
noncomputable def GJ:List D->M D
 |[.tup ds]=>ret (.tup ds)
 |[d]=>bnd (CL d) λds=>ret (.tup ds)
 |_=>Bb
theorem G9:CA X (.type "tuple") (rMA X.kw GJ):=λw4 s O H xs us Q I r h=>by
 obtain⟨Y,Z,as,d,Z',R,ia,e,q⟩:=h;unfold GJ at e;split at e
 ·obtain⟨v,rfl,i1⟩:=FJ ia;cases e;have i2:=i1;unfold Is at i1;obtain⟨p,vs,rfl,h1,h2⟩:=i1;exact Lu w4 s O H _ us Q I r ⟨p,vs,rfl,h1,q Y H R.ext0 R _ i2⟩
 ·obtain⟨v,rfl,i1⟩:=FJ ia;obtain⟨ds,w5,e1,e2⟩:=AF e;obtain⟨hm,p,vs,rfl,h1,h2⟩:=C8 R i1 e1;subst hm;cases e2;obtain⟨u,rfl,ru⟩:=Vals.one r;cases ru;obtain⟨its,rv,pl,hz⟩:=I.list h1;refine PySem.call_tuple_list pl.isList (λh' hk=>?_) (by rw[List.size_toArray,←rv.length];exact hz);have I1:Inv X w4 O H { s with heap:=h' }:=I.kept (t':=s.toks) hk;have I2:Inv X w4 O (upd H h'.objs.size (.tup vs)) { s with heap:=h'.push { cls:=.type "tuple",data:=.seq its.toArray } }:=I1.laid (t':=s.toks) (o:=.tup vs) (λb ob q=>AAC _ q) (AAE _) ⟨hz,its,rv,PyProof.Rows.IsTup.new _ _⟩;exact⟨.ref h'.objs.size,_,I2,rfl,Nf R h2 q _ (I1.hok.fresh (AAE _))⟩
 ·cases e
end
section
variable{X:Cx}{e a b c o i f:Expr}{es:List Expr}{pos apos cpos:Pos}
theorem P0{K:KW}{g g':D->D->M D}{ma mb mc:Sl->M D}{O:St}{H:Hp}{Q:VK}(h:tE K (Eo g g' ma mb mc) O H Q):P2 (rM K g) (rM K g') (tE K ma) (tE K mb) (tE K mc) O H Q:=by
 obtain⟨Y,Z,B,d,Z',R,S,e,q⟩:=h;obtain⟨x,w5,e1,ee1⟩:=AF e;obtain⟨y,w6,e2,ee2⟩:=AF ee1;obtain⟨z,x8,e3,ee3⟩:=AF ee2;obtain⟨k,u4,e4,ee4⟩:=AF ee3;obtain⟨hz,hm⟩:=IM e4;subst hm;subst hz;refine⟨Y,Z,B,x,w5,R,S,e1,λx4 H1 E1 R1 v1 i1=>⟨x4,w5,B,y,w6,R1,S.ext E1,e2,λx6 H2 E2 R2 v2 i2=>?_⟩⟩;refine⟨x6,w6,x,y,_,_,R2,i1.ext E2,i2,e3,λu3 H3 E3 R3 v3 i3=>⟨k,RU i3,?_⟩⟩;have E13:=(E1.trans E2).trans E3;cases k with
 |false=>cases ee4;exact q u3 H3 E13 R3 _ (ofB _)
 |true=>
  obtain⟨w,j0,e5,ee5⟩:=AF ee4;exact⟨u3,_,B,w,j0,R3,S.ext E13,e5,λu6 H4 E4 R4 v4 i4=>⟨u6,j0,y,w,d,Z',R4,i2.ext (E3.trans E4),i4,ee5,λu8 H5 E5 R5=>q u8 H5 ((E13.trans E4).trans E5) R5⟩⟩
theorem LH{op op':CmpOp}{g g':D->D->M D}{ma mb mc:Sl->M D}(ho:OpR X (compareOp op) (rM X.kw g))(ho':OpR X (compareOp op') (rM X.kw g'))(ha:RE X a ma)(hb:RE X b mb)(hc:RE X c mc)(hm:lastMarks [op,op'] [b,c]=false:=by with_unfolding_all rfl):
  RE X (.Compare a [op,op'] [b,c] pos) (Eo g g' ma mb mc):=RE.wk (Ql ho ho' ha.pe hb.pe hc.pe hm) λ_ _ _ h=>P0 h
theorem Gv{x:Str}{n:String}(hm:X.mg x=none)(hv:bootBuiltins x=some (.type n))(hg:Gl X x:=by rfl)(hn:x ≠ "__name__" := by decide)(hdb:(x==("__debug__" : Str))=false:=by decide):RE X (.Name x pos) (mC (.ty n)):=
 OV (t:=λ_ _ _=>True) (Tz (v:=.ty n) hg hm hv rfl hn hdb) λ_ _ _=>by unfold Is;rfl
noncomputable def EO(d:D):M Unit:=bnd (CL d) λ_=>ret ()
noncomputable def Ai(g:D->List D->M D)(mo:Sl->M D)(ma:Sl->M (List D)):Sl->M D:=λB=>bnd (mo B) λx=>bnd (EO x) λ_=>bnd (ma B) λxs=>g x xs
noncomputable def rMM(K:KW)(g:D->List D->M D):V->List V->Hp->VK->Prop:=λx xs H Q=>∃Y Z a as d Z',RelH K Y Z H/\Is K Y Z.length H a x/\IsL K Y Z.length H as xs/\g a as Z=some (d,Z') /\
 Aft K Y Z H Z' λY' H'=>∀v,Is K Y' Z'.length H' d v->Q v H'
theorem Ge{K:KW}{Y:Nat->Addr}{Z Z':Mh}{H:Hp}{d:D}{v:V}{u:Unit}(R:RelH K Y Z H)(i:Is K Y Z.length H d v)(e:EO d Z=some (u,Z')):Z'=Z/\tyV K "list" v H:=by
 obtain⟨ds,w5,e1,ee1⟩:=AF e;cases ee1;obtain⟨hm,p,vs,rfl,h1,h2⟩:=C8 R i e1;exact⟨hm,.inl ⟨rfl,vs,h1⟩⟩
theorem GT{Z Z':Mh}{d:D}{u:Unit}(e:EO d Z=some (u,Z')):Z'=Z:=by
 obtain⟨ds,w5,e1,ee1⟩:=AF e;cases ee1;cases d with
 |lst _=>cases e1;rfl
 |scr _=>cases e1;rfl
 |ref n=>
  have e1:(match Z[n]? with|some (.lst ds)=>some (ds,Z)|_=>none)=some (ds,Z'):=e1;split at e1
  ·cases e1;rfl
  ·cases e1
 |_=>cases e1
theorem Py{K:KW}{g:D->List D->M D}{mo:Sl->M D}{ma:Sl->M (List D)}{O:St}{H:Hp}{Q:VK}(h:tE K (Ai g mo ma) O H Q):tBM K "list" (rMM K g) (tE K mo) (tL K ma) O H Q:=by
 obtain⟨Y,Z,B,d,Z',R,S,e,q⟩:=h;obtain⟨x,w5,e1,ee1⟩:=AF e;obtain⟨u,w6,e2,ee2⟩:=AF ee1;obtain⟨as,x8,e3,ee3⟩:=AF ee2;have hm:=GT e2;subst hm;refine⟨Y,Z,B,x,_,R,S,e1,λx4 H1 E1 R1 v1 i1=>⟨(Ge R1 i1 e2).2,?_⟩⟩;refine⟨x4,_,B,as,x8,R1,S.ext E1,e3,λx6 H2 E2 R2 vs i2=>?_⟩;exact⟨x6,x8,x,as,d,Z',R2,i1.ext E2,i2,ee3,λu3 H3 E3 R3=>q u3 H3 ((E1.trans E2).trans E3) R3⟩
theorem Bw{name:Str}{id:String}{g:D->List D->M D}{mo:Sl->M D}{ma:Sl->M (List D)}(slot:Slot "list" name id)(hty:typeOf (.builtin id)=pure (.type "method_descriptor"))(hm:MtR X id (rMM X.kw g))(ho:RE X o mo)(ha:RA X (e::es) ma)
  (hbase:attributeBase o name X.env (eval o X.env)=eval o X.env:=by rfl)
  (hfew:((backTo cpos (starEach (e::es) X.env)).all (λx=>!x.1)&&(backToKw cpos (keywordEach [] X.env)).all (λx=>x.1.isSome)
   && decide ((e::es).length+([]:List Keyword).length+(if ([]:List Keyword).isEmpty then 0 else 1)<30))=true:=by rfl)
  (hline:(apos.endLine==cpos.line)=true:=by rfl) (hs:starEach (e::es) X.env=(false,eval e X.env)::starEach es X.env:=by exact A1 rfl) (hplain:(backTo cpos (starEach es X.env)).any (·.1)=false:=by exact Cu rfl) :
  RE X (.Call (.Attribute o name apos) (e::es) [] cpos) (Ai g mo ma):=RE.wk (Xf PySem.F.plainAttrs_list slot hty hm ho.pe ha.pe hbase hfew hline hs hplain) λ_ _ _ h=>Py h
noncomputable def HD(n:Nat)(k:List D->Option (D×List D)):M D:=λZ=>match Z[n]? with
 |some (.lst ds)=>(k ds).map λr=>(r.1,Z.set n (.lst r.2))
 |_=>none
theorem GI{n:Nat}{k:List D->Option (D×List D)}{Z Z':Mh}{d:D}(e:HD n k Z=some (d,Z')):∃ds es,Z[n]?=some (.lst ds)/\k ds=some (d,es)/\Z'=Z.set n (.lst es):=by
 unfold HD at e;split at e
 ·rename_i ds hq;cases hk:k ds with
  |none=>rw[hk] at e;cases e
  |some r=>rw[hk] at e;cases e;exact⟨ds,r.2,hq,hk,rfl⟩
 ·cases e
theorem Jo{K:KW}{Y:Nat->Addr}{Z:Mh}{H:Hp}{n:Nat}{d:D}{es:List D}{ws:List V}{v:V}{Q:VK}{ds:List D}(R:RelH K Y Z H)(hn:Z[n]?=some (.lst ds))(iw:IsL K Y Z.length H es ws)(iv:Is K Y Z.length H d v)
  (q:Aft K Y Z H (Z.set n (.lst es)) λY' H'=>∀v,Is K Y' (Z.set n (.lst es)).length H' d v->Q v H'):Q v (upd H (Y n) (.lst ws)):=by
 have hlt:n<Z.length:=(AAT.mp hn).1;obtain⟨E1,R1⟩:=R.changed (m:=.lst es) (o:=.lst ws) hlt ⟨ws,rfl,iw⟩;exact q Y _ E1 R1 v (iv.ext E1)
noncomputable def Co:D->List D->M D
 | .ref n,[d]=>HD n λds=>if ds.length<sizeLine then some (.non,ds++[d]) else none
 |_,_=>Bb
theorem Cf:MtR X "list.append" (rMM X.kw Co):=λw4 s O H x xs v us Q I rx rs h=>by
 obtain⟨Y,Z,a,as,d,Z',R,ia,ib,e,q⟩:=h;unfold Co at e;split at e
 ·rename_i n y;obtain⟨ds,es,h1,h2,rfl⟩:=GI e;split at h2
  ·rename_i hl;cases h2;obtain⟨w,rfl,iw⟩:=FJ ib;unfold Is at ia;obtain⟨_,rfl⟩:=ia;obtain⟨u,g1,vs,rfl,g2⟩:=R.obj n _ h1;exact Oj w4 s O H _ _ v us Q I rx rs ⟨_,vs,w,rfl,rfl,g1,by rw[g2.length];exact hl,Jo R h1 (g2.append (.one iw)) ofN q⟩
  ·cases h2
 ·cases e
noncomputable def KM:D->Option Key
 | .int i=>some (.inl i)
 | .str x=>some (.inr x)
 |_=>none
noncomputable def ET:D->M (Nat×List (Key×D))
 | .ref n=>λZ=>match Z[n]? with
  |some (.dK l)=>some ((n,l),Z)
  |_=>none
 |_=>Bb
noncomputable def DC(l:List (Key×D))(k:Key):Option D:=(l.find? λkv=>decide (kv.1=k)).map (·.2)
noncomputable def Dw(l:List (Key×D))(k:Key)(d:D):List (Key×D):=
 if (l.any λkv=>decide (kv.1=k))=true then l.map (λkv=>if kv.1=k then (kv.1,d) else kv) else l++[(k,d)]
noncomputable def WE:Sl->M D:=λ_ Z=>some (.ref Z.length,Z++[.dK []])
theorem Te:RE X (.Dict [] [] pos) WE:=RE.wk Qi λO H Q h=>by
 obtain⟨Y,Z,B,d,Z',R,S,e,q⟩:=h;cases e;intro p hp;obtain⟨Y',E1,R1,e0⟩:=R.grown (m:=.dK []) (o:=.dK []) hp ⟨[],rfl,rfl⟩;exact q Y' _ E1 R1 _ (by unfold Is;exact⟨by simp,by rw[e0]⟩)
section
variable{K:KW}{Y:Nat->Addr}{k:Nat}{H:Hp}
theorem KVs.val:∀{l:List (Key×D)} {r:List (Key×V)} (y:Key),KVs K Y k H l r->(DC l y=none/\EX r y=none)∨∃d v,DC l y=some d/\EX r y=some v/\Is K Y k H d v
 |[],_,y,h=>by cases h;exact .inl ⟨rfl,rfl⟩
 |(z,d)::l,_,y,h=>by
  obtain⟨v,r',rfl,h1,h2⟩:=h;by_cases hz:z=y
  ·subst hz;exact .inr ⟨d,v,by simp[DC],by simp[EX],h1⟩
  ·have:=KVs.val y h2;simpa[DC,EX,List.find?_cons,hz] using this
theorem KVs.any:∀{l:List (Key×D)} {r:List (Key×V)} (y:Key),KVs K Y k H l r->(l.any λkv=>decide (kv.1=y))=(r.any λkv=>decide (kv.1=y))
 |[],_,y,h=>by cases h;rfl
 |(z,d)::l,_,y,h=>by
  obtain⟨v,r',rfl,h1,h2⟩:=h;rw[List.any_cons,List.any_cons,KVs.any y h2]
theorem KVs.length:∀{l:List (Key×D)} {r:List (Key×V)},KVs K Y k H l r->r.length=l.length
 |[],_,h=>by cases h;rfl
 |(z,d)::l,_,h=>by
  obtain⟨v,r',rfl,h1,h2⟩:=h;rw[AAH,AAH,KVs.length h2]
theorem KVs.app:∀{l:List (Key×D)} {r:List (Key×V)} {y:Key} {d:D} {v:V},KVs K Y k H l r->Is K Y k H d v->KVs K Y k H (l++[(y,d)]) (r++[(y,v)])
 |[],_,y,d,v,h,h1=>by cases h;exact⟨v,[],rfl,h1,rfl⟩
 |(z,e)::l,_,y,d,v,h,h1=>by
  obtain⟨w,r',rfl,h2,h3⟩:=h;exact⟨w,_,rfl,h2,KVs.app h3 h1⟩
theorem KVs.mapPut:∀{l:List (Key×D)} {r:List (Key×V)} {y:Key} {d:D} {v:V},KVs K Y k H l r->Is K Y k H d v->KVs K Y k H (l.map λkv=>if kv.1=y then (kv.1,d) else kv) (r.map λkv=>if kv.1=y then (kv.1,v) else kv)
 |[],_,y,d,v,h,h1=>by cases h;rfl
 |(z,e)::l,_,y,d,v,h,h1=>by
  obtain⟨w,r',rfl,h2,h3⟩:=h;rw[AAW,AAW];by_cases hz:z=y
  ·subst hz;simp only[if_true];exact⟨v,_,rfl,h1,KVs.mapPut h3 h1⟩
  ·simp only[hz,if_false];exact⟨w,_,rfl,h2,KVs.mapPut h3 h1⟩
theorem KVs.put{l:List (Key×D)}{r:List (Key×V)}{y:Key}{d:D}{v:V}(h:KVs K Y k H l r)(h1:Is K Y k H d v):KVs K Y k H (Dw l y d) (Fu r y v):=by
 unfold Dw Fu;rw[h.any y];split
 ·exact h.mapPut h1
 ·exact h.app h1
theorem G1{d:D}{y:Key}{v:V}(h:Is K Y k H d v)(e:KM d=some y):v=kV y:=by
 cases d with
 |int i=>cases e;unfold Is at h;exact h
 |str i=>cases e;unfold Is at h;exact h
 |_=>cases e
theorem DJ{Z Z':Mh}{d:D}{v:V}{r:Nat×List (Key×D)}(R:RelH K Y Z H)(i:Is K Y Z.length H d v)(e:ET d Z=some (r,Z')):Z'=Z/\d=.ref r.1/\Z[r.1]?=some (.dK r.2)/\v=.ref (Y r.1)/\∃kvs,H (Y r.1)=some (.dK kvs)/\KVs K Y Z.length H r.2 kvs:=by
 cases d with
 |ref n=>
  have e:(match Z[n]? with|some (.dK l)=>some ((n,l),Z)|_=>none)=some (r,Z'):=e;split at e
  ·rename_i l hq;cases e;unfold Is at i;obtain⟨u,h1,kvs,rfl,h2⟩:=R.obj n _ hq;exact⟨rfl,rfl,hq,i.2,kvs,h1,h2⟩
  ·cases e
 |_=>cases e
end
noncomputable def Gh(d y:D):M D:=bnd (ET d) λr=>λZ=>((KM y).bind (DC r.2)).map λv=>(v,Z)
theorem Tf{mo mi:Sl->M D}{k:Nat}(hr:Room k X.A)(ho:RE X o mo)(hi:RE X i mi)(hs:Wy i:=by exact λ_ _=>rfl):RE X (.Subscript o i pos) (mOp Gh mo mi):=RE.wk (Tw (Ra hr) ho.pe hi.pe hs) λO H Q h=>by
 obtain⟨Y,Z,B,d,Z',R,S,e,q⟩:=h;obtain⟨x,w5,e1,ee1⟩:=AF e;obtain⟨y,w6,e2,ee2⟩:=AF ee1;obtain⟨r,x8,e3,ee3⟩:=AF ee2;refine⟨Y,Z,B,x,w5,R,S,e1,λx4 H1 E1 R1 v1 i1=>⟨x4,w5,B,y,w6,R1,S.ext E1,e2,λx6 H2 E2 R2 v2 i2=>?_⟩⟩;obtain⟨hm,_,g1,rfl,kvs,g2,g3⟩:=DJ R2 (i1.ext E2) e3;subst hm;cases hk:KM y with
 |none=>rw[hk] at ee3;cases ee3
 |some ky=>
  rw[hk] at ee3;cases G1 i2 hk;rcases g3.val ky with ⟨z1,_⟩|⟨dd,vv,z1,z2,z3⟩
  ·rw[Option.bind_some,z1] at ee3;cases ee3
  ·rw[Option.bind_some,z1] at ee3;cases ee3;exact⟨_,vv,rfl,by rw[←z2];exact DGet.k g2,q x6 H2 (E1.trans E2) R2 vv z3⟩
noncomputable def KR(d:D):M Unit:=bnd (ET d) λ_=>ret ()
theorem Ov{Z Z':Mh}{d:D}{u:Unit}(e:KR d Z=some (u,Z')):Z'=Z/\∃r,ET d Z=some (r,Z):=by
 obtain⟨r,w5,e1,ee1⟩:=AF e;cases ee1;cases d with
 |ref n=>
  have e2:(match Z[n]? with|some (.dK l)=>some ((n,l),Z)|_=>none)=some (r,Z'):=e1;split at e2
  ·cases e2;exact⟨rfl,_,e1⟩
  ·cases e2
 |_=>cases e1
noncomputable def Lk(neg:Bool)(y d:D):M D:=bnd (ET d) λr=>λZ=>(KM y).map λk=>(.bl (if neg then !(DC r.2 k).isSome else (DC r.2 k).isSome),Z)
theorem VX{K:KW}{mi mo:Sl->M D}{O:St}{H:Hp}{Q:VK}(h:tE K (mOp (Lk false) mi mo) O H Q):XD (tE K mi) (tE K mo) O H Q:=by
 obtain⟨Y,Z,B,d,Z',R,S,e,q⟩:=h;obtain⟨y,w5,e1,ee1⟩:=AF e;obtain⟨x,w6,e2,ee2⟩:=AF ee1;obtain⟨r,x8,e3,ee3⟩:=AF ee2;refine⟨Y,Z,B,y,w5,R,S,e1,λx4 H1 E1 R1 v1 i1=>⟨x4,w5,B,x,w6,R1,S.ext E1,e2,λx6 H2 E2 R2 v2 i2=>?_⟩⟩;obtain⟨hm,_,g1,rfl,kvs,g2,g3⟩:=DJ R2 i2 e3;subst hm;cases hk:KM y with
 |none=>rw[hk] at ee3;cases ee3
 |some ky=>
  rw[hk] at ee3;cases ee3;cases G1 (i1.ext E2) hk;refine⟨_,EX kvs ky,rfl,DGet.k g2,?_⟩;rcases g3.val ky with ⟨z1,z2⟩|⟨dd,vv,z1,z2,z3⟩
  ·rw[z2];rw[z1] at q;exact q x6 H2 (E1.trans E2) R2 _ (ofB _)
  ·rw[z2];rw[z1] at q;exact q x6 H2 (E1.trans E2) R2 _ (ofB _)
theorem Vj{mo mi:Sl->M D}{k:Nat}(hr:Room k X.A)(hi:RE X i mi)(ho:RE X o mo)(h1:behindInMarks .In o=false:=by first|exact nobehind _ (by decide) (by decide)|rfl):RE X (.Compare i [.In] [o] pos) (mOp (Lk false) mi mo):=RE.wk (V0 (V3 (Ra hr) hi.pe ho.pe) h1) λ_ _ _ h=>VX h
noncomputable def Ix(mo mi mv:Sl->M D):Sl->M (Fl×Sl):=λB=>bnd (mv B) λv=>bnd (mo B) λx=>bnd (mi B) λy=>bnd (ET x) λr=>λZ=>match KM y with
 |some k=>if r.2.length<sizeLine then some ((.next,B),Z.set r.1 (.dK (Dw r.2 k v))) else none
 |none=>none
theorem TU{value:Expr}{pos':Pos}{mo mi mv:Sl->M D}{k:Nat}(hr:Room k X.A)(ho:RE X o mo)(hi:RE X i mi)(hv:RE X value mv)(hs:swapsWith value (some (.Subscript o i pos')) pos.line X.env=pure false:=by rfl):RS X (.Assign [.Subscript o i pos'] value pos) (Ix mo mi mv):=RS.wk (Tq (Ra hr) ho.pe hi.pe hv.pe hs) λDn O H h=>by
 obtain⟨Y,Z,B,f,x9,Z',R,S,e,q⟩:=h;obtain⟨v,w5,e1,ee1⟩:=AF e;obtain⟨x,w6,e2,ee2⟩:=AF ee1;obtain⟨y,x8,e3,ee3⟩:=AF ee2;obtain⟨r,u4,e4,ee4⟩:=AF ee3;refine⟨Y,Z,B,v,w5,R,S,e1,λx4 H1 E1 R1 v1 i1=>⟨x4,w5,B,x,w6,R1,S.ext E1,e2,λx6 H2 E2 R2 v2 i2=>⟨x6,w6,B,y,x8,R2,S.ext (E1.trans E2),e3,λu3 H3 E3 R3 v3 i3=>?_⟩⟩⟩;obtain⟨hm,hx,g1,hv2,kvs,g2,g3⟩:=DJ R3 (i2.ext E3) e4;subst hm;have E13:=(E1.trans E2).trans E3;cases hk:KM y with
 |none=>rw[hk] at ee4;cases ee4
 |some ky=>
  rw[hk] at ee4;have ee4:(if r.2.length<sizeLine then some ((Fl.next,B),List.set u4 r.1 (MO.dK (Dw r.2 ky v))) else none)=some ((f,x9),Z'):=ee4;split at ee4
  ·rename_i hl;cases ee4;cases G1 i3 hk;have hlt:r.1<List.length u4:=(AAT.mp g1).1;obtain⟨E4,R4⟩:=R3.changed (m:=.dK (Dw r.2 ky v)) (o:=.dK (Fu kvs ky v1)) hlt ⟨_,rfl,g3.put (i1.ext (E2.trans E3))⟩;exact⟨_,_,hv2,DPut.k g2 (by rw[g3.length];exact hl),q u3 _ (E13.trans E4) R4 O (S.ext (E13.trans E4))⟩
  ·cases ee4
noncomputable def DP:Nat->List D->List D
 |_,[]=>[]
 |k,d::ds=>.tup [.int k,d]::DP (k+1) ds
theorem JW:∀(k:Nat) (ds:List D),(DP k ds).length=ds.length
 |_,[]=>rfl
 |k,_::ds=>by unfold DP;simp[JW (k+1) ds]
theorem JX:∀(k:Nat) (ds:List D) (j:Nat),(DP k ds)[j]?=(ds[j]?).map λd=>.tup [.int ((k+j:Nat):Int),d]
 |_,[],j=>by simp[DP]
 |k,d::ds,0=>by simp[DP]
 |k,d::ds,j+1=>by
  unfold DP;rw[List.getElem?_cons_succ,List.getElem?_cons_succ,JX (k+1) ds j];have:k+1+j=k+(j+1):=by omega
  rw[this]
noncomputable def Nm:List D->M (List D)
 |[.lst ds]=>ret ds
 |[.scr ns]=>ret (ns.map D.int)
 |_=>Bb
noncomputable def Q8(m:Sl->M (List D)):Sl->M (List D):=λB=>bnd (m B) λas=>bnd (Nm as) λds=>ret (DP 0 ds)
theorem Hl{K:KW}{Y:Nat->Addr}{Z:Mh}{H:Hp}{vs:List V}{ds:List D}{Cond:PySem.W.Frag->Hp->Prop}(st:∀Y' (Z':Mh) H',Ext Y Z.length H Y' Z'.length H'->RelH K Y' Z' H'->Cond K H')(i:IsL K Y Z.length H ds vs):
  ItM K (ItP K vs.length (Ey vs) Cond) (DP 0 ds) Y Z H:=by
 intro Y' Z' H' E R;have h:=st Y' Z' H' E R;rw[JW,←i.length];refine⟨λj hj=>⟨hj,h⟩,⟨rfl,h⟩,λj x H2 d hd y=>?_⟩;obtain⟨T,hT,rfl,rfl⟩:=y;obtain⟨E2,R2⟩:=R.laid (.tup (Ey vs j)) hT;refine⟨E2,R2,?_⟩;rw[JX] at hd;cases q:ds[j]? with
 |none=>rw[q] at hd;cases hd
 |some d0=>
  rw[q] at hd;cases hd;obtain⟨w,ew,iw⟩:=(i.ext E).get q;have e0:vs.getD j V.non=w:=by simp[List.getD,ew]
  have es:Ey vs j=[.int j,w]:=by unfold Ey;rw[e0]
  have key:IsL K Y' (List.length Z') (upd H' T (.tup (Ey vs j))) [.int ((0+j:Nat):Int),d0] [.int j,w]:=.cons (by unfold Is;simp) (.one (iw.ext E2));unfold Is;exact⟨T,_,rfl,SqT.of BZ,(congrArg (IsL K Y' (List.length Z') (upd H' T (.tup (Ey vs j))) [.int ((0+j:Nat):Int),d0]) es).mpr key⟩
theorem QG{p tpos:Pos}{k0:Nat}{m:Sl->M (List D)}(hm:X.mg "enumerate" = none)(ha:RA X [a] m)(hg:Gl X "enumerate" := by rfl)(hs:starEach [a] X.env=[(false,eval a X.env)]:=by rfl):RI X (.Tuple es k0 tpos) (.Call (.Name "enumerate" p) [a] [] pos) (Q8 m):=
 RI.wk (Qd hg hm ha.pe hs) λO H R q=>by
  obtain⟨Y,Z,B,ds,Z',R0,S,e,q⟩:=q;obtain⟨xs,w5,e1,ee1⟩:=AF e;obtain⟨zs,w6,e2,ee2⟩:=AF ee1;cases ee2;refine⟨Y,Z,B,xs,w5,R0,S,e1,λx4 H1 E1 R1 vs i1=>?_⟩;unfold Nm at e2;split at e2
  ·cases e2;obtain⟨v,rfl,i2⟩:=FJ i1;unfold Is at i2;obtain⟨p,ws,rfl,h1,hn,h2⟩:=i2;exact⟨p,ws,rfl,SqL.of h1,q x4 H1 E1 R1 _ (Hl (λY' Z' H' E _=>SqL.of (E.keep p _ h1 hn)) h2)⟩
  ·cases e2;obtain⟨v,rfl,i2⟩:=FJ i1;unfold Is at i2;obtain⟨p,rfl,h1⟩:=i2;exact⟨p,_,rfl,h1.sq,q x4 H1 E1 R1 _ (Hl (λY' Z' H' E _=>(J2 E h1).sq) (IsL.ofInts _))⟩
  ·cases e2
end
theorem Be:bootBuiltins "len" = some (.builtin "len"):=by decide +kernel
theorem CD:bootBuiltins "isinstance" = some (.builtin "isinstance"):=by decide +kernel
theorem IJ:bootBuiltins "int" = some (.type "int"):=by decide +kernel
theorem PF:bootBuiltins "bool" = some (.type "bool"):=by decide +kernel
theorem C7:bootBuiltins "tuple" = some (.type "tuple"):=by decide +kernel
theorem Je:bootBuiltins "list" = some (.type "list"):=by decide +kernel
theorem SJ:bootBuiltins "set" = some (.type "set"):=by decide +kernel
noncomputable def BE:Nat:=1048576
structure Fn(P:Program)(w:World)(K:PySem.W.Frag)(mg:Str->Option Value)(base:Heap)(x:Str)(ps:List Str)(k:Nat)(φ:List D->M D):Prop where
 len:∀ds Z r,φ ds Z=some r->ds.length=ps.length
 ex:∃f fd,FnOk P w K mg base CX0 k f fd ps (spM ⟨K,w⟩ ps.length φ)/\mg x=some (.ref f)/\PySem.W.keepIn K (.ref f)=true/\Binds K fd ps []
def Glo(K:PySem.W.Frag)(mg:Str->Option Value)(x:Str)(d:D):Prop:=∃u v,mg x=some u/\RelV v u/\∀w Y k H,Is ⟨K,w⟩ Y k H d v
section
variable{X:Cx}{e:Expr}{es:List Expr}{pos p:Pos}
theorem A2{x:Str}{ps:List Str}{k j:Nat}{φ:List D->M D}{m:Sl->M (List D)}(F:Fn X.prog X.w X.kw X.mg X.base x ps k φ)(hr:Room j X.A)(ha:RA X (e::es) m)(hkj:k<=j:=by decide)(hg:Gl X x:=by rfl)(hdb:(x==("__debug__" : Str))=false:=by decide)
  (he:starEach (e::es) X.env=(false,eval e X.env)::starEach es X.env:=by exact A1 rfl) (hpl:(backTo pos (starEach es X.env)).any (·.1)=false:=by exact Cu rfl):RE X (.Call (.Name x p) (e::es) [] pos) (AG φ m):=by
 obtain⟨len,f,fd,F,hm,hk,hb⟩:=F;exact Th F (hr.mono hkj) hm hk hb len ha hg hdb he hpl
theorem Dj{x:Str}{d:D}(h:Glo X.kw X.mg x d)(hg:Gl X x:=by rfl)(hdb:(x==("__debug__" : Str))=false:=by decide):RE X (.Name x pos) (mC d):=by
 obtain⟨u,v,hm,r,hd⟩:=h;exact Tc hm r (hd _) hg hdb
end
theorem Wf{P:Program}{w:World}{K:PySem.W.Frag}{mg:Str->Option Value}{base:Heap}{x qual:Str}{st:Stmt}{f:Addr}{fd:FuncData}{N ps:List Str}{k:Nat}{φ:List D->M D}{mb:Sl->M (Fl×Sl)}(F:Fun K x qual st f fd)(S:Ae N ps (AS st))(hm:mg x=some (.ref f))(hb:Binds K fd ps [])
  (body:∀(cdv:Value) (A:Around) (outer:List Env) (s:Shared) (H:Hp) (E:XK),Room k (A.deeper (PyProof.Rows.envOfC qual (AS st) s.heap.objs.size f cdv))->RSs (Ic CX0 P w K mg base N qual (AS st) f cdv A outer s H E).nox (DB st) mb)
  (len:∀ds Z r,φ ds Z=some r->ds.length=ps.length)
  (run:∀ds Z d Z',φ ds Z=some (d,Z')->∃fl x5 w6,mb (CV N.length ds) Z=some ((fl,x5),w6)/\(fl=.next∨∃d,fl=.rt d)/\IP Z w6 Z' (HS fl) d):Fn P w K mg base x ps (k+1) φ:=
 ⟨len,f,fd,JS F S rfl body run,hm,F.kp,hb⟩
theorem MN{Z g:Mh}{d:D}(h:Cl Z.length d):IP Z (Z++g) Z d d:=⟨⟨g,rfl⟩,AAE _,λ_ _ e=>.inl e,.inl ⟨rfl,h⟩⟩
end Mi
namespace L2
open PySem PySem.Spec PyProof.Rows Sem
section
variable{prog:Program}{w:World}{A:Around}{E:Value->Shared->Prop}{s:Shared}
theorem FU{M:Model}{A:Around}{α:Type}{c:Prop}[Decidable c]{a b:Sem α}{Q:α->Shared->Prop}{E:Value->Shared->Prop}{s:Shared}(h:¬c)(hb:wpAny M A b Q E s):wpAny M A (if c then a else b) Q E s:=by
 rw[if_neg h];exact hb
theorem Kr{it t:Addr}{i:Nat}{items:Array Value}{Q:Value->Shared->Prop}(hh:A.handled=none)(hit:s.heap.IsTupleIter it t i)(ht:s.heap.IsTuple t items)
  (more:∀x h',items[i]?=some x->h'.IsTupleIter it t (i+1)->Heap.SameBut it s.heap h'->Q x { s with heap:=h' })
  (over:items[i]?=none->∀h' e,Heap.ExtBut it s.heap h'->(∃o,h'.get? e=some o/\o.cls=.type "StopIteration")->E (.ref e) { s with heap:=h' }) :
  wpAny (model prog w) A (Builtin.SmallTypes.nextOf (.ref it)) Q E s:=by
 have ty:=hit.typeIs;obtain⟨o,at_it,hc,hd⟩:=hit;obtain⟨ot,at_t,_,n,hdt⟩:=ht;have put:∀(k:Nat) (v:Value),(s.heap.update it (Obj.mapFields (λfs=>fs.set! k v))).get? it=some (Obj.mapFields (λfs=>fs.set! k v) o):=λk v=>Heap.get?_update_self _ at_it (Obj.isFreed_of_fields (Obj.data_mapFields hd _));unfold Builtin.SmallTypes.nextOf;refine AAA (wpAny_callSpecial?_slot ty F.slot_tuple_iterator_next (AAd F.slot_tuple_iterator_next ty F.entry_tuple_iterator_next ?_ (F.args_tuple_iterator_next_1 _)));have notNone:¬(Value.ref t==Value.none)=true:=AAh;refine AAA (m:=field (.ref it) 0) (wpAny_field at_it hd (x:=.ref t) rfl ?_);refine FU notNone ?_;refine AAA (m:=field (.ref it) 1) (wpAny_field at_it hd (x:=.int i 0) rfl (AAA (m:=seqItems? (.ref t)) (wpAny_seqItems at_t hdt ?_)));have ei:((i:Int)).toNat=i:=Int.toNat_natCast i;cases hx:items[i]? with
 |some x=>
  dsimp only;rw[ei,hx];refine AAA (wpAny_setField at_it hd (by simp) (AAB ⟨x,rfl,AAB (more x _ hx ⟨_,put _ _,?_,?_⟩ (Heap.SameBut.update ..))⟩))
  ·exact(Obj.cls_mapFields ..).trans hc
  ·rw[Obj.data_mapFields hd];rfl
 |none=>
  dsimp only;rw[ei,hx];refine AAA (wpAny_rule (AAA (wpAny_setField at_it hd (by simp) ?_)));have first:firstArgMember (.type "StopIteration") []=pure Value.none:=by first|rfl|(unfold firstArgMember;rfl)
  unfold Builtin.SmallTypes.stopIteration newExc newTuple;refine AAA (AAA (AAr (AAA (AAw first (AAr (wpAny_raiseNew_none hh ?_) (by size_fits)))) (by size_fits)));exact over hx _ _ (((Heap.SameBut.update ..).extBut.push _).push _) ⟨_,AAD _ rfl,rfl⟩
theorem O3(hh:A.handled=none)(it t:Addr)(hne:t≠it)(items:Array Value):
  Draws prog w A it [it,t] items.size (λi v=>items[i]?=some v) (λi h=>h.IsTupleIter it t i/\h.IsTuple t items):=by
 refine⟨λi h st=>?_,λi h h' st k=>⟨?_,?_⟩,λi s Q E hi st q=>?_,λs Q E st q=>?_⟩
 ·obtain⟨⟨o,e,_⟩,_⟩:=st;exact⟨o,e⟩
 ·obtain⟨⟨o,e,r⟩,_⟩:=st;exact⟨o,k it (by simp) o e,r⟩
 ·obtain⟨_,⟨o,e,r⟩⟩:=st;exact⟨o,k t (by simp) o e,r⟩
 ·exact Kr hh st.1 st.2 (λx h' hx st' sb=>q x h' s.toks hx ⟨st',st.2.extBut sb.extBut hne⟩ sb) λno=>absurd no (by simp[hi])
 ·exact Kr hh st.1 st.2 (λx h' hx=>absurd hx (by simp)) λ_ h' e eb so=>q h' e eb so
noncomputable abbrev F5(it:Addr):Obj:={ cls:=.type "enumerate",data:=.fields #[.none,.bool false,.ref it,rawInt 0,.none,.none] }
theorem Rq(v:Value)(ob:Obj)(good:Heap->Prop)(hv:∀(prog:Program) (w:World) (A:Around) (E:Value->Shared->Prop) (s:Shared) (Q:Value->Shared->Prop),good s.heap->Q (.ref s.heap.objs.size) { s with heap:=s.heap.push ob }->wpAny (model prog w) A (pyIter v) Q E s):
  Meets (Builtin.«enumerate.__new__» ⟨[.type "enumerate",v],[]⟩) (λ_ R s=>good s.heap/\R (.ok (.ret (.ref (s.heap.push ob).objs.size))) { s with heap:=(s.heap.push ob).push (F5 s.heap.objs.size) }):=by
 refine .of_wp λprog w A R s ⟨g,q⟩=>?_;have own:=sub_enumerate;have walk:∀(A:Around) (E:Value->Shared->Prop) (Q:Value->Shared->Prop),Q (.ref s.heap.objs.size) { s with heap:=s.heap.push ob }->wpAny (model prog w) A (pyIter v) Q E s:=λA E Q z=>hv prog w A E s Q g z;obtain⟨hp,gs,dr,tk,os⟩:=s
 wp_walk
 refine wpAny_stack_any λst=>AAB ?_;split
 ·rename_i c _ _ _ _ _;cases (c==Value.type "enumerate")<;>(wp_walk using walk;exact⟨_,rfl,q⟩)
 ·wp_walk using walk
  exact⟨_,rfl,q⟩
end
end L2
namespace L2
open PySem PySem.Spec PyProof.Rows
theorem MH{P:Program}{w:World}{K:PySem.W.Frag}{es:List Expr}{k0:Nat}{pos:Pos}(a e it:Addr)(xs:List V)(hei:e≠it)(hea:e≠a)(hai:a≠it):
  L7 P w K (.Tuple es k0 pos) (ItP K xs.length (Ey xs) λK H=>SqT K H a xs) [e,it] e (λi h=>(∃old,IsEnum h e it i old)/\h.IsTupleIter it a i):=by
 refine HE (Y:=List Value) (fp:=[e,it,a]) (Mid:=λits i T h=>(∃x,IsEnumOut h e it ((i:Int)+1) x T)/\(h.IsTupleIter it a (i+1)/\h.IsTuple a its.toArray)/\T≠e/\T≠it) (good:=λits=>Vals xs its) (Pt:=λits i vals=>∃t x,its.toArray[i]?=some x/\vals=#[.int i t,x]) (Sw:=λits i h=>(∃old,IsEnum h e it i old)/\h.IsTupleIter it a i/\h.IsTuple a its.toArray)
  (λA hA its r=>?walk) AAP (λits i vals r h=>ID r h) (λi=>(by show 2<=sizeLine;decide)) (λi h st=>?obj) (λi h h' st k=>?keep) (λX w4 O H s i hP hw hK I hc st=>?into) (λz i h st=>⟨st.1,st.2.1⟩) (λA i s Q E st h=>?self)
 case walk=>
  have hl:xs.length=its.toArray.size:=by rw[List.size_toArray];exact r.length
  have D:=O3 (prog:=P) (w:=w) (A:=A.in1) hA it a hai its.toArray;rw[hl];exact WalksT.enumerateD D e hei (by simp[hei,hea]) (by simp)
 case obj=>
  obtain⟨o,ho,_,hd⟩:=st.2;exact Rt st.1 ho ⟨_,hd⟩
 case keep=>
  obtain⟨⟨old,q⟩,o,ho,r⟩:=st;exact⟨⟨old,k e (by simp) _ q⟩,o,k it (by simp) o ho,r⟩
 case into=>
  subst hK;obtain⟨its,r,p,_⟩:=I.tuple hc;exact⟨its,r,st.1,st.2,p⟩
 case self=>exact Nw (f:=λi h=>h.IsTupleIter it a i) A i s Q E st h
section
variable{X:Cx}{es:List Expr}{k0:Nat}{tpos:Pos}
noncomputable def Wa(K:PySem.W.Frag)(ta:TA):TI:=λO H R=>ta O H λvs H1=>∃a xs,vs=[.ref a]/\SqT K H1 a xs/\R (ItP K xs.length (Ey xs) λK H=>SqT K H a xs) H1
theorem Qc{a:Expr}{ta:TA}{p pos:Pos}(hg:Gl X "enumerate")(hm:X.mg "enumerate" = none)(ha:PA X [a] ta)(hs:starEach [a] X.env=[(false,eval a X.env)]:=by rfl):PI X (.Tuple es k0 tpos) (.Call (.Name "enumerate" p) [a] [] pos) (Wa X.kw ta):=by
 intro w4 s O H R I h;refine Call_ (GP I hg hm Jf (PyProof.Rows.callWith_type1 (thn (ha pos w4 s O H _ I h) λus s1 ⟨vs,H1,I1,r1,q1⟩=>?_) hs rfl));obtain⟨l,xs,ev,hq,q⟩:=q1;subst ev;obtain⟨u,eu,ru⟩:=FM r1;subst eu;cases ru;obtain⟨its,rv,pl,hz⟩:=I1.tuple hq;have lt:l<s1.heap.objs.size:=by obtain⟨o,e,_⟩:=pl;exact Heap.lt_size e
 have new:=Rq (.ref l) { cls:=.type "tuple_iterator",data:=.fields #[.ref l,.int 0 0] } (λh=>h.IsTuple l its.toArray) (λ_ _ _ _ _ _ g z=>wpAny_pyIter_tuple g z);refine callType_new F.called_enumerate (by decide) (F.typeCall_enumerate_1 _) (F.newCall_enumerate_1 _) (λobj=>F.args_object_init_2 obj _) F.entry_enumerate_new new ⟨pl,?_⟩;generalize hG:s1.heap.push { cls:=.type "tuple_iterator",data:=.fields #[.ref l,.int 0 0] }=G;have hsz:G.objs.size=s1.heap.objs.size+1:=by rw[←hG];exact Heap.size_push ..
 have at_e:(G.push (F5 s1.heap.objs.size)).get? (s1.heap.objs.size+1)=some (F5 s1.heap.objs.size):=by rw[←hsz];exact AAD _ rfl
 have he:IsEnum (G.push (F5 s1.heap.objs.size)) (s1.heap.objs.size+1) s1.heap.objs.size 0 .none:=at_e;have at_i:(G.push (F5 s1.heap.objs.size)).IsTupleIter s1.heap.objs.size l 0:=⟨_,AAC _ (hG ▸ AAD _ rfl),rfl,rfl⟩;show _/\_;rw[hsz];refine⟨⟨_,at_e,rfl⟩,wpAny_pyIter_enum he ?_⟩;refine⟨s1.heap.objs.size+1,[s1.heap.objs.size+1,s1.heap.objs.size],λi h=>(∃old,IsEnum h (s1.heap.objs.size+1) s1.heap.objs.size i old)/\h.IsTupleIter s1.heap.objs.size l i,_,H1,rfl,I1.kept (t':=s1.toks) λb o x=>AAC _ (hG ▸ AAC _ x),?_,⟨⟨_,he⟩,at_i⟩,Pr I1,q⟩;exact MH l _ _ xs (Nat.succ_ne_self _) (Nat.ne_of_gt (AAi lt)) (AAe lt)
end
end L2
namespace Mi
open PySem L2
section
variable{X:Cx}{a:Expr}{es:List Expr}{pos:Pos}
noncomputable def Ps:List D->M (List D)
 |[.tup ds]=>ret ds
 |_=>Bb
noncomputable def Q7(m:Sl->M (List D)):Sl->M (List D):=λB=>bnd (m B) λas=>bnd (Ps as) λds=>ret (DP 0 ds)
theorem QF{p tpos:Pos}{k0:Nat}{m:Sl->M (List D)}(hm:X.mg "enumerate" = none)(ha:RA X [a] m)(hg:Gl X "enumerate" := by rfl)(hs:starEach [a] X.env=[(false,eval a X.env)]:=by exact A1 rfl):RI X (.Tuple es k0 tpos) (.Call (.Name "enumerate" p) [a] [] pos) (Q7 m):=
 RI.wk (Qc hg hm ha.pe hs) λO H R q=>by
  obtain⟨Y,Z,B,ds,Z',R0,S,e,q⟩:=q;obtain⟨xs,w5,e1,e2⟩:=AF e;obtain⟨zs,w6,e3,e4⟩:=AF e2;cases e4;refine⟨Y,Z,B,xs,w5,R0,S,e1,λx4 H1 E1 R1 vs i1=>?_⟩;unfold Ps at e3;split at e3
  ·cases e3;obtain⟨v,rfl,i2⟩:=FJ i1;unfold Is at i2;obtain⟨p,ws,rfl,h1,h2⟩:=i2;exact⟨p,ws,rfl,h1,q x4 H1 E1 R1 _ (Hl (λY' Z' H' E _=>Jv E h1) h2)⟩
  ·cases e3
end
end Mi
namespace L2
open PySem PySem.Spec PyProof.Rows Sem
end L2
namespace L2
open PySem PySem.Spec PyProof.Rows
namespace Sk
end Sk
end L2
namespace Mi
open PySem L2
end Mi
namespace L2
open PySem PySem.Spec PyProof.Rows Sem
section
variable{prog:Program}{w:World}{A:Around}{E:Value->Shared->Prop}{s:Shared}
set_option maxHeartbeats 2000000 in
theorem UC{T nid iid:String}{args:List Value}{Q Q₁:Value->Shared->Prop}(ft:TypeCalled T nid iid)(ok:checkTypeCall T ⟨args,[]⟩=pure ())
  (new:codeAny (model prog w) A.in1 (.call (.builtin nid) ⟨.type T::args,[]⟩) (wants Q₁ E) s)
  (init:∀x s₁,Q₁ x s₁->s₁.TypeIs x T/\codeAny (model prog w) A.in1 (.call (.builtin iid) ⟨x::args,[]⟩) (wants (λr s₂=>r=.none/\Q x s₂) E) s₁) :
  wpAny (model prog w) A (call (.type T) args) Q E s:=by
 have a1:=ft.notType;have a2:=ft.canCreate;have a3:=ft.made;have a4:=ft.sub;obtain⟨c,tl,a5⟩:=ft.mro;have step:codeAny (model prog w) A (.builtin "type.__call__" ⟨.type T::args,[]⟩) (wants Q E) s:=by
  refine codeAny_builtin F.entry_type_call ?_;rw[Around.under_plain (weight_type_call_type T args []) rfl];unfold Builtin.«type.__call__»
  iterate 3 (any_goals (first|assumption|wp_step))
  first|refine AAw ok ?_|refine AAA (AAw ok ?_)
  repeat (any_goals (first|assumption|wp_step))
  refine codeAny_mono new λr s₁ hr=>?_
  match r,hr with
  | .error e,hr=>exact hr
  | .ok (.ret x),hr=>
   obtain⟨ty,run⟩:=init x s₁ hr;have b1:=ft.init.lookup;have b2:=ft.init.bind x
   repeat (any_goals (first|assumption|wp_step))
   refine codeAny_mono run λr₂ s₂ hr₂=>?_
   match r₂,hr₂ with
   | .error e,hr₂=>exact hr₂
   | .ok (.ret y),hr₂=>
    obtain⟨ey,hq⟩:=hr₂;subst ey
    repeat (any_goals (first|assumption|wp_step))
 exact wpAny_call (codeAny_of_tree (AAB ⟨Code.quiet_builtin _ (by decide +kernel),step⟩))
noncomputable abbrev BI(led:Bool):Obj:={ cls:=.type "set",data:=.set #[] 0 (.fresh 0 0 led) }
end
end L2
namespace Mi
open PySem L2
inductive How where
 |all|drop|frz
noncomputable def Qn(w6:Mh):How->D->D
 | .frz,.ref n=>match w6[n]? with
  |some (.lst ds)=>.lst ds
  |_=>.ref n
 |_,d=>d
noncomputable def Oc(Z w6:Mh):How->Mh
 | .all=>w6
 |_=>w6.take Z.length
open Classical in
noncomputable def Au(hw:How)(n ps:Nat)(mb:Sl->M (Fl×Sl)):List D->M D:=λds Z=>match mb (CV n ds) Z with
 |some ((fl,_),w6)=>if ds.length=ps/\(fl=.next∨∃d,fl=.rt d)/\IP Z w6 (Oc Z w6 hw) (HS fl) (Qn w6 hw (HS fl)) then some (Qn w6 hw (HS fl),Oc Z w6 hw) else none
 |none=>none
theorem Fd{hw:How}{n ps:Nat}{mb:Sl->M (Fl×Sl)}{ds:List D}{Z Z':Mh}{d:D}(h:Au hw n ps mb ds Z=some (d,Z')):
  ds.length=ps/\∃fl x5 w6,mb (CV n ds) Z=some ((fl,x5),w6)/\(fl=.next∨∃d,fl=.rt d)/\IP Z w6 Z' (HS fl) d:=by
 unfold Au at h;split at h
 ·rename_i fl x5 w6 e;split at h
  ·rename_i c;cases h;exact⟨c.1,fl,x5,w6,e,c.2.1,c.2.2⟩
  ·cases h
 ·cases h
theorem IH{hw:How}{n ps:Nat}{mb:Sl->M (Fl×Sl)}{ds:List D}{Z w6:Mh}{fl:Fl}{x5:Sl}(e:mb (CV n ds) Z=some ((fl,x5),w6))(hl:ds.length=ps)(hf:fl=.next∨∃d,fl=.rt d)(t:IP Z w6 (Oc Z w6 hw) (HS fl) (Qn w6 hw (HS fl))):
  Au hw n ps mb ds Z=some (Qn w6 hw (HS fl),Oc Z w6 hw):=by
 unfold Au;rw[e];exact if_pos ⟨hl,hf,t⟩
theorem AU{n ps:Nat}{mb:Sl->M (Fl×Sl)}{ds:List D}{Z g:Mh}{d:D}{x5:Sl}(e:mb (CV n ds) Z=some ((.rt d,x5),Z++g))(hl:ds.length=ps)(c:Cl Z.length d):Au .drop n ps mb ds Z=some (d,Z):=by
 have t:Oc Z (Z++g) .drop=Z:=by show (Z++g).take Z.length=Z;rw[List.take_left]
 have h:=IH (hw:=.drop) e hl (.inr ⟨d,rfl⟩) (by rw[t];exact MN c);rw[t] at h;exact h
theorem Jd{n ps:Nat}{mb:Sl->M (Fl×Sl)}{ds es:List D}{Z g:Mh}{k:Nat}{x5:Sl}(e:mb (CV n ds) Z=some ((.rt (.ref k),x5),Z++g))(hl:ds.length=ps)(hk:Z.length<=k)(hg:(Z++g)[k]?=some (.lst es))(c:ClL Z.length es):Au .frz n ps mb ds Z=some (.lst es,Z):=by
 have t:Oc Z (Z++g) .frz=Z:=by show (Z++g).take Z.length=Z;rw[List.take_left]
 have o:Qn (Z++g) .frz (HS (.rt (.ref k)))=.lst es:=by
  show (match (Z++g)[k]? with|some (.lst ds)=>D.lst ds|_=>.ref k)=_;rw[hg]
 have h:=IH (hw:=.frz) e hl (.inr ⟨_,rfl⟩) (by rw[t,o];exact⟨⟨g,rfl⟩,AAE _,λ_ _ z=>.inl z,.inr ⟨k,es,rfl,hg,hk,rfl,c⟩⟩);rw[t,o] at h;exact h
theorem As(hw:How){P:Program}{w:World}{K:PySem.W.Frag}{mg:Str->Option Value}{base:Heap}{x qual:Str}{st:Stmt}{f:Addr}{fd:FuncData}{N ps:List Str}{k:Nat}{mb:Sl->M (Fl×Sl)}(F:Fun K x qual st f fd)(S:Ae N ps (AS st))(hm:mg x=some (.ref f))(hb:Binds K fd ps [])
  (body:∀(cdv:Value) (A:Around) (outer:List Env) (s:Shared) (H:Hp) (E:XK),Room k (A.deeper (PyProof.Rows.envOfC qual (AS st) s.heap.objs.size f cdv))->RSs (Ic CX0 P w K mg base N qual (AS st) f cdv A outer s H E).nox (DB st) mb) :
  Fn P w K mg base x ps (k+1) (Au hw N.length ps.length mb):=
 Wf F S hm hb body (λds Z r h=>(Fd (d:=r.1) (Z':=r.2) h).1) (λds Z d Z' h=>(Fd h).2)
section
variable{P:Program}{w:World}{K:PySem.W.Frag}{mg:Str->Option Value}{base h:Heap}{x:Str}
theorem G3{i:Int}{t:Tok}(X:K.In h)(G:h.Ns mainGlobals mg)(a:PySem.W.nsIn K mainGlobals x=some (some (.int i t))):Glo K mg x (.int i):=
 ⟨_,.int i,PySem.W.mg_of X G a,⟨t,rfl⟩,λ_ _ _ _=>by unfold Is;rfl⟩
structure Df(K:PySem.W.Frag)(x:Str)(st:Stmt)(f:Addr)(fd:FuncData):Prop where
 a:PySem.W.nsIn K mainGlobals x=some (some (.ref f))
 F:Fun K x x st f fd
theorem YF{st:Stmt}{f:Addr}{oc:Value}{od an:Option Addr}{osl:Array (Option Value)}{kV doc pm cdv ct:Value}(a:PySem.W.nsIn K mainGlobals x=some (some (.ref f)))(l:K.lookup f=some ⟨oc,od,.func (PySem.W.fnOf x x (F6 st) (DB st) (AS st) .none kV doc pm an cdv ct),osl⟩)
  (c:PySem.W.codeIn K cdv x=true) (k:PySem.W.keepIn K (.ref f)=true):∃f fd,Df K x st f fd:=⟨f,_,a,We l c k⟩
theorem Rh(hw:How){qual:Str}{st:Stmt}{f:Addr}{fd:FuncData}{N ps:List Str}{k:Nat}{mb:Sl->M (Fl×Sl)}(F:Fun K x qual st f fd)(S:Ae N ps (AS st))
  (body:∀(cdv:Value) (A:Around) (outer:List Env) (s:Shared) (H:Hp) (E:XK),Room k (A.deeper (PyProof.Rows.envOfC qual (AS st) s.heap.objs.size f cdv))->RSs (Ic CX0 P w K mg base N qual (AS st) f cdv A outer s H E).nox (DB st) mb) :
  FnOk P w K mg base CX0 (k+1) f fd ps (spM ⟨K,w⟩ ps.length (Au hw N.length ps.length mb)):=
 JS F S rfl body (λds Z d Z' h=>(Fd h).2)
noncomputable def NN(K:PySem.W.Frag):Sp:=λvs H Q _=>∃(a:Addr) (ns:List Int),vs=[.ref a]/\ScrAt K H a (ns.map V.int)/\ns.length<=63/\∀H',Q (.bl true) H'
theorem VR{k:Nat}{f:Addr}{fd:FuncData}{φ:List D->M D}(F:FnOk P w K mg base CX0 k f fd ["_law_script"] (spM ⟨K,w⟩ 1 φ))(hφ:∀ns:List Int,ns.length<=63->∃Z',φ [.scr ns] []=some (.bl true,Z')):FnOk P w K mg base CX0 k f fd ["_law_script"] (NN K):=
 F.imp λvs H Q E q=>by
  obtain⟨a,ns,rfl,s,hl,q⟩:=q;obtain⟨Z',e⟩:=hφ ns hl;refine⟨rfl,λ_=>a,[],[.scr ns],.bl true,Z',⟨λi j h=>absurd h (Nat.not_lt_zero _),λn o e=>by simp at e⟩,.one (by unfold Is;exact⟨a,rfl,s⟩),e,λx6 H2 E2 R2 v i=>?_⟩;unfold Is at i;rw[i];exact q H2
theorem K2{H:Hp}{a:Addr}{xs:List V}(o:Uj H)(s:SqL K H a xs):ScrAt K H a xs:=by
 rcases s with z|z
 ·rcases z with z|⟨p,z⟩
  ·rcases o a with q|⟨p,ys,q⟩
   ·rw[q] at z;cases z
   ·rw[q] at z;cases z
  ·exact .inl ⟨p,z⟩
 ·exact .inr z
end
theorem W4{l:PySem.W.OpenLaw}{q:Program}{loose:List Str}{XP:(Str->Option Value)->Heap->Prop}{YP:World->Heap->Prop}{d:DefRec}{K:Params->PySem.W.Frag}{k:Nat}(hn:l.most=some 63)(hdf:d.params.defaults=[])(hk:k<=60)
  (hY:∀(w:World) (h:Heap),YP w h->(K w.params).In h)
  (F:∀(w:World) (mg:Str->Option Value) (fa:Addr) (h:Heap),(K w.params).In h->h.Ns mainGlobals mg->mg d.name=some (.ref fa)->
   ∃fd:FuncData,(∀(s:Shared) (u:Value),BindsTo s fd ⟨[u],[]⟩ [("_law_script",u)])/\∀base:Heap,(K w.params).In base->base.Ns mainGlobals mg->FnOk l.prog w (K w.params) mg base CX0 k fa fd ["_law_script"] (NN (K w.params))) :
  PySem.W.WalkO q loose XP YP l.row.toRowW d [] (λf vs=>PySem.call f vs):=
 L2.Sy (n:=63) (k:=k) (x := "_law_script") (CX:=λ_=>CX0) (sp:=λw=>NN (K w.params)) hn (by decide) hdf (Room.mono (j:=k) (k:=60) ⟨rfl,by decide,by decide⟩ hk) hY F (λ_ _ a ns hl o hS=>⟨a,ns,rfl,K2 o hS,hl,λ_=>rfl⟩) λ_ _ _ _ _ z=>z
end Mi
namespace Mi
open PySem L2 PyProof.Rows
section
variable{X:Cx}{e a b c:Expr}{pos:Pos}
theorem Qp:OpR X (binaryOp .Add) (λx y H Q=>∃a b ys,x=.ref a/\y=.ref b/\SqT X.kw H a []/\SqT X.kw H b ys/\Q (.ref b) H):=by
 intro w4 s O H x y v u Q I rx ry h;obtain⟨a,b,ys,rfl,rfl,ha,hb,q⟩:=h;cases rx;cases ry;obtain⟨its,r1,p1,_⟩:=I.tuple ha;obtain⟨its2,r2,p2,_⟩:=I.tuple hb;cases r1;obtain⟨⟨cls,dd,data,sl⟩,ho,hc,n,hd⟩:=p1;obtain⟨⟨cls2,dd2,data2,sl2⟩,ho2,hc2,n2,hd2⟩:=p2;simp only at hc hd hc2 hd2;subst hc hd hc2 hd2;exact concat_meets ⟨_,ho,rfl⟩ ⟨_,ho2,rfl⟩ noFill_tuple_add seq_tuple_add PySem.F.slot_tuple_add PySem.F.entry_tuple_add (PySem.F.args_tuple_add_2 _ _) (tuple_addW0 a b _ _ n n2 dd dd2 sl sl2 rfl) ⟨ho,ho2,⟨.ref b,H,I,rfl,q⟩⟩
noncomputable def Ab(a b:D):M D:=match a,b with
 | .tup [],.tup ds=>ret (.tup ds)
 |a,b=>QR a b
theorem A7:OpR X (binaryOp .Add) (rM X.kw Ab):=λw4 s O H x y v u Q I rx ry h=>by
 obtain⟨Y,Z,a,b,d,Z',R,ia,ib,e,q⟩:=h;unfold Ab at e;split at e
 ·rename_i ds;cases e;unfold Is at ia;obtain⟨p,vs,rfl,h1,h2⟩:=ia;unfold IsL at h2;subst h2;have ib2:=ib;unfold Is at ib;obtain⟨p',vs',rfl,h1',h2'⟩:=ib;exact Qp w4 s O H _ _ v u Q I rx ry ⟨p,p',vs',rfl,rfl,h1,h1',q Y H R.ext0 R _ ib2⟩
 ·exact Xv w4 s O H x y v u Q I rx ry ⟨Y,Z,_,_,d,Z',R,ia,ib,e,q⟩
theorem Ib{prog:Program}{w:World}{A:Around}{E:Value->Shared->Prop}{s:Shared}{t sl:Addr}{items:Array Value}{vl vu:Value}{lo hi:Option Int}{Q:Value->Shared->Prop}(ht:IsTup s.heap t items)(hs:s.heap.IsSliceOf sl vl vu .none)(pl:IsPart vl lo)(pu:IsPart vu hi)
  (h1:HT.sIx items.size 0 lo=0) (h2:HT.sIx items.size items.size hi=items.size) (h:Q (.ref t) s):wpAny (model prog w) A (getItem (.ref t) (.ref sl)) Q E s:=by
 obtain⟨os,hos,hcs,hds⟩:=id hs;have hTs:s.TypeIs (.ref sl) "slice" := ⟨os,hos,hcs⟩;unfold getItem
 try with_reducible refine AAq ?_
 first|refine AAA (AAB ?_)|skip
 refine AAA (wpAny_sequenceKey ht.typeIs (by decide) ?_);refine AAA (wpAny_callSpecial?_slot (name:=Str.ofString "__getitem__") ht.typeIs PyProof.Rows.slot_tuple_getitem
  (AAd PyProof.Rows.slot_tuple_getitem ht.typeIs entry_tuple_getitem ?_ (args_tuple_getitem _ _)))
 show wpAny _ _ (Builtin.Tuple.tupleItemsOf (.ref t) >>= _) _ _ s;refine AAA (tupleItemsOf_ ht ?_);refine AAA (wpAny_typeOf hTs ?_);rw[if_pos (by decide)];refine AAA (HT.Dt hs pl pu ?_);have hyes:((((HT.sIx items.size 0 lo:Nat):Int)==0&&(1:Int)==1&&(HT.sIx items.size items.size hi-HT.sIx items.size 0 lo)==items.size)=true):=by rw[h1,h2];simp
 show wpAny _ _ (if (((HT.sIx items.size 0 lo:Nat):Int)==0&&(1:Int)==1&&(HT.sIx items.size items.size hi-HT.sIx items.size 0 lo)==items.size)=true then _ else _) _ _ s;rw[if_pos hyes];refine AAA (m:=Builtin.Tuple.tupleIsExact (.ref t)) ?_;unfold Builtin.Tuple.tupleIsExact;refine AAA (wpAny_typeOf ht.typeIs (AAB ?_));rw[if_pos (by decide)];refine AAA (wpAny_rule ?_);exact AAB ⟨_,rfl,AAB h⟩
theorem TL:SlR X (λx lo hi H Q=>∃a xs,x=.ref a/\SqT X.kw H a xs/\HT.sIx xs.length 0 lo=0/\HT.sIx xs.length xs.length hi=xs.length/\Q (.ref a) H):=by
 intro w4 s O H x v vl vu lo hi sl Q I rx hs pl pu h;obtain⟨a,xs,rfl,hx,h1,h2,q⟩:=h;cases rx;obtain⟨its,r,ht,hz⟩:=I.tuple hx;have hlen:its.toArray.size=xs.length:=by rw[List.size_toArray];exact r.length.symm
 refine⟨"tuple",_,PyProof.Rows.slot_tuple_getitem.lookup,ht.typeIs,?_⟩;exact Ib ht hs pl pu (by rw[hlen];exact h1) (by rw[hlen];exact h2) ⟨.ref a,H,I,rfl,q⟩
theorem R9{ds:List D}{lo hi:Option Int}(h1:HT.sIx ds.length 0 lo=0)(h2:HT.sIx ds.length ds.length hi=ds.length):Cr ds lo hi=ds:=by
 unfold Cr;rw[h1,h2];simp
noncomputable def NT(lo hi:Option Int):D->M D
 | .tup ds=>ret (.tup (Cr ds lo hi))
 |d=>bnd (CL d) λds=>ret (.lst (Cr ds lo hi))
noncomputable def Yh(K:KW):V->Option Int->Option Int->Hp->VK->Prop:=λx lo hi H Q=>∃Y Z a d Z',RelH K Y Z H/\Is K Y Z.length H a x/\NT lo hi a Z=some (d,Z') /\
 Aft K Y Z H Z' λY' H'=>∀v,Is K Y' Z'.length H' d v->Q v H'
theorem Xn:SlR X (Yh X.kw):=λw4 s O H x v vl vu lo hi sl Q I rx hs pl pu h=>by
 obtain⟨Y,Z,a,d,Z',R,ia,e,q⟩:=h;by_cases c:∃ds,a=.tup ds/\HT.sIx ds.length 0 lo=0/\HT.sIx ds.length ds.length hi=ds.length
 ·obtain⟨ds,rfl,h1,h2⟩:=c;have e:some (D.tup (Cr ds lo hi),Z)=some (d,Z'):=e;rw[R9 h1 h2] at e;cases e;have ia2:=ia;unfold Is at ia;obtain⟨p,vs,rfl,g1,g2⟩:=ia;exact TL w4 s O H _ v vl vu lo hi sl Q I rx hs pl pu ⟨p,vs,rfl,g1,by rw[g2.length];exact h1,by rw[g2.length];exact h2,q Y H R.ext0 R _ ia2⟩
 ·refine Yl w4 s O H x v vl vu lo hi sl Q I rx hs pl pu ⟨Y,Z,a,d,Z',R,ia,?_,q⟩;cases a with
  |tup ds=>
   show (if HT.sIx ds.length 0 lo=0/\HT.sIx ds.length ds.length hi=ds.length then (Bb:M D) else ret (D.tup (Cr ds lo hi))) Z=_;rw[if_neg (λz=>c ⟨ds,rfl,z.1,z.2⟩)];exact e
  |_=>exact e
noncomputable def EZ(me:Sl->M D)(ml mh:Sl->M (Option Int)):Sl->M D:=λB=>bnd (me B) λx=>bnd (ml B) λl=>bnd (mh B) λh=>NT l h x
theorem Do{e:Expr}{lo hi:Option Expr}{me:Sl->M D}{ml mh:Sl->M (Option Int)}{pos p2:Pos}(he:RE X e me)(hl:RO X lo ml)(hh:RO X hi mh):RE X (.Subscript e (.Slice lo hi none p2) pos) (EZ me ml mh):=RE.wk (Qe Xn he.pe hl.pe hh.pe) λO H Q h=>by
 obtain⟨Y,Z,B,z,Z',R,S,e,q⟩:=h;obtain⟨x,w5,e1,e⟩:=AF e;obtain⟨l,w6,e2,e⟩:=AF e;obtain⟨u,x8,e3,e⟩:=AF e;refine⟨Y,Z,B,x,w5,R,S,e1,λx4 H1 E1 R1 v i1=>⟨x4,w5,B,l,w6,R1,S.ext E1,e2,λx6 H2 E2 R2=>⟨x6,w6,B,u,x8,R2,S.ext (E1.trans E2),e3,λu3 H3 E3 R3=>?_⟩⟩⟩;have E23:=E2.trans E3;exact⟨u3,x8,x,z,Z',R3,i1.ext E23,e,λu6 H4 E4 R4=>q u6 H4 ((E1.trans E23).trans E4) R4⟩
end
end Mi
namespace Mi
open PySem L2
open PyProof.Rows hiding St
section
variable{X:Cx}{e o:Expr}{apos cpos:Pos}
noncomputable def Fx(g:D->List D->M D)(mo:Sl->M D):Sl->M D:=λB=>bnd (mo B) λx=>bnd (EO x) λ_=>g x []
theorem OJ{K:KW}{g:D->List D->M D}{mo:Sl->M D}{O:St}{H:Hp}{Q:VK}(h:tE K (Fx g mo) O H Q):XI K "list" (rMM K g) (tE K mo) O H Q:=by
 obtain⟨Y,Z,B,d,Z',R,S,e,q⟩:=h;obtain⟨x,w5,e1,ee1⟩:=AF e;obtain⟨u,w6,e2,ee2⟩:=AF ee1;have hm:=GT e2;subst hm;refine⟨Y,Z,B,x,_,R,S,e1,λx4 H1 E1 R1 v1 i1=>⟨(Ge R1 i1 e2).2,?_⟩⟩;exact⟨x4,_,x,[],d,Z',R1,i1,IsL.nil,ee2,λu3 H3 E3 R3=>q u3 H3 (E1.trans E3) R3⟩
theorem OU{name:Str}{id:String}{g:D->List D->M D}{mo:Sl->M D}(slot:Slot "list" name id)(hty:typeOf (.builtin id)=pure (.type "method_descriptor"))(hm:MtR X id (rMM X.kw g))(ho:RE X o mo)
  (hbase:attributeBase o name X.env (eval o X.env)=eval o X.env:=by rfl) (hline:(apos.endLine==cpos.line)=true:=by rfl) :
  RE X (.Call (.Attribute o name apos) [] [] cpos) (Fx g mo):=RE.wk (V1 PySem.F.plainAttrs_list slot hty hm ho.pe hbase hline) λ_ _ _ h=>OJ h
end
section
variable{X:Cx}{e a b o:Expr}
noncomputable def Yp:List Int->Int
 |[]=>0
 |i::r=>r.foldl max i
noncomputable def Fy:List D->Option (List Int)
 |[]=>some []
 | .int i::ds=>(Fy ds).map (i::·)
 |_=>none
theorem LY{K:KW}{Y:Nat->Addr}{k:Nat}{H:Hp}:∀{ds:List D} {vs:List V} {ns:List Int},IsL K Y k H ds vs->Fy ds=some ns->vs=ns.map V.int
 |[],_,_,h,e=>by cases e;unfold IsL at h;exact h
 | .int b::ds,_,_,h,e=>by
  unfold IsL at h;obtain⟨v,vs',rfl,h1,h2⟩:=h;unfold Fy at e;cases q:Fy ds with
  |none=>rw[q] at e;cases e
  |some bs=>
   rw[q] at e;cases e;unfold Is at h1;rw[h1,LY h2 q];rfl
 | .non::_,_,_,_,e=>by cases e
 | .bl _::_,_,_,_,e=>by cases e
 | .str _::_,_,_,_,e=>by cases e
 | .ty _::_,_,_,_,e=>by cases e
 | .scr _::_,_,_,_,e=>by cases e
 | .tup _::_,_,_,_,e=>by cases e
 | .lst _::_,_,_,_,e=>by cases e
 | .ref _::_,_,_,_,e=>by cases e
theorem JM:∀ns:List Int,Fy (ns.map D.int)=some ns
 |[]=>rfl
 |n::r=>by show (Fy (r.map D.int)).map (n::·)=_;rw[JM r];rfl
noncomputable def ZD:List D->M D
 |[d]=>bnd (CL d) λds=>λZ=>match Fy ds with
  |some (i::r)=>some (.int (Yp (i::r)),Z)
  |_=>none
 |_=>Bb
theorem IA{y:V}:∀{ys:List V} {us:List Value} {j:Nat},Vals ys us->ys.all DF=true->ys.findIdx? (λz=>eqV z y)=some j->∃hj:j<us.length,eqU y us[j]=true/\∀m (hm:m<us.length),m<j->eqU y us[m]=false
 |_,_,j,.nil,_,e=>by simp at e
 |z::ys,u::us,j,.cons r t,f,e=>by
  rw[List.all_cons,Bool.and_eq_true] at f;rw[List.findIdx?_cons] at e;cases hz:eqV z y with
  |true=>
   rw[hz] at e;simp at e;subst e;exact⟨by simp,by show eqU y u=true;rw[KU r f.1,hz],λm hm h=>by omega⟩
  |false=>
   rw[hz] at e;cases q:ys.findIdx? (λz=>eqV z y) with
   |none=>rw[q] at e;simp at e
   |some k=>
    rw[q] at e;simp at e;subst e;obtain⟨hk,h1,h2⟩:=IA t f.2 q;refine⟨by simp;omega,by simpa using h1,λm hm h=>?_⟩;cases m with
    |zero=>show eqU y u=false;rw[KU r f.1,hz]
    |succ m=>simpa using h2 m (by simpa using hm) (by omega)
noncomputable abbrev Yi(Sq:Hp->Addr->List V->Prop):V->List V->Hp->VK->Prop:=λx xs H Q=>∃p ys y j,x=.ref p/\xs=[y]/\Sq H p ys/\DF y=true/\ys.all DF=true/\ys.findIdx? (λz=>eqV z y)=some j/\Q (.int j) H
theorem IY:MtR X "list.index" (Yi λH p ys=>SqL X.kw H p ys):=by
 intro w4 s O H x xs v us Q I rx rs h;obtain⟨p,ys,y,j,rfl,rfl,hp,fy,fys,hj,q⟩:=h;cases rx;obtain⟨u,rfl,ru⟩:=FM rs;obtain⟨its,rv,pl,hz⟩:=I.list hp;have hl:=rv.length;obtain⟨⟨cls,dd,data,sl⟩,ho,hc,n,hd⟩:=pl.isList;simp only at hc hd;subst hc hd;obtain⟨hj2,e1,e2⟩:=IA rv fys hj;have hn:=GO;refine call_meets PySem.F.slot_list_index ⟨_,ho,rfl⟩ PySem.F.entry_list_index (PySem.F.args_list_index_2 _ _) (SeqAt.list_indexAt _ its.toArray n dd sl u (eqU y) j (by rw[List.size_toArray];exact hj2) (by omega) (by simpa using e1) (λm hm h=>by simpa using e2 m (by simpa using hm) h)) ⟨ho,λw hw=>DZ ru fy rv fys w (by simpa using hw),?_⟩;exact⟨.int j,H,I.tok _,⟨_,rfl⟩,q⟩
noncomputable def WZ:D->List D->M D
 |d,[y]=>bnd (BP d) λds=>λZ=>match FR y,DL ds with
  |some y,some xs=>(xs.findIdx? λz=>eqV z y).map λ(j:Nat)=>(D.int (j:Int),Z)
  |_,_=>none
 |_,_=>Bb
theorem Ot{d r:D}{Z Z':Mh}{K:KW}{Y:Nat->Addr}{H:Hp}{x:V}{xs:List V}{as:List D}(R:RelH K Y Z H)(ia:Is K Y Z.length H d x)(ib:IsL K Y Z.length H as xs)(e:WZ d as Z=some (r,Z')):
  ∃p ys y j,x=.ref p/\xs=[y]/\(SqL K H p ys∨SqT K H p ys)/\DF y=true/\ys.all DF=true/\ys.findIdx? (λz=>eqV z y)=some j/\r=.int j/\Z'=Z:=by
 unfold WZ at e;split at e
 ·rename_i y0;obtain⟨ds,w5,e1,e2⟩:=AF e;obtain⟨hm,p,vs,rfl,h1,h2⟩:=DU R ia e1;subst hm;obtain⟨v,rfl,i1⟩:=FJ ib;split at e2
  ·rename_i w ws q1 q2;obtain⟨rfl,f1⟩:=F2 i1 q1;obtain⟨rfl,f2⟩:=FF h2 q2;cases hj:vs.findIdx? (λz=>eqV z v) with
   |none=>rw[hj] at e2;cases e2
   |some j=>rw[hj] at e2;cases e2;exact⟨p,vs,v,j,rfl,rfl,h1,f1,f2,hj,rfl,rfl⟩
  ·cases e2
 ·cases e
noncomputable def Hu(d:D)(as:List D):M D:=bnd (EO d) λ_=>WZ d as
theorem Q3:MtR X "list.index" (rMM X.kw Hu):=λw4 s O H x xs v us Q I rx rs h=>by
 obtain⟨Y,Z,a,as,d,Z',R,ia,ib,e,q⟩:=h;obtain⟨u,w5,e1,e2⟩:=AF e;have hm:=GT e1;subst hm;obtain⟨ds,w6,g1,g2⟩:=AF e1;obtain⟨_,p0,vs0,hx,hq,_⟩:=C8 R ia g1;obtain⟨p,ys,y,j,rfl,rfl,h1,f1,f2,hj,rfl,rfl⟩:=Ot R ia ib e2;cases hx;have hs:SqL X.kw H p0 ys:=by
  rcases h1 with z|z
  ·exact z
  ·obtain⟨its,_,pl,_⟩:=I.list hq;obtain⟨its2,_,pt,_⟩:=I.tuple z;obtain⟨o,e1,c1,_⟩:=pl.isList;obtain⟨o2,e2,c2,_⟩:=pt;rw[e1] at e2;cases e2;rw[c1] at c2;exact absurd c2 (by decide)
 exact IY w4 s O H _ _ v us Q I rx rs ⟨p0,ys,y,j,rfl,rfl,hs,f1,f2,hj,q Y H R.ext0 R _ (ofI _)⟩
end
end Mi
namespace Mi
open PySem L2
end Mi
local macro_rules | `(tactic| wtm_at "m")=>`(tactic| repeat first|exact Mi.pu_slot|exact Mi.pu_c|exact Mi.pu_true|exact Mi.pu_ix|exact Mi.pu_eqB|exact Mi.pu_nil|exact Mi.pu_inst|exact Mi.pu_len|apply Mi.pu_test|apply Mi.pu_op|apply Mi.pu_cons|apply Mi.pu_disp|apply Mi.pu_or|apply Mi.pu_and|apply Mi.pu_not)
namespace Ht
open PySem PySem.SetTable
abbrev Ris(l:List Nat):Prop:=l.Pairwise (· < ·)
theorem MU{xs:Array Nat}(r:Ris xs.toList){i k:Nat}(hk:k<xs.size)(h:i<k):xs[i]'(Nat.lt_trans h hk)<xs[k]:=by
 have:=List.pairwise_iff_getElem.mp r i k (by simpa using Nat.lt_trans h hk) (by simpa using hk) h;simpa using this
theorem QE{xs:Array Nat}(r:Ris xs.toList){i k:Nat}(hk:k<xs.size)(h:i<=k):xs[i]'(AAs h hk)<=xs[k]:=by
 rcases Nat.lt_or_eq_of_le h with z|z
 ·exact Nat.le_of_lt (MU r hk z)
 ·subst z;exact AAE _
structure Bel(xs:Array Nat)(j b:Nat):Prop where
 le:b<=xs.size
 lo:∀i (h:i<xs.size),i<b->xs[i]<j
 hi:∀i (h:i<xs.size),b<=i->j<=xs[i]
theorem IL{xs:Array Nat}{j:Nat}(r:Ris xs.toList):∀BE lo hi,lo<=hi->hi<=xs.size->hi-lo<=BE->(∀i (h:i<xs.size),i<lo->xs[i]<j)->(∀i (h:i<xs.size),hi<=i->j<=xs[i])->Bel xs j (below.go xs j BE lo hi)
 |0,lo,hi,h1,h2,h3,h4,h5=>by
  have:lo=hi:=by omega
  subst this;exact⟨h2,h4,h5⟩
 |BE+1,lo,hi,h1,h2,h3,h4,h5=>by
  unfold below.go;by_cases z:lo<hi
  ·rw[if_pos z];have hm:(lo+hi) / 2<hi:=by omega
   have hm2:lo<=(lo+hi) / 2:=by omega
   have hs:(lo+hi) / 2<xs.size:=by omega
   have e:xs.getD ((lo+hi) / 2) j=xs[(lo+hi) / 2]:=by simp[Array.getD,hs]
   dsimp only;rw[e];by_cases q:xs[(lo+hi) / 2]<j
   ·rw[if_pos q];exact IL r BE _ hi (by omega) h2 (by omega) (λi h hi'=>AAs (QE r hs (by omega)) q) h5
   ·rw[if_neg q];exact IL r BE lo _ hm2 (by omega) (by omega) h4 (λi h hi'=>AAt (Nat.le_of_not_lt q) (QE r h hi'))
  ·rw[if_neg z];have:lo=hi:=by omega
   subst this;exact⟨h2,h4,h5⟩
theorem ES{xs:Array Nat}(r:Ris xs.toList)(j:Nat):Bel xs j (below xs j):=
 IL r _ 0 _ (AAl _) (AAE _) (by omega) (λi _ h=>absurd h (by omega)) (λi h h2=>absurd h2 (by omega))
theorem SL{xs:Array Nat}(r:Ris xs.toList){k:Nat}(hk:k<xs.size):below xs xs[k]=k:=by
 have b:=ES r xs[k];rcases Nat.lt_trichotomy (below xs xs[k]) k with z|z|z
 ·have h1:=b.hi _ (Nat.lt_trans z hk) (AAE _);have h2:=MU r hk z;omega
 ·exact z
 ·have:=b.lo k hk z;omega
theorem Mz{xs:Array Nat}(r:Ris xs.toList){k:Nat}(hk:k<xs.size):below xs (xs[k]+1)=k+1:=by
 have b:=ES r (xs[k]+1);rcases Nat.lt_trichotomy (below xs (xs[k]+1)) (k+1) with z|z|z
 ·have h1:=b.hi k hk (by omega);omega
 ·exact z
 ·have h1:=b.lo (k+1) (by have:=b.le;omega) z;have h2:=MU r (k:=k+1) (i:=k) (by have:=b.le;omega) (by omega);omega
theorem My{xs:Array Nat}(r:Ris xs.toList):below xs 0=0:=by
 have b:=ES r 0;rcases Nat.eq_zero_or_pos (below xs 0) with z|z
 ·exact z
 ·have:=b.lo 0 (by have:=b.le;omega) z;omega
theorem P4{t:SetTable}(r:Ris t.place.toList){j:Nat}(h:j∈t.place.toList):∃i,t.slot j=.live i:=by
 obtain⟨k,hk,e⟩:=List.getElem_of_mem h;have hk':k<t.place.size:=by simpa using hk
 have e':t.place[k]=j:=by simpa using e
 refine⟨k,?_⟩;unfold slot;have b:below t.place j=k:=by rw[←e'];exact SL r hk'
 dsimp only;rw[b,if_pos (by simp[hk',e'])]
theorem EE{t:SetTable}(d:t.dummies=#[])(j:Nat):t.slot j≠.dummy:=by
 unfold slot;dsimp only;split
 ·exact λh=>by cases h
 ·rw[d];have:has (#[]:Array Nat) j=false:=by unfold has;simp
  rw[this];exact λh=>by cases h
theorem ON{t:SetTable}{i j:Nat}(h:t.slot j=.live i):j∈t.place.toList:=by
 unfold slot at h;dsimp only at h;split at h
 ·rename_i e;have e':t.place[below t.place j]?=some j:=by simpa using e
  obtain⟨hk,e2⟩:=Array.getElem?_eq_some_iff.mp e';rw[←e2];simp
 ·split at h<;>cases h
theorem TZ{xs:Array Nat}(r:Ris xs.toList){j:Nat}(h:j∉xs.toList):Ris (insertAt xs (below xs j) j).toList:=by
 have b:=ES r j;rw[toList_insertAt];refine List.pairwise_append.mpr ⟨List.Pairwise.sublist (List.take_sublist _ _) r,AAz.mpr ⟨λy hy=>?_,List.Pairwise.sublist (List.drop_sublist _ _) r⟩,λx hx y hy=>?_⟩
 ·obtain⟨i,hi,e⟩:=List.getElem_of_mem hy;rw[List.getElem_drop] at e;have hs:below xs j+i<xs.size:=by simp at hi;omega
  have:=b.hi _ hs (Nat.le_add_right _ _);have e2:xs[below xs j+i]=y:=by simpa using e
  have hne:y≠j:=λz=>h (by rw[←z];exact List.mem_of_mem_drop hy);omega
 ·have hxj:x<j:=by
   obtain⟨i,hi,e⟩:=List.getElem_of_mem hx;rw[List.getElem_take] at e;have hi2:i<below xs j/\i<xs.size:=by
    have:i<min (below xs j) xs.size:=by simpa using hi
    omega
   have e2:xs[i]'hi2.2=x:=by simpa using e
   have:=b.lo _ hi2.2 hi2.1;omega
  rcases AAI.mp hy with z|z
  ·rw[z];exact hxj
  ·obtain⟨i,hi,e⟩:=List.getElem_of_mem z;rw[List.getElem_drop] at e;have hs:below xs j+i<xs.size:=by simp at hi;omega
   have:=b.hi _ hs (Nat.le_add_right _ _);have e2:xs[below xs j+i]=y:=by simpa using e
   omega
noncomputable def lp(mask:Nat):Nat->Nat×Nat->Nat×Nat
 |0,x=>x
 |n+1,x=>lp mask n (leap mask x.1 x.2)
theorem He(mask:Nat):∀(a b:Nat) (x:Nat×Nat),lp mask (a+b) x=lp mask b (lp mask a x)
 |0,b,x=>by rw[Nat.zero_add];rfl
 |a+1,b,x=>by
  rw[show a+1+b=(a+b)+1 from by omega];exact He mask a b _
theorem Mf(mask:Nat):∀(n:Nat) (x:Nat×Nat),(lp mask n x).2=x.2 / 32 ^ n
 |0,x=>by simp[lp]
 |n+1,x=>by
  show (lp mask n (leap mask x.1 x.2)).2=_;rw[Mf mask n];show x.2 / 32 / 32 ^ n=_;rw[Nat.div_div_eq_div_mul,Nat.pow_succ,Nat.mul_comm]
theorem Uv(mask:Nat):∀(n:Nat) (x:Nat×Nat),x.1<mask+1->(lp mask n x).1<mask+1
 |0,x,h=>h
 |n+1,x,h=>Uv mask n _ (Nat.mod_lt _ (by omega))
theorem Vh:∀i,i<8->∀j,j<8->∃n,n<8/\(lp 7 n (i,0)).1=j:=by decide +kernel
theorem TW:∀i,i<16->∀j,j<16->∃n,n<16/\(lp 15 n (i,0)).1=j:=by decide +kernel
theorem TV:∀i,i<32->∀j,j<32->∃n,n<32/\(lp 31 n (i,0)).1=j:=by decide +kernel
theorem Qo:∀j,j<128->∃n,n<128/\(lp 127 n (0,0)).1=j:=by decide +kernel
theorem Mb:lp 127 128 (0,0)=(0,0):=by decide +kernel
theorem P8(i:Nat)(hi:i<128)(j:Nat)(hj:j<128):∃n,n<128/\(lp 127 n (i,0)).1=j:=by
 obtain⟨a,ha,ea⟩:=Qo i hi;obtain⟨b,hb,eb⟩:=Qo j hj;have z:∀n,(lp 127 n (0,0)).2=0:=λn=>by rw[Mf];exact Nat.zero_div _
 have ia:(i,0)=lp 127 a (0,0):=by rw[←ea];exact Prod.ext rfl (z a).symm
 by_cases h:a<=b
 ·refine⟨b-a,by omega,?_⟩;rw[ia,←He,show a+(b-a)=b by omega];exact eb
 ·refine⟨b+128-a,by omega,?_⟩;rw[ia,←He,show a+(b+128-a)=128+b by omega,He,Mb];exact eb
abbrev Sm(mask:Nat):Prop:=mask=7∨mask=15∨mask=31∨mask=127
theorem U9{mask:Nat}(hm:Sm mask){i p:Nat}(hi:i<mask+1)(hp:p<2 ^ 64){j:Nat}(hj:j<mask+1):∃n,n<turns mask/\(lp mask n (i,p)).1=j:=by
 have h0:(lp mask 13 (i,p)).2=0:=by
  rw[Mf];exact Nat.div_eq_of_lt (Nat.lt_trans hp (by decide))
 have h1:=Uv mask 13 (i,p) hi;have e:lp mask 13 (i,p)=((lp mask 13 (i,p)).1,0):=by rw[←h0]
 have:∃n,n<mask+1/\(lp mask n ((lp mask 13 (i,p)).1,0)).1=j:=by
  rcases hm with z|z|z|z<;>subst z
  ·exact Vh _ h1 j hj
  ·exact TW _ h1 j hj
  ·exact TV _ h1 j hj
  ·exact P8 _ h1 j hj
 obtain⟨n,h2,h3⟩:=this;refine⟨13+n,by unfold turns;omega,?_⟩;rw[He,e];exact h3
theorem N6(h:Int):bits h<2 ^ 64:=by
 unfold bits;have h1:=AAY h (show (2 ^ 64:Int)≠0 by decide);have h2:=AAZ h (show (0:Int)<2 ^ 64 by decide);omega
abbrev start(t:SetTable)(i pt:Nat):Probe:={ j:=i,more:=runEnd t.mask i-i,i:=i,perturb:=pt,dummy:=none }
theorem JB{t:SetTable}(d:t.dummies=#[]){f:Nat->Int}{h:Int}(hf:∀i,f i≠h):∀(BE:Nat) (p:Probe) (m:Met),p.dummy=none->probe.go t f h BE p=some m->∃j,m=.empty j none/\t.slot j=.empty
 |0,p,m,hp,e=>by cases e
 |BE+1,p,m,hp,e=>by
  unfold probe.go at e;have hadv:(t.advance p).dummy=none:=by
   unfold advance;split
   ·exact hp
   ·exact hp
  split at e
  ·rename_i q;cases e;exact⟨p.j,by rw[hp],q⟩
  ·rename_i q;exact absurd q (EE d _)
  ·rename_i i q;rw[if_neg (by simpa using hf i)] at e;exact JB d hf BE _ m hadv e
theorem LC{t:SetTable}(d:t.dummies=#[]){f:Nat->Int}{h:Int}(hf:∀i,f i≠h):∀(more BE j i pt:Nat),probe.go t f h (BE+more+1) { j:=j,more:=more,i:=i,perturb:=pt,dummy:=none }=none->
  t.slot j≠.empty/\probe.go t f h BE (start t (leap t.mask i pt).1 (leap t.mask i pt).2)=none
 |0,BE,j,i,pt,e=>by
  unfold probe.go at e;split at e
  ·cases e
  ·rename_i q;exact absurd q (EE d _)
  ·rename_i k q;rw[if_neg (by simpa using hf k)] at e;have q':t.slot j=.live k:=q;refine⟨by rw[q'];exact λz=>(by cases z),?_⟩;have:t.advance { j:=j,more:=0,i:=i,perturb:=pt,dummy:=none }=start t (leap t.mask i pt).1 (leap t.mask i pt).2:=rfl;rw[this] at e;exact e
 |more+1,BE,j,i,pt,e=>by
  rw[show BE+(more+1)+1=(BE+more+1)+1 from by omega] at e;unfold probe.go at e;split at e
  ·cases e
  ·rename_i q;exact absurd q (EE d _)
  ·rename_i k q;rw[if_neg (by simpa using hf k)] at e;have q':t.slot j=.live k:=q;refine⟨by rw[q'];exact λz=>(by cases z),?_⟩;have:t.advance { j:=j,more:=more+1,i:=i,perturb:=pt,dummy:=none }={ j:=j+1,more:=more,i:=i,perturb:=pt,dummy:=none }:=by
    unfold advance;rw[if_pos (by simp)];rfl
   rw[this] at e;exact(LC d hf more BE (j+1) i pt e).2
theorem Iy{t:SetTable}(d:t.dummies=#[]){f:Nat->Int}{h:Int}(hf:∀i,f i≠h):∀(m BE i pt:Nat),10 * m<=BE->probe.go t f h BE (start t i pt)=none->∀n,n<m->t.slot (lp t.mask n (i,pt)).1≠.empty
 |0,_,_,_,_,_,n,hn=>absurd hn (by omega)
 |m+1,BE,i,pt,hl,e,n,hn=>by
  have hr:runEnd t.mask i-i<=9:=by unfold runEnd;split<;>omega
  have ef:BE=(BE-(runEnd t.mask i-i)-1)+(runEnd t.mask i-i)+1:=by omega
  rw[ef] at e;obtain⟨h1,h2⟩:=LC d hf _ _ _ _ _ e;cases n with
  |zero=>exact h1
  |succ n=>exact Iy d hf m _ _ _ (by omega) h2 n (by omega)
theorem Fw{α:Type}[DecidableEq α]:∀{l r:List α},l.Nodup->(∀x∈l,x∈r)->l.length<=r.length
 |[],_,_,_=>AAl _
 |a::l,r,hn,hs=>by
  obtain⟨h1,h2⟩:=List.nodup_cons.mp hn;have ha:=hs a (AAP ..);have:=Fw (r:=r.erase a) h2 λx hx=>(List.mem_erase_of_ne (λz=>h1 (by rw[←z];exact hx))).mpr (hs x (AAQ _ hx));rw[List.length_erase_of_mem ha] at this;have hp:=List.length_pos_of_mem ha;simp only[AAH];omega
theorem UW{t:SetTable}(d:t.dummies=#[])(hm:Sm t.mask)(r:Ris t.place.toList)(hs:t.place.size<=t.mask)(h:Int):∃j,t.freeSlot h=some (j,false)/\t.slot j=.empty:=by
 have hf:∀i:Nat,(λ_:Nat=>h+1) i≠h:=λi=>by show h+1≠h;omega
 unfold freeSlot;cases e:t.probe (λ_=>h+1) h (t.probeStart h) with
 |some m=>
  obtain⟨j,rfl,q⟩:=JB d hf _ _ m rfl e;exact⟨j,rfl,q⟩
 |none=>
  exfalso;have e':probe.go t (λ_=>h+1) h (10 * turns t.mask) (start t (bits h % (t.mask+1)) (bits h))=none:=e;have hv:=Iy d hf (turns t.mask) _ _ _ (AAE _) e';have all:∀j∈List.range (t.mask+1),j∈t.place.toList:=λj hj=>by
   obtain⟨n,h1,h2⟩:=U9 hm (i:=bits h % (t.mask+1)) (p:=bits h) (Nat.mod_lt _ (by omega)) (N6 h) (List.mem_range.mp hj);have h3:=hv n h1;rw[h2] at h3;cases q:t.slot j with
   |empty=>exact absurd q h3
   |dummy=>exact absurd q (EE d _)
   |live i=>exact ON q
  have:=Fw List.nodup_range all;simp at this;omega
theorem Hz{α β:Type}{f g:α->Option β}:∀{l:List α},(∀x∈l,f x=g x)->l.filterMap f=l.filterMap g
 |[],_=>rfl
 |a::l,h=>by
  have h1:=h a (AAP ..);have h2:=Hz (l:=l) λx hx=>h x (AAQ _ hx);cases q:g a with
  |none=>rw[List.filterMap_cons_none (h1.trans q),List.filterMap_cons_none q,h2]
  |some b=>rw[AAv (h1.trans q),AAv q,h2]
theorem Ri{β:Type}{f g:Nat->Option β}{j:Nat}{b:β}(hj:f j=none)(hg:g j=some b)(ho:∀i,i≠j->g i=f i):∀{l:List Nat},l.Nodup->j∈l->(l.filterMap g).Perm (b::l.filterMap f)
 |[],_,h=>by cases h
 |a::l,hn,h=>by
  obtain⟨h1,h2⟩:=List.nodup_cons.mp hn;by_cases e:a=j
  ·subst e;have same:l.filterMap g=l.filterMap f:=Hz λi hi=>ho i λz=>h1 (by rw[←z];exact hi);rw[AAv hg,List.filterMap_cons_none hj,same]
  ·have hl:j∈l:=(AAI.mp h).resolve_left λz=>e z.symm;have ih:=Ri hj hg ho h2 hl;cases q:f a with
   |none=>rw[List.filterMap_cons_none ((ho a e).trans q),List.filterMap_cons_none q];exact ih
   |some c=>
    rw[AAv ((ho a e).trans q),AAv q];exact(ih.cons c).trans (List.Perm.swap b c _)
theorem Lc{mask:Nat}{owner:Array (Option Nat)}:∀(BE i pt j:Nat),layClean.free mask owner BE i pt=some j->owner.getD j (some 0)=none
 |0,_,_,_,e=>by cases e
 |BE+1,i,pt,j,e=>by
  unfold layClean.free at e;split at e
  ·rename_i k q;cases e;have:=List.find?_some q;simpa using this
  ·exact Lc BE _ _ j e
theorem JQ{mask:Nat}{owner:Array (Option Nat)}:∀(m i pt:Nat),layClean.free mask owner m i pt=none->∀n,n<m->owner.getD (lp mask n (i,pt)).1 (some 0)≠none
 |0,_,_,_,n,hn=>absurd hn (by omega)
 |m+1,i,pt,e,n,hn=>by
  unfold layClean.free at e;split at e
  ·cases e
  ·rename_i q;cases n with
   |zero=>
    have hr:i<=runEnd mask i:=by unfold runEnd;split<;>omega
    have:=List.find?_eq_none.mp q 0 (List.mem_range.mpr (by omega));intro z;apply this;show (owner.getD (i+0) (some 0)).isNone=true;rw[Nat.add_zero];have z':owner.getD i (some 0)=none:=z;rw[z'];rfl
   |succ n=>exact JQ m _ _ e n (by omega)
noncomputable abbrev own(mask:Nat)(owner:Array (Option Nat)):List Nat:=(List.range (mask+1)).filterMap λj=>owner.getD j none
theorem Ow{owner:Array (Option Nat)}{j:Nat}(h:owner.getD j (some 0)=none):j<owner.size/\owner.getD j none=none:=by
 unfold Array.getD at h ⊢;split at h
 ·rename_i q;exact⟨q,by rw[dif_pos q];exact h⟩
 ·cases h
theorem Ox{owner:Array (Option Nat)}{j:Nat}(hj:j<owner.size)(h:owner.getD j (some 0)≠none):∃k,owner.getD j none=some k:=by
 unfold Array.getD at h ⊢;rw[dif_pos hj] at h ⊢;cases e:owner[j] with
 |none=>exact absurd e h
 |some k=>exact⟨k,e⟩
theorem UX{mask:Nat}(hm:Sm mask){owner:Array (Option Nat)}(hs:owner.size=mask+1){k:Nat}(hp:(own mask owner).Perm (List.range k))(hk:k<=mask)(h:Int):
  ∃j,layClean.free mask owner (turns mask) (bits h % (mask+1)) (bits h)=some j:=by
 cases e:layClean.free mask owner (turns mask) (bits h % (mask+1)) (bits h) with
 |some j=>exact⟨j,rfl⟩
 |none=>
  exfalso;have hv:=JQ _ _ _ e;have len:∀l:List Nat,(∀j∈l,j<mask+1)->(l.filterMap λj=>owner.getD j none).length=l.length:=by
   intro l
   induction l with
   |nil=>intro _;rfl
   |cons a l ih=>
    intro ha;obtain⟨n,h1,h2⟩:=U9 hm (i:=bits h % (mask+1)) (p:=bits h) (Nat.mod_lt _ (by omega)) (N6 h) (ha a (AAP ..));have h3:=hv n h1;rw[h2] at h3;obtain⟨c,hc⟩:=Ox (by rw[hs];exact ha a (AAP ..)) h3;rw[AAv (f:=λj=>owner.getD j none) hc,AAH,ih λj hj=>ha j (AAQ _ hj),AAH]
  have h1:=len (List.range (mask+1)) λj hj=>List.mem_range.mp hj;have h2:=hp.length_eq;simp only[List.length_range] at h1 h2;have h3:(own mask owner).length=mask+1:=h1;omega
noncomputable def SG(mask:Nat)(acc:Option (Array (Option Nat)×Nat))(h:Int):Option (Array (Option Nat)×Nat):=do
 let (owner,k) ←acc
 let j ←layClean.free mask owner (turns mask) (bits h % (mask+1)) (bits h)
 pure (owner.setIfInBounds j (some k),k+1)
theorem Lp{mask:Nat}(hm:Sm mask):∀(l:List Int) (owner:Array (Option Nat)) (k:Nat),owner.size=mask+1->(own mask owner).Perm (List.range k)->k+l.length<=mask->
  ∃owner',l.foldl (SG mask) (some (owner,k))=some (owner',k+l.length)/\owner'.size=mask+1/\(own mask owner').Perm (List.range (k+l.length))
 |[],owner,k,hs,hp,_=>⟨owner,rfl,hs,hp⟩
 |h::l,owner,k,hs,hp,hk=>by
  obtain⟨j,e⟩:=UX hm hs hp (by omega) h;obtain⟨hj,hn⟩:=Ow (Lc _ _ _ _ e);have st:SG mask (some (owner,k)) h=some (owner.setIfInBounds j (some k),k+1):=by
   show ((layClean.free mask owner (turns mask) (bits h % (mask+1)) (bits h)).bind λj=>some (owner.setIfInBounds j (some k),k+1))=_;rw[e];rfl
  have hp':(own mask (owner.setIfInBounds j (some k))).Perm (List.range (k+1)):=by
   have:=Ri (f:=λj=>owner.getD j none) (g:=λi=>(owner.setIfInBounds j (some k)).getD i none) (b:=k) hn (by simp[Array.getD,hj]) (λi hi=>by
    simp only[Array.getD,Array.size_setIfInBounds];split
    ·rename_i hi2;show (owner.setIfInBounds j (some k))[i]'(by rw[Array.size_setIfInBounds];exact hi2)=owner[i];rw[Array.getElem_setIfInBounds_ne];exact hi.symm
    ·rfl) (List.nodup_range (n:=mask+1)) (List.mem_range.mpr (by omega))
   refine this.trans ((hp.cons k).trans ?_);rw[List.range_succ];exact(List.perm_append_singleton k (List.range k)).symm
  obtain⟨owner',e1,e2,e3⟩:=Lp hm l (owner.setIfInBounds j (some k)) (k+1) (by rw[Array.size_setIfInBounds];exact hs) hp' (by simp at hk;omega);refine⟨owner',?_,e2,?_⟩
  ·rw[List.foldl_cons,st,e1];simp only[AAH];rw[show k+1+l.length=k+(l.length+1) from by omega]
  ·rw[show k+(h::l).length=k+1+l.length from by simp only[AAH];omega];exact e3
theorem SD{mask:Nat}(hm:Sm mask)(hashes:Array Int)(hk:hashes.size<=mask):∃owner,layClean mask hashes=some owner/\owner.size=mask+1/\(own mask owner).Perm (List.range hashes.size):=by
 have h0:(own mask (Array.replicate (mask+1) none)).Perm (List.range 0):=by
  have:own mask (Array.replicate (mask+1) none)=[]:=by
   unfold own;rw[List.filterMap_eq_nil_iff];intro j hj;have:=List.mem_range.mp hj;simp[Array.getD,this]
  rw[this];exact List.Perm.refl _
 obtain⟨owner,e1,e2,e3⟩:=Lp hm hashes.toList (Array.replicate (mask+1) none) 0 (by simp) h0 (by simpa using hk);simp only[Nat.zero_add,Array.length_toList] at e1 e3;refine⟨owner,?_,e2,e3⟩;have:layClean mask hashes=(hashes.foldl (SG mask) (some (Array.replicate (mask+1) none,0))).map (·.1):=rfl;rw[this,←Array.foldl_toList,e1];rfl
theorem UH{mask:Nat}(hm:Sm mask)(hashes:Array Int)(hk:hashes.size<=mask)(finger moves:Nat)(led plain:Bool):
  ∃place order,laid mask finger moves led plain hashes=some ({ mask,place,dummies:=#[],finger,led,moves,plain },order)/\Ris place.toList/\place.size=hashes.size/\order.toList.Perm (List.range hashes.size):=by
 obtain⟨owner,e1,e2,e3⟩:=SD hm hashes hk;unfold laid;rw[e1];refine⟨_,_,rfl,?_,?_,?_⟩
 ·simp only[];rw[List.map_filterMap];have:(List.range (mask+1)).filterMap (λx=>Option.map (λx=>x.1) (Option.map (λx_1=>(x,x_1)) (owner.getD x none)))=(List.range (mask+1)).filter λx=>(owner.getD x none).isSome:=by
   induction List.range (mask+1) with
   |nil=>rfl
   |cons a l ih=>
    cases q:owner.getD a none with
    |none=>rw[List.filterMap_cons_none (by rw[q];rfl),List.filter_cons_of_neg (by rw[q];simp),ih]
    |some c=>rw[AAv (b:=a) (by rw[q];rfl),List.filter_cons_of_pos (by rw[q];rfl),ih]
  rw[this];exact List.Pairwise.sublist List.filter_sublist List.pairwise_lt_range
 ·have:=e3.length_eq;rw[List.length_range] at this;rw[←this];simp only[List.size_toArray,AAF];unfold own
  induction List.range (mask+1) with
  |nil=>rfl
  |cons a l ih=>
   cases q:owner.getD a none with
   |none=>rw[List.filterMap_cons_none (by rw[q];rfl),List.filterMap_cons_none (f:=λj=>owner.getD j none) q,ih]
   |some c=>rw[AAv (b:=(a,c)) (by rw[q];rfl),AAv (f:=λj=>owner.getD j none) q,AAH,AAH,ih]
 ·simp only[];rw[List.map_filterMap];have:(List.range (mask+1)).filterMap (λx=>Option.map (λx=>x.2) (Option.map (λx_1=>(x,x_1)) (owner.getD x none)))=own mask owner:=by
   unfold own;refine Hz λi _=>?_;cases owner.getD i none<;>rfl
  rw[this];exact e3
structure Tab(t:SetTable)(n:Nat):Prop where
 ris:Ris t.place.toList
 sz:t.place.size=n
 dm:t.dummies=#[]
 mks:(t.mask=7/\n<=4)∨(t.mask=31/\n<=18)∨(t.mask=127/\19<=n/\n<=75)
 pl:t.plain=true
theorem Tab.sm{t:SetTable}{n:Nat}(h:Tab t n):Sm t.mask:=h.mks.elim (λz=>.inl z.1) λz=>z.elim (λz=>.inr (.inr (.inl z.1))) λz=>.inr (.inr (.inr z.1))
theorem OI(led:Bool):Tab (.fresh 0 0 led) 0:=⟨List.Pairwise.nil,rfl,rfl,.inl ⟨rfl,by omega⟩,rfl⟩
theorem Tab.fits{t:SetTable}{n:Nat}(h:Tab t n):t.fits n=true:=by
 unfold SetTable.fits fill;rw[h.sz,h.dm];rcases h.mks with ⟨a,b⟩|⟨a,b⟩|⟨a,b⟩<;>simp[a]<;>omega
theorem WK{t:SetTable}{es:Array (Int×Value)}(T:Tab t es.size)(hn:es.size+1<=75)(h:Int)(x:Value):
  ∃t1 es1,layNew t es h x=(es1,t1,false,false)/\Ris t1.place.toList/\t1.place.size=es.size+1/\t1.dummies=#[]/\t1.mask=t.mask/\t1.plain=true/\t1.led=t.led/\t1.moves=t.moves/\t1.finger=t.finger/\es1.toList.Perm (es.toList++[(h,x)]):=by
 have hsz:=T.sz;obtain⟨j,e,q⟩:=UW T.dm T.sm T.ris (by rcases T.mks with ⟨a,b⟩|⟨a,b⟩|⟨a,b⟩<;>omega) h;have hj:j∉t.place.toList:=λz=>by
  obtain⟨i,hi⟩:=P4 T.ris z;rw[q] at hi;cases hi
 have hperm:=layNew_perm t es h x;have hz:(insertAt t.place (below t.place j) j).size=es.size+1:=by
  have:=(insertAt_perm t.place (below t.place j) j).length_eq;simp at this;omega
 have hd:(if has t.dummies j=true then eraseAt t.dummies (below t.dummies j) else t.dummies)=#[]:=by
  rw[T.dm];have:has (#[]:Array Nat) j=false:=by unfold has;simp
  rw[this];rfl
 have hes:(insertAt es (below t.place j) (h,x)).size=es.size+1:=by
  have:=(insertAt_perm es (below t.place j) (h,x)).length_eq;simpa using this
 have hfit:(t.put j).1.fits (es.size+1)=true:=by
  unfold SetTable.fits fill put;simp only[hd,hz];rcases T.mks with ⟨a,b⟩|⟨a,b⟩|⟨a,b⟩<;>simp[a]<;>omega
 have hl:layNew t es h x=(insertAt es (below t.place j) (h,x),(t.put j).1,false,false):=by
  unfold layNew;rw[e];show (insertAt es (below t.place j) (h,x),(t.put j).1.orStandIn (insertAt es (below t.place j) (h,x)).size,false,!(t.put j).1.fits (insertAt es (below t.place j) (h,x)).size)=_;rw[hes,hfit];unfold orStandIn;rw[hfit];rfl
 rw[hl] at hperm;refine⟨_,_,hl,TZ T.ris hj,hz,hd,rfl,T.pl,rfl,rfl,rfl,?_⟩;rw[Array.toList_push] at hperm;exact hperm
theorem QI{M:Nat}{t:SetTable}{es:Array (Int×Value)}{wanted:Nat}(hM:Sm M)(hw:sizeAbove wanted=M+1)(hn:es.size<=M)(hk:(M=7/\es.size<=4)∨(M=31/\es.size<=18)∨(M=127/\19<=es.size/\es.size<=75))(hp:t.plain=true):
  ∃t1 es1,relayAll t es wanted=(es1,t1,false)/\Tab t1 es1.size/\t1.led=t.led/\es1.toList.Perm es.toList:=by
 have hperm:=relayAll_perm t es wanted;obtain⟨place,order,e,r,hs,ho⟩:=UH (mask:=M) hM (es.map (·.1)) (by simp;omega) t.finger (t.movedTo M) t.led t.plain;simp only[Array.size_map] at hs ho;have hsz:(order.filterMap (es[·]?)).size=es.size:=by
  have h1:((order.filterMap (es[·]?)).toList).Perm es.toList:=by
   rw[Array.toList_filterMap];exact(ho.filterMap _).trans (by rw[filterMap_getElem?_range])
  have:=h1.length_eq
  rwa [Array.length_toList,Array.length_toList] at this
 have hl:relayAll t es wanted=(order.filterMap (es[·]?),{ mask:=M,place,dummies:=#[],finger:=t.finger,led:=t.led,moves:=t.movedTo M,plain:=t.plain },false):=by
  unfold relayAll relaid;rw[hw,Nat.add_sub_cancel];rw[e];simp only[];have c1:coversAll order es.size=true:=by
   unfold coversAll;exact List.isPerm_iff.mpr ho
  have c2:SetTable.fits { mask:=M,place,dummies:=#[],finger:=t.finger,led:=t.led,moves:=t.movedTo M,plain:=t.plain } (order.filterMap (es[·]?)).size=true:=by
   unfold SetTable.fits fill;rw[hsz];simp[hs];omega
  rw[c1,c2];rfl
 rw[hl] at hperm;exact⟨_,_,hl,⟨r,by rw[hsz];exact hs,rfl,by rw[hsz];exact hk,hp⟩,rfl,hperm⟩
theorem QH{t:SetTable}{es:Array (Int×Value)}{wanted:Nat}(hw:sizeAbove wanted=32)(hn:es.size<=18)(hp:t.plain=true):
  ∃t1 es1,relayAll t es wanted=(es1,t1,false)/\Tab t1 es1.size/\t1.led=t.led/\es1.toList.Perm es.toList:=QI (M:=31) (.inr (.inr (.inl rfl))) hw (by omega) (.inr (.inl ⟨rfl,hn⟩)) hp
noncomputable def BS(xs:List Int):List Int:=xs.foldl (λys x=>if x∈ys then ys else ys++[x]) []
theorem GN(xs:List Int)(x:Int):BS (xs++[x])=if x∈BS xs then BS xs else BS xs++[x]:=by
 unfold BS;rw[List.foldl_append];rfl
theorem NX:∀(xs ys:List Int),∃zs,xs.foldl (λys x=>if x∈ys then ys else ys++[x]) ys=ys++zs
 |[],ys=>⟨[],by simp⟩
 |x::xs,ys=>by
  rw[List.foldl_cons];obtain⟨zs,e⟩:=NX xs (if x∈ys then ys else ys++[x]);rw[e];split
  ·exact⟨zs,rfl⟩
  ·exact⟨x::zs,by simp⟩
theorem Qt(xs ys:List Int):∃zs,BS (xs++ys)=BS xs++zs:=by
 unfold BS;rw[List.foldl_append];exact NX _ _
theorem Og(xs:List Int)(i:Nat):(BS (xs.take i)).length<=(BS xs).length:=by
 obtain⟨zs,e⟩:=Qt (xs.take i) (xs.drop i);rw[List.take_append_drop] at e;rw[e,AAG];omega
theorem Ky{p:List Int->Prop}(h0:p [])(h1:∀xs x,p xs->p (xs++[x]))(xs:List Int):p xs:=by
 rw[←List.reverse_reverse xs]
 induction xs.reverse with
 |nil=>exact h0
 |cons a l ih=>rw[List.reverse_cons];exact h1 _ _ ih
theorem LN(xs:List Int)(k:Int):k∈BS xs↔k∈xs:=by
 refine Ky (p:=λxs=>k∈BS xs↔k∈xs) (by simp[BS]) (λxs x ih=>?_) xs;rw[GN];split
 ·rename_i h;simp only[AAJ,AAK,←ih];exact⟨.inl,λz=>z.elim id λe=>e ▸ h⟩
 ·simp only[AAJ,AAK,ih]
theorem Hc(xs:List Int):(BS xs).Nodup:=by
 refine Ky (p:=λxs=>(BS xs).Nodup) (by simp[BS]) (λxs x ih=>?_) xs;rw[GN];split
 ·exact ih
 ·rename_i h;rw[List.nodup_append];refine⟨ih,by simp,λa ha b hb=>?_⟩;simp at hb;subst hb;exact λe=>h (e ▸ ha)
open PyProof.Rows
abbrev EN(l:List (Int×Value))(ks:List Int):Prop:=IntsAre (l.map (·.2)) ks
theorem GR:∀{vs ws:List Value} (_:vs.Perm ws) {ks:List Int},IntsAre ws ks->∃ms,IntsAre vs ms/\ms.Perm ks:=by
 intro vs ws p
 induction p with
 |nil=>intro ks h;cases h;exact⟨[],.nil,.refl _⟩
 |cons x _ ih=>
  intro ks h;cases h with
  |cons n t h=>
   obtain⟨ms,h1,h2⟩:=ih h;exact⟨n::ms,.cons n t h1,h2.cons n⟩
 |swap x y l=>
  intro ks h;cases h with
  |cons n t h=>
   cases h with
   |cons m u h=>exact⟨m::n::_,.cons m u (.cons n t h),.swap n m _⟩
 |trans _ _ ih1 ih2=>
  intro ks h;obtain⟨ms,h1,h2⟩:=ih2 h;obtain⟨ls,h3,h4⟩:=ih1 h1;exact⟨ls,h3,h4.trans h2⟩
theorem Ru:∀{l:List (Int×Value)} {ks:List Int},EN l ks->∀(k:Int),(∃e∈l,Value.isInt k e.2=true)↔k∈ks
 |[],_,h,k=>by
  have h:IntsAre [] _:=h;cases h;simp
 |e::l,_,h,k=>by
  obtain⟨a,v⟩:=e;have h:IntsAre (v::l.map (·.2)) _:=h;cases h with
  |cons n t h1=>
   have ih:=Ru (l:=l) h1 k;constructor
   ·rintro⟨e,he,q⟩;rcases AAI.mp he with rfl|he
    ·have:Value.isInt k (.int n t)=true:=q;simp[Value.isInt] at this;subst this;exact AAP ..
    ·exact AAQ _ (ih.mp ⟨e,he,q⟩)
   ·intro hk;rcases AAI.mp hk with rfl|hk
    ·exact⟨_,AAP ..,by simp[Value.isInt]⟩
    ·obtain⟨e,he,q⟩:=ih.mpr hk;exact⟨e,AAQ _ he,q⟩
def SetI(prog:Program)(w:World)(h:Heap)(a:Addr)(ks:List Int):Prop:=
 ∃o es ep t,h.get? a=some o/\o.ExactSet/\o.data=.set es ep t/\ElemsOf (intKind prog w) es.toList/\(∃ns,EN es.toList ns/\ns.Perm ks)/\Tab t es.size/\t.led=!(w.params.followText "set-order")
theorem SetI.at{prog:Program}{w:World}{h h':Heap}{a:Addr}{ks:List Int}(z:SetI prog w h a ks)(k:∀o,h.get? a=some o->h'.get? a=some o):SetI prog w h' a ks:=by
 obtain⟨o,es,ep,t,e,rest⟩:=z;exact⟨o,es,ep,t,k o e,rest⟩
theorem KZ{l:Array (Int×Value)}{ns ks:List Int}(h:EN l.toList ns)(p:ns.Perm ks):l.size=ks.length:=by
 have h1:=congrArg List.length h.nums;rw[AAF,AAF,Array.length_toList] at h1;rw[h1,p.length_eq]
section
variable{prog:Program}{w:World}{A:Around}{E:Value->Shared->Prop}{s:Shared}
theorem G4{h:Heap}{a:Addr}{o:Obj}{es:Array (Int×Value)}{ep:Nat}{t:SetTable}(ho:h.get? a=some o)(hd:o.data=.set es ep t)(es':Array (Int×Value))(t':SetTable):
  (h.update a (Obj.putSet es' t')).get? a=some { o with data:=.set es' (ep+1) t' }:=by
 have:=Heap.get?_update_self (Obj.putSet es' t') ho (by rw[putSet_of es' t' hd];rfl);rw[putSet_of es' t' hd] at this;exact this
theorem P7{a:Addr}{ks:List Int}{n:Int}{tk:Tok}{Q:Bool->Shared->Prop}(hS:SetI prog w s.heap a ks)(room:(if n∈ks then ks else ks++[n]).length<=18)
  (q:∀b h' tk,Heap.SameBut a s.heap h'->SetI prog w h' a (if n∈ks then ks else ks++[n])->Q b { s with heap:=h',toks:=tk }) :
  wpAny (model prog w) A (setAdd a (.int n tk)) Q E s:=by
 obtain⟨o,es,ep,t,ho,hex,hd,hel,⟨ns,hen,hp⟩,T,hled⟩:=hS;have hsz:=KZ hen hp;have hb:es.size<scanBound:=by rcases T.mks with ⟨_,b⟩|⟨_,b⟩|⟨_,b⟩<;>(unfold scanBound;omega)
 unfold setAdd;refine AAq (AAA ((intKind prog w).pyHash (intKind_is prog w n tk) ?_));unfold setAddHashed setAddHashedIn;refine AAq (AAA (AAj (s:={ s with toks:=s.toks+1 }) ho hd T.fits ?_));dsimp only;rw[byScan_of (knd:=intKind prog w) rfl hb hel];simp only[↓reduceIte];unfold setAddByScan;refine AAA ?_;refine AAA (wpAny_rule ?_);refine AAA (wpAny_setScan_of (knd:=intKind prog w) (s:={ s with toks:=s.toks+1 }) (intKind_is prog w n tk) ho hd T.fits hel ?_);have mem:=Ru hen n;rw[hp.mem_iff] at mem;cases hr:List.findIdx? (λe=>(intKind prog w).is n e.2) es.toList with
 |some j=>
  dsimp only;obtain⟨hj,hpj,_⟩:=List.findIdx?_eq_some_iff_getElem.mp hr;have hm:n∈ks:=mem.mp ⟨es.toList[j],List.getElem_mem hj,hpj⟩;refine AAB (AAB ?_);rw[if_pos hm] at q;exact q _ s.heap _ (Heap.SameBut.refl a s.heap) ⟨o,es,ep,t,ho,hex,hd,hel,⟨ns,hen,hp⟩,T,hled⟩
 |none=>
  dsimp only;have hm:n∉ks:=λz=>by
   obtain⟨e,he,hq⟩:=mem.mpr z;have:=List.findIdx?_eq_none_iff.mp hr e he;have hq':(intKind prog w).is n e.2=true:=hq;rw[hq'] at this;exact Bool.noConfusion this
  rw[if_neg hm,AAG,List.length_singleton] at room;rw[if_neg hm] at q;obtain⟨t1,es1,e1,r1,z1,d1,m1,p1,l1,_,_,q1⟩:=WK T (by omega) ((intKind prog w).hash n) (.int n tk);rw[e1];dsimp only;have s1:es1.size=es.size+1:=by
   have:=q1.length_eq;simpa using this
  have hel1:ElemsOf (intKind prog w) es1.toList:=(hel.push (intKind_is prog w n tk) rfl).perm q1;have hen0:EN (es.toList++[((intKind prog w).hash n,Value.int n tk)]) (ns++[n]):=by
   unfold EN;rw[AAX];exact IntsAre.append hen (.cons n tk .nil)
  obtain⟨ms,hen1,hp1⟩:=GR (q1.map (·.2)) hen0;have hp2:ms.Perm (ks++[n]):=hp1.trans (hp.append_right [n]);refine AAA (AAB ?_);rw[p1];simp only[↓reduceIte];refine AAA ?_;rw[hashByValue_scannable 8 (x:=.int n tk) rfl];refine AAB ?_;simp only[plainKind,↓reduceIte];refine AAA (wpAny_storeSet_of (s:={ s with toks:=s.toks+1 }) ho hd ?_ (by rw[sizeLine_eq];omega));have ho1:=G4 ho hd es1 t1;have sb1:=Heap.SameBut.update s.heap a (Obj.putSet es1 t1);simp only[Bool.not_false,Bool.true_and];by_cases hf:t1.tooFull=true
  ·rw[if_pos hf];have small:es1.size=5:=by
    unfold SetTable.tooFull SetTable.fill at hf;rw[z1,d1,m1] at hf;simp at hf;rcases T.mks with ⟨a,b⟩|⟨a,b⟩|⟨a,b⟩<;>rw[a] at hf<;>omega
   obtain⟨t2,es2,e2,T2,l2,q2⟩:=QH (t:=t1) (es:=es1) (wanted:=grown es1.size) (by rw[small];decide +kernel) (by omega) p1;rw[e2];dsimp only;refine AAA (AAB ?_);have s2:es2.size=es1.size:=by
    have:=q2.length_eq;simpa using this
   refine AAA (wpAny_storeSet_of (s:={ s with heap:=s.heap.update a (Obj.putSet es1 t1),toks:=s.toks+1 }) ho1 rfl ?_ (by rw[sizeLine_eq];omega));obtain⟨ls,hen2,hp3⟩:=GR (q2.map (·.2)) hen1;refine AAB (AAB (q _ _ _ (sb1.trans (Heap.SameBut.update _ a _)) ?_));exact⟨_,es2,_,t2,G4 ho1 rfl es2 t2,hex,rfl,hel1.perm q2,⟨ls,hen2,hp3.trans hp2⟩,T2,by rw[l2,l1];exact hled⟩
  ·rw[if_neg hf];refine AAB (AAB (q _ _ _ sb1 ⟨_,es1,_,t1,ho1,hex,rfl,hel1,⟨ms,hen1,hp2⟩,⟨r1,by omega,d1,?_,p1⟩,by rw[l1];exact hled⟩));rw[m1];unfold SetTable.tooFull SetTable.fill at hf;rw[z1,d1,m1] at hf;simp at hf;rcases T.mks with ⟨a,b⟩|⟨a,b⟩|⟨a,b⟩
   ·rw[a] at hf;exact .inl ⟨a,by omega⟩
   ·exact .inr (.inl ⟨a,by omega⟩)
   ·exact .inr (.inr ⟨a,by omega,by omega⟩)
end
end Ht
namespace Ht
open PySem PySem.Spec PyProof.Rows Sem L2
section
variable{prog:Program}{w:World}{A:Around}{E:Value->Shared->Prop}{s:Shared}
theorem OP{I S:Addr}{ns:List Int}{fp:List Addr}{P:Nat->Value->Prop}{St:Nat->Heap->Prop}(W:Walks prog w A.in1 I fp [I] ns.length P St)(hP:∀i v,P i v->∃t,v=.int (ns.getD i 0) t)
  (hSI:S≠I) (hSf:S∉fp) (room:(BS ns).length<=18) {R:Result->Shared->Prop} :
  ∀(m i:Nat) (s:Shared),ns.length-i=m->i<=ns.length->St i s.heap->SetI prog w s.heap S (BS (ns.take i))->
   (∀h' tk,(∀c o,c≠S->c≠I->s.heap.get? c=some o->h'.get? c=some o)->SetI prog w h' S (BS ns)->R (.ok (.ret .none)) { s with heap:=h',toks:=tk })->
   codeAny (model prog w) A (.builtin "set.update.loop" ⟨[.ref S,.ref I],[]⟩) R s:=by
 intro m
 induction m with
 |zero=>
  intro i s hm hi hst hS q;have ei:i=ns.length:=by omega
  subst ei;refine codeAny_builtin PyProof.Rows.F.entry_set_update_loop ?_;rw[Around.under_plainId PyProof.Rows.F.plain_set_update_loop _];refine AAA (m:=pyNext (.ref I)) (W.done s _ _ hst λh' tk kp=>AAB ?_);rw[List.take_length] at hS;exact q h' tk (λc o _ c2 e=>kp c o (by simpa using c2) e) (hS.at λo e=>kp S o (by simpa using hSI) e)
 |succ m ih=>
  intro i s hm hi hst hS q;have lt:i<ns.length:=by omega
  refine codeAny_builtin PyProof.Rows.F.entry_set_update_loop ?_;rw[Around.under_plainId PyProof.Rows.F.plain_set_update_loop _];refine AAA (m:=pyNext (.ref I)) (W.item i s _ _ lt hst λv h' tk hv st kp=>?_);obtain⟨t,rfl⟩:=hP i v hv;have eg:ns.getD i 0=ns[i]:=by simp[lt]
  rw[eg];have tk1:ns.take i++[ns[i]]=ns.take (i+1):=by rw[List.take_succ,AAu lt];rfl
  have nb:(if ns[i]∈BS (ns.take i) then BS (ns.take i) else BS (ns.take i)++[ns[i]])=BS (ns.take (i+1)):=by rw[←tk1,GN]
  have hS1:SetI prog w h' S (BS (ns.take i)):=hS.at λo e=>kp S o (by simpa using hSI) e;refine AAA (AAq (P7 (s:={ s with heap:=h',toks:=tk }) hS1 (by rw[nb];exact AAt (Og _ _) room) λb h2 t2 sb hS2=>?_));rw[nb] at hS2;have k2:∀c o,c≠S->h'.get? c=some o->h2.get? c=some o:=λc o hc e=>(sb.2 c hc).trans e;refine AAB ⟨plainId_quiet PyProof.Rows.F.plain_set_update_loop _,ih (i+1) _ (by omega) lt (W.frame _ _ _ st λb hb o e=>k2 b o (λz=>hSf (z ▸ hb)) e) hS2 λh3 t3 kp3 hS3=>?_⟩;exact q h3 t3 (λc o c1 c2 e=>kp3 c o c1 c2 (k2 c o c1 (kp c o (by simpa using c2) e))) hS3
theorem TN(a:Value){Q:Value->Shared->Prop}(h:Q (.ref s.heap.objs.size) { s with heap:=s.heap.push (BI !(w.params.followText "set-order")) }):
  codeAny (model prog w) A (.call (.builtin "set.__new__") ⟨[.type "set",a],[]⟩) (wants Q E) s:=by
 refine codeAny_call_builtin (b:=Builtin.«set.__new__») PySem.F.plain_set_new PySem.F.entry_set_new (AAw (PySem.F.newCall_set_1 a) ?_);unfold Builtin.«set.__new__» Builtin.Frozenset.newClass;have z:=sub_set_self
 wp_walk
 refine wpAny_askSetting (AAB ?_);have e:∀{Q:Value->Shared->Prop} {E:Value->Shared->Prop} (t:SetTable),Q (.ref s.heap.objs.size) { s with heap:=s.heap.push { cls:=.type "set",data:=.set #[] 0 t } }->wpAny (model prog w) A.in1 (newObj (.type "set") (.set #[] 0 t)) Q E s:=λt z=>by
  unfold newObj
  wp_walk
  first|exact z|exact AAA (wpAny_alloc (AAB z))|trace_state
 exact e _ (AAB h)
set_option maxHeartbeats 2000000 in
theorem Jc{T:String}{l:Addr}{ns:List Int}{Q:Value->Shared->Prop}{fp:Addr->List Addr}{P:Nat->Value->Prop}{St:Addr->Nat->Heap->Prop}{itO:Obj}
  (c1:isSubtype (.type T) (.type "set")=Pure.pure false) (c2:isSubtype (.type T) (.type "frozenset")=Pure.pure false) (c3:(Value.type T==Value.type "dict")=false)
  (tyl:∀{s':Shared},(∀o,s.heap.get? l=some o->s'.heap.get? l=some o)->s'.TypeIs (.ref l) T)
  (walk:∀{s':Shared} {A':Around} {E' Q':Value->Shared->Prop},(∀o,s.heap.get? l=some o->s'.heap.get? l=some o)->Q' (.ref s'.heap.objs.size) { s' with heap:=s'.heap.push itO }->wpAny (model prog w) A' (pyIter (.ref l)) Q' E' s')
  (W:∀I,l≠I->Walks prog w A.in1.in1.in1 I (fp I) [I] ns.length P (St I)) (hP:∀i v,P i v->∃t,v=.int (ns.getD i 0) t) (hfp:∀I,∀b∈fp I,b=I∨b=l) (hl:∃o,s.heap.get? l=some o)
  (hfr:itO.isFreed=false) (st0:∀{h:Heap} (I:Addr),h.get? I=some itO->(∀o,s.heap.get? l=some o->h.get? l=some o)->St I 0 h) (room:(BS ns).length<=18)
  (q:∀h' tk,(∀c o,s.heap.get? c=some o->h'.get? c=some o)->SetI prog w h' s.heap.objs.size (BS ns)->Q (.ref s.heap.objs.size) { s with heap:=h',toks:=tk }) :
  wpAny (model prog w) A (call (.type "set") [.ref l]) Q E s:=by
 refine UC PySem.F.called_set (PySem.F.typeCall_set_1 _) (TN (.ref l) (Q:=λx s₁=>x=.ref s.heap.objs.size/\s₁={ s with heap:=s.heap.push (BI !(w.params.followText "set-order")) }) ⟨rfl,rfl⟩) ?_;rintro x s₁ ⟨rfl,rfl⟩;generalize hled:(!(w.params.followText "set-order"))=led;have at_S:(s.heap.push (BI led)).get? s.heap.objs.size=some (BI led):=AAD _ rfl;have ty:Shared.TypeIs { s with heap:=s.heap.push (BI led) } (.ref s.heap.objs.size) "set" := ⟨_,at_S,rfl⟩;have lt:l<s.heap.objs.size:=by obtain⟨o,e⟩:=hl;exact Heap.lt_size e
 have kl:∀o,s.heap.get? l=some o->(s.heap.push (BI led)).get? l=some o:=λo e=>AAC _ e;have tyl:=tyl (s':={ s with heap:=s.heap.push (BI led) }) kl;refine⟨ty,codeAny_call_builtin PySem.F.called_set.init.plain PySem.F.entry_set_init (check_set_init_1 ty ?_)⟩;unfold Builtin.«set.__init__» noKeywords Builtin.Frozenset.updateFrom;have walk':∀(A:Around) (E:Value->Shared->Prop) (Q:Value->Shared->Prop),Q (.ref (s.heap.push (BI led)).objs.size) { s with heap:=(s.heap.push (BI led)).push itO }->wpAny (model prog w) A (pyIter (.ref l)) Q E { s with heap:=s.heap.push (BI led) }:=λA E Q z=>walk (s':={ s with heap:=s.heap.push (BI led) }) kl z
 wp_walk using walk'
 have sz:(s.heap.push (BI led)).objs.size=s.heap.objs.size+1:=Heap.size_push ..;have ne1:l≠(s.heap.push (BI led)).objs.size:=by rw[sz];exact AAe (AAi lt)
 have ne2:s.heap.objs.size≠(s.heap.push (BI led)).objs.size:=by rw[sz];exact AAe (Nat.lt_succ_self _)
 have hSf:s.heap.objs.size∉fp (s.heap.push (BI led)).objs.size:=λz=>(hfp _ _ z).elim ne2 (Nat.ne_of_gt lt);refine OP (A:=A.in1.in1) (W _ ne1) hP ne2 hSf room ns.length 0 _ (Nat.sub_zero _) (AAl _) (st0 _ (AAD _ hfr) λo e=>AAC _ (kl o e)) ?start λh' tk kp hS=>?fin
 case start=>
  refine⟨_,#[],0,_,AAC _ at_S,⟨rfl,rfl,rfl⟩,rfl,?_,⟨[],.nil,.refl _⟩,OI led,hled.symm⟩;intro e he;cases he
 case fin=>
  have ltS:∀{c:Addr} {o:Obj},s.heap.get? c=some o->c<s.heap.objs.size:=λe=>Heap.lt_size e;exact AAB (AAB ⟨rfl,q h' tk (λc o e=>kp c o (AAe (ltS e)) (by rw[sz];exact AAe (AAi (ltS e))) (AAC _ (AAC _ e))) hS⟩)
theorem Ku:isSubtype (.type "tuple") (.type "set")=Pure.pure false:=by rw[isSubtype_type];kernel_rfl
theorem Kv:isSubtype (.type "tuple") (.type "frozenset")=Pure.pure false:=by rw[isSubtype_type];kernel_rfl
theorem MR{l:Addr}{its:List Value}{ns:List Int}{Q:Value->Shared->Prop}(hh:A.handled=none)(hl:s.heap.IsList l its.toArray)(rv:IntsAre its ns)(room:(BS ns).length<=18)
  (q:∀h' tk,(∀c o,s.heap.get? c=some o->h'.get? c=some o)->SetI prog w h' s.heap.objs.size (BS ns)->Q (.ref s.heap.objs.size) { s with heap:=h',toks:=tk }) :
  wpAny (model prog w) A (call (.type "set") [.ref l]) Q E s:=by
 have len:its.toArray.size=ns.length:=by have:=congrArg List.length rv.nums;rw[AAF] at this;simpa using this
 refine Jc (T := "list") (l:=l) (ns:=ns) (fp:=λI=>[I,l]) (P:=λi v=>its.toArray[i]?=some v) (St:=λI i h=>h.IsListIter I l i/\h.IsList l its.toArray) (itO:={ cls:=.type "list_iterator",data:=.fields #[.ref l,.int 0 0] }) PySem.F.sub_list_set PySem.F.sub_list_frozenset (by decide +kernel) (λk=>(hl.at k).typeIs) (λk z=>wpAny_pyIter_list (hl.at k) z) (λI hI=>len ▸ Walks.list (by simp[hh]) I l hI its.toArray) (λi v e=>?_) (λI b hb=>by simpa using hb) (by obtain⟨o,e,_⟩:=hl;exact⟨o,e⟩) rfl (λI e k=>⟨⟨_,e,rfl,rfl⟩,hl.at k⟩) room q;have e':its[i]?=some v:=by simpa using e
 exact rv.int_at i v e'
theorem OO{l:Addr}{its:List Value}{ns:List Int}{Q:Value->Shared->Prop}(hh:A.handled=none)(hl:s.heap.IsTuple l its.toArray)(rv:IntsAre its ns)(room:(BS ns).length<=18)
  (q:∀h' tk,(∀c o,s.heap.get? c=some o->h'.get? c=some o)->SetI prog w h' s.heap.objs.size (BS ns)->Q (.ref s.heap.objs.size) { s with heap:=h',toks:=tk }) :
  wpAny (model prog w) A (call (.type "set") [.ref l]) Q E s:=by
 have len:its.toArray.size=ns.length:=by have:=congrArg List.length rv.nums;rw[AAF] at this;simpa using this
 refine Jc (T := "tuple") (l:=l) (ns:=ns) (fp:=λI=>[I,l]) (P:=λi v=>its.toArray[i]?=some v) (St:=λI i h=>h.IsTupleIter I l i/\h.IsTuple l its.toArray) (itO:={ cls:=.type "tuple_iterator",data:=.fields #[.ref l,.int 0 0] }) Ku Kv (by decide +kernel) (λk=>(hl.at k).typeIs) (λk z=>wpAny_pyIter_tuple (hl.at k) z) (λI hI=>len ▸ Walks.tuple (by simp[hh]) I l hI its.toArray) (λi v e=>?_) (λI b hb=>by simpa using hb) (by obtain⟨o,e,_⟩:=hl;exact⟨o,e⟩) rfl (λI e k=>⟨⟨_,e,rfl,rfl⟩,hl.at k⟩) room q;have e':its[i]?=some v:=by simpa using e
 exact rv.int_at i v e'
end
end Ht
namespace Ht
open PySem PySem.Spec PyProof.Rows Sem L2 PySem.SetTable
theorem IC{α:Type}:∀(l:List α) (i:Nat) (x:α),l[i]?=some x->(x::l.eraseIdx i).Perm l
 |[],_,_,e=>by cases e
 |a::l,0,x,e=>by
  simp at e;subst e;exact .refl _
 |a::l,i+1,x,e=>by
  have e':l[i]?=some x:=by simpa using e
  exact(List.Perm.swap a x _).trans ((IC l i x e').cons a)
theorem NU{α:Type}(f:Nat->Nat):∀(BE k:Nat) (left:List α) (out:Array α),left.length<=BE->(pickOrder.go f BE k left out).toList.Perm (out.toList++left)
 |0,k,left,out,h=>by
  have:left=[]:=List.length_eq_zero_iff.mp (by omega);subst this;unfold pickOrder.go;rw[AAa]
 |BE+1,k,left,out,h=>by
  unfold pickOrder.go;cases e:left[f k % left.length]? with
  |none=>
   simp only[];have:left=[]:=by
    cases left with
    |nil=>rfl
    |cons a l=>
     exfalso;have:=List.getElem?_eq_none_iff.mp e;have:=Nat.mod_lt (f k) (show 0<(a::l).length by simp);omega
   rw[this,AAa]
  |some x=>
   simp only[];have hp:=IC left _ x e;have hl:=hp.length_eq;rw[AAH] at hl;refine(NU f BE (k+1) _ (out.push x) (by omega)).trans ?_;rw[Array.toList_push,AAn];exact hp.append_left _
theorem Oa{α:Type}(f:Nat->Nat)(xs:Array α):(pickOrder f xs).toList.Perm xs.toList:=by
 have:=NU f xs.size 0 xs.toList #[] (by simp);simpa[pickOrder] using this
noncomputable def wv(w:World)(S:Addr)(ep:Nat)(es:Array (Int×Value)):Array (Int×Value):=if w.params.followText "set-order" = true then pickOrder (w.params.setOrder S ep) es else es
theorem NB(w:World)(S:Addr)(ep:Nat)(es:Array (Int×Value)):(wv w S ep es).toList.Perm es.toList:=by
 unfold wv;split
 ·exact Oa _ _
 ·exact .refl _
theorem Gr(w:World)(S:Addr)(ep:Nat)(es:Array (Int×Value)):(wv w S ep es).size=es.size:=by
 have:=(NB w S ep es).length_eq;simpa using this
structure Wt(w:World)(t:SetTable)(n:Nat):Prop where
 fits:t.fits n=true
 nd:w.params.followText "set-order" = false->Ris t.place.toList/\(!t.plain&&decide (n > 1))=false
theorem Wt.sz{w:World}{t:SetTable}{n:Nat}(T:Wt w t n):t.place.size=n:=by
 have:=T.fits;unfold SetTable.fits at this;simp only[Bool.and_eq_true,beq_iff_eq] at this;exact this.1
theorem Tab.wt{w:World}{t:SetTable}{n:Nat}(T:Tab t n):Wt w t n:=⟨T.fits,λ_=>⟨T.ris,by rw[T.pl];rfl⟩⟩
section
variable{prog:Program}{w:World}{A:Around}{E:Value->Shared->Prop}{s:Shared}
theorem K0{S:Addr}{sl i ep:Nat}{es:Array (Int×Value)}{t:SetTable}{o:Obj}{Q:Option (Value×Nat)->Shared->Prop}(ho:s.heap.get? S=some o)(hd:o.data=.set es ep t)(T:Wt w t es.size)(hled:t.led=!(w.params.followText "set-order"))
  (hsl:w.params.followText "set-order" = false->below t.place sl=i)
  (h1:∀e sl',(wv w S ep es)[i]?=some e->(w.params.followText "set-order" = false->below t.place sl'=i+1)->Q (some (e.2,sl')) s)
  (h2:(wv w S ep es)[i]?=none->Q none s):wpAny (model prog w) A (setNext S sl i ep) Q E s:=by
 unfold setNext;refine AAA (AAj ho hd T.fits ?_);dsimp only;unfold setsByText;refine AAA (AAA (wpAny_askSetting (AAB ?_)));dsimp only[model];by_cases hb:w.params.followText "set-order" = true
 ·rw[if_pos hb];have e0:(ep != ep)=false:=by simp
  rw[e0,if_neg AAh];unfold setWalk setsByText;refine AAA (AAA (AAj ho hd T.fits ?_));dsimp only;refine AAA (AAA (wpAny_askSetting (AAB ?_)));dsimp only[model];rw[if_pos hb];refine AAA (wpAny_askSetting (AAB (AAB ?_)));dsimp only;have ew:wv w S ep es=pickOrder (w.params.setOrder S ep) es:=by unfold wv;rw[if_pos hb]
  rw[ew] at h1 h2;cases q:(pickOrder (w.params.setOrder S ep) es)[i]? with
  |none=>exact h2 q
  |some e=>exact h1 e sl q λz=>by rw[hb] at z;cases z
 ·have hb':w.params.followText "set-order" = false:=by simpa using hb
  rw[if_neg hb];have hl:t.led=true:=by rw[hled,hb'];rfl
  have ew:wv w S ep es=es:=by unfold wv;rw[if_neg hb]
  rw[ew] at h1 h2;have hs:=hsl hb';split
  ·rename_i z;have z':(!t.plain&&decide (es.size > 1))=true:=z;rw[(T.nd hb').2] at z';cases z'
  ·refine AAA ?_;show wpAny _ _ (if (!t.led&&!es.isEmpty)=true then PySem.unsupported "set:maker-not-led" else Pure.pure ()) _ _ _;rw[hl];rw[if_neg (by simp)];refine AAB ?_;refine AAB ?_;rw[hs];have hsz:=T.sz;by_cases hi:i<es.size
   ·have e1:es[i]?=some es[i]:=by simp[hi]
    have e2:t.place[i]?=some (t.place[i]'(by omega)):=by simp[hsz,hi]
    rw[e1,e2];exact h1 es[i] _ e1 λ_=>Mz (T.nd hb').1 (by omega)
   ·have e1:es[i]?=none:=by simp;omega
    rw[e1];exact h2 e1
end
theorem si_next:Slot "set_iterator" "__next__" "set_iterator.__next__" :=
 Slot.of (owner := "set_iterator") (n := "__next__") (by rw[typeLookup_type,builtinLookup_eq_fast];kernel_rfl) (by decide +kernel) (by decide +kernel) (by decide +kernel) (.inl (by decide +kernel)) (by rw[isSubtype_type];kernel_rfl)
theorem NO:Slot "set_iterator" "__iter__" "set_iterator.__iter__" :=
 Slot.of (owner := "set_iterator") (n := "__iter__") (by rw[typeLookup_type,builtinLookup_eq_fast];kernel_rfl) (by decide +kernel) (by decide +kernel) (by decide +kernel) (.inl (by decide +kernel)) (by rw[isSubtype_type];kernel_rfl)
theorem Lh:entryFor table "set_iterator.__next__" = some Builtin.«set_iterator.__next__»:=entryFor_of_tree (by kernel_rfl)
theorem Rr:entryFor table "set_iterator.__iter__" = some Builtin.«dict_keyiterator.__iter__»:=entryFor_alias (id' := "dict_keyiterator.__iter__") (by kernel_rfl) rfl (by decide +kernel) (by kernel_rfl)
theorem Rs:entryFor table "set.__iter__" = some Builtin.«frozenset.__iter__»:=entryFor_alias (id' := "frozenset.__iter__") (by kernel_rfl) rfl (by decide +kernel) (by kernel_rfl)
theorem L5(a:Value):argsOk "set_iterator.__next__" ⟨[a],[]⟩:=by unfold argsOk;kernel_rfl
theorem SO(a:Value):argsOk "set_iterator.__iter__" ⟨[a],[]⟩:=by unfold argsOk;kernel_rfl
noncomputable def itO(S:Addr)(sl i n ep:Nat):Obj:={ cls:=.type "set_iterator",data:=.fields #[.int sl 0,.int i 0,.ref S,.int n 0,.int ep 0] }
section
variable{prog:Program}{w:World}{A:Around}{E:Value->Shared->Prop}{s:Shared}
theorem HW{α:Type}{Q:α->Shared->Prop}(hh:A.handled=none)(h:∀a h',(∀b o,s.heap.get? b=some o->h'.get? b=some o)->Shared.TypeIs { s with heap:=h' } (.ref a) "StopIteration" -> E (.ref a) { s with heap:=h' }):
  wpAny (model prog w) A (newExc (.type "StopIteration") [] >>= λe=>(raiseNew e:Sem α)) Q E s:=by
 unfold newExc newTuple;refine AAA (AAA (AAr ?_ (by size_fits)));refine AAA (m:=firstArgMember _ _) (AAw (a:=Value.none) (by kernel_rfl) ?_);refine AAr ?_ (by size_fits);unfold raiseNew;refine AAA (wpAny_handled ?_);rw[hh];refine AAA (AAB (wpAny_throw (h _ _ (λb o e=>AAC _ (AAC _ e)) ⟨_,AAD _ rfl,rfl⟩)))
theorem US{I S:Addr}{sl i ep:Nat}{es:Array (Int×Value)}{t:SetTable}{o:Obj}{Q:Option Value->Shared->Prop}{x:Int×Value}(hne:S≠I)(hI:s.heap.get? I=some (itO S sl i es.size ep))(ho:s.heap.get? S=some o)(hd:o.data=.set es ep t)(T:Wt w t es.size)(hled:t.led=!(w.params.followText "set-order"))
  (hsl:w.params.followText "set-order" = false->below t.place sl=i) (hx:(wv w S ep es)[i]?=some x)
  (q:∀h' sl',h'.get? I=some (itO S sl' (i+1) es.size ep)->(w.params.followText "set-order" = false->below t.place sl'=i+1)->Heap.SameBut I s.heap h'->Q (some x.2) { s with heap:=h' }) :
  wpAny (model prog w) A (pyNext (.ref I)) Q E s:=by
 have hT:s.TypeIs (.ref I) "set_iterator" := ⟨_,hI,rfl⟩;unfold pyNext;refine AAA (wpAny_attempt (wpAny_callSpecial?_slot (name:=Str.ofString "__next__") hT si_next (AAd si_next hT Lh ?_ (L5 _))));unfold Builtin.«set_iterator.__next__»;refine AAA (AAw (a:=(Value.ref I,[])) rfl ?_);refine AAA (wpAny_fieldsOf hI rfl ?_);dsimp only;unfold setEntries;refine AAA (AAA (AAj ho hd T.fits (AAB ?_)));dsimp only;have e0:((es.size:Int) != (es.size:Int))=false:=by simp
 rw[e0,if_neg AAh];simp only[Int.toNat_natCast];refine AAA (K0 ho hd T hled hsl (λe sl' h1 h2=>?_) λz=>by rw[hx] at z;cases z);rw[hx] at h1;cases h1;dsimp only;refine AAA (wpAny_setField_rec hI (by simp) λh1 g1 s1=>?_);refine AAA (wpAny_setField_rec g1 (by simp) λh2' g2 s2=>?_);refine AAB ⟨_,rfl,AAB (q h2' sl' ?_ h2 (s1.trans s2))⟩;rw[g2];simp[itO,rawInt]
theorem WW{I S:Addr}{sl i ep:Nat}{es:Array (Int×Value)}{t:SetTable}{o:Obj}{Q:Option Value->Shared->Prop}(hh:A.handled=none)(hI:s.heap.get? I=some (itO S sl i es.size ep))(ho:s.heap.get? S=some o)(hd:o.data=.set es ep t)(T:Wt w t es.size)(hled:t.led=!(w.params.followText "set-order"))
  (hsl:w.params.followText "set-order" = false->below t.place sl=i) (hx:(wv w S ep es)[i]?=none)
  (q:∀h',(∀b o,b≠I->s.heap.get? b=some o->h'.get? b=some o)->Q none { s with heap:=h' }) :
  wpAny (model prog w) A (pyNext (.ref I)) Q E s:=by
 have hT:s.TypeIs (.ref I) "set_iterator" := ⟨_,hI,rfl⟩;unfold pyNext;refine AAA (wpAny_attempt (wpAny_callSpecial?_slot (name:=Str.ofString "__next__") hT si_next (AAd si_next hT Lh ?_ (L5 _))));unfold Builtin.«set_iterator.__next__»;refine AAA (AAw (a:=(Value.ref I,[])) rfl ?_);refine AAA (wpAny_fieldsOf hI rfl ?_);dsimp only;unfold setEntries;refine AAA (AAA (AAj ho hd T.fits (AAB ?_)));dsimp only;have e0:((es.size:Int) != (es.size:Int))=false:=by simp
 rw[e0,if_neg AAh];simp only[Int.toNat_natCast];refine AAA (K0 ho hd T hled hsl (λe sl' h1 h2=>by rw[hx] at h1;cases h1) λ_=>?_);dsimp only;refine AAA (wpAny_setField_rec hI (by simp) λh1 g1 s1=>?_);refine HW (A:=A.in1) (s:={ s with heap:=h1 }) hh λa h' k ty=>?_;refine AAA (wpAny_isInstance (T := "StopIteration") (b:=true) ty isSubtype_stop ?_);exact AAB (q h' λb o hb e=>k b o (s1.extBut b o hb e))
theorem UR{I S:Addr}{sl i n ep:Nat}{Q:Value->Shared->Prop}(hI:s.heap.get? I=some (itO S sl i n ep))(h:Q (.ref I) s):wpAny (model prog w) A (pyIter (.ref I)) Q E s:=by
 have hT:s.TypeIs (.ref I) "set_iterator" := ⟨_,hI,rfl⟩;refine wpAny_pyIter_slot hT NO (AAd NO hT Rr ?_ (SO _));exact AAB ⟨_,rfl, "set_iterator",_,hT,si_next.lookup,h⟩
theorem WV{S:Addr}{ep:Nat}{es:Array (Int×Value)}{t:SetTable}{o:Obj}{Q:Value->Shared->Prop}(ho:s.heap.get? S=some o)(hex:o.ExactSet)(hd:o.data=.set es ep t)(T:Wt w t es.size)
  (h:Q (.ref s.heap.objs.size) { s with heap:=s.heap.push (itO S 0 0 es.size ep) }):wpAny (model prog w) A (pyIter (.ref S)) Q E s:=by
 have hT:s.TypeIs (.ref S) "set" := ⟨_,ho,hex.1⟩;refine wpAny_pyIter_slot hT PySem.F.slot_set_iter (AAd PySem.F.slot_set_iter hT Rs ?_ (PySem.F.args_set_iter_1 _));unfold Builtin.«frozenset.__iter__» Builtin.Frozenset.slot0 Builtin.Frozenset.sizeOf setEntries setDrawn setsByText;refine AAA (AAA (AAw (a:=(Value.ref S,[])) rfl (AAB ?_)));refine AAA (AAA (AAA (AAj ho hd T.fits (AAB (AAB ?_)))));refine AAA (AAA (AAj ho hd T.fits ?_));dsimp only;refine AAA (AAA (wpAny_askSetting (AAB (AAB ?_))));dsimp only;have e0:(!(w.params.followText "set-order")&&(!t.plain&&decide (es.size > 1)))=false:=by
  cases b:w.params.followText "set-order" with
  |true=>rfl
  |false=>rw[(T.nd b).2];rfl
 split
 ·rename_i z;have z':=e0.symm.trans z;cases z'
 ·refine AAA (AAB ?_);refine AAA (wpAny_setEpoch_of ho hd T.fits ?_);unfold newFields;exact AAA (AAr (AAB ⟨_,rfl, "set_iterator",_,⟨_,AAD _ rfl,rfl⟩,si_next.lookup,h⟩))
end
section
variable{prog:Program}{w:World}{A:Around}{E:Value->Shared->Prop}{s:Shared}
theorem Vc:splitId "set.__len__" = some ("set", "__len__"):=by decide +kernel
theorem P6{S:Addr}{Q:Bool->Shared->Prop}(hT:s.TypeIs (.ref S) "set")(h:Q false s):wpAny (model prog w) A (Builtin.List.listLengthHint (.ref S)) Q E s:=by
 obtain⟨id,hid⟩:∃id,id = "set.__len__" := ⟨_,rfl⟩;have l:=PySem.F.slot_set_len.lookup;have z:=sub_set_self;have sp:=Vc;rw[←hid] at l sp;unfold Builtin.List.listLengthHint
 wp_walk
 rw[sp]
 wp_walk
 split
 ·wp_walk
  exact h
 ·rename_i no;exact absurd (by rw[hid];decide +kernel) no
theorem OC{I S:Addr}{ep:Nat}{es:Array (Int×Value)}{t:SetTable}{o:Obj}(hh:A.handled=none)(hne:S≠I)(hd:o.data=.set es ep t)(T:Wt w t es.size)(hled:t.led=!(w.params.followText "set-order")):
  Walks prog w A I [I,S] [I] es.size (λi v=>∃e,(wv w S ep es)[i]?=some e/\v=e.2)
   (λi h=>(∃sl:Nat,h.get? I=some (itO S sl i es.size ep)/\(w.params.followText "set-order" = false->below t.place sl=i))/\h.get? S=some o) where
 sub:=λb hb=>by simp at hb;simp[hb]
 frame:=λi h h' st k=>by
  obtain⟨⟨sl,h1,h2⟩,h3⟩:=st;exact⟨⟨sl,k I (by simp) _ h1,h2⟩,k S (by simp) _ h3⟩
 item:=λi s Q E hi st q=>by
  obtain⟨⟨sl,h1,h2⟩,h3⟩:=st;obtain⟨x,hx⟩:∃x,(wv w S ep es)[i]?=some x:=⟨(wv w S ep es)[i]'(by rw[Gr];exact hi),by simp[Gr,hi]⟩;refine US hne h1 h3 hd T hled h2 hx λh' sl' g1 g2 sb=>?_;exact q x.2 h' s.toks ⟨x,hx,rfl⟩ ⟨⟨sl',g1,g2⟩,(sb.2 S hne).trans h3⟩ λb o hb e=>(sb.2 b (by simpa using hb)).trans e
 done:=λs Q E st q=>by
  obtain⟨⟨sl,h1,h2⟩,h3⟩:=st;refine WW hh h1 h3 hd T hled h2 (by simp[Gr]) λh' k=>?_;exact q h' s.toks λb o hb e=>k b o (by simpa using hb) e
 self:=λi s Q E st h=>by
  obtain⟨⟨sl,h1,h2⟩,h3⟩:=st;exact UR h1 h
theorem TK{S:Addr}{ep:Nat}{es:Array (Int×Value)}{t:SetTable}{o:Obj}(hex:o.ExactSet)(hd:o.data=.set es ep t)(T:Wt w t es.size)(hled:t.led=!(w.params.followText "set-order")):
  PySem.W.KdlSrc prog w "set" S S es.size (λi v=>∃e,(wv w S ep es)[i]?=some e/\v=e.2) (λh=>h.get? S=some o) where
 type:=λs h=>⟨_,h,hex.1⟩
 there:=λh e=>⟨Heap.lt_size e,Heap.lt_size e⟩
 keep:=λh h' e k=>k S (.inl rfl) _ e
 notList:=by decide
 notTuple:=by decide
 hint:=λA E s Q e h=>P6 ⟨_,e,hex.1⟩ h
 iter:=λA s hh e=>⟨itO S 0 0 es.size ep,_,λE Q h=>WV e hex hd T h,OC hh (AAe (Heap.lt_size e)) hd T hled,⟨0,AAD _ rfl,λb=>My (T.nd b).1⟩,AAC _ e⟩
theorem Kx{S:Addr}{ks:List Int}{Q:Value->Shared->Prop}(hh:A.handled=none)(h64:ks.length<64)(hS:SetI prog w s.heap S ks)
  (q:∀(h1 h':Heap) tk c (out:Array Value) ms,(∀b o,s.heap.get? b=some o->h1.get? b=some o)->(∀b o,h1.get? b=some o->h'.get? b=some o)->h'.get? h1.objs.size=some (seqObj "list" out c)->IntsAre out.toList ms->ms.Perm ks->ms.Pairwise (·<=·)->Q (.ref h1.objs.size) { s with heap:=h',toks:=tk }) :
  wpAny (model prog w) A (call (.builtin "sorted") [.ref S]) Q E s:=by
 obtain⟨o,es,ep,t,ho,hex,hd,hel,⟨ns,hen,hp⟩,T,hled⟩:=hS;have small:es.size<64:=by rw[KZ hen hp];exact h64
 refine Calls.call_function_entry kind_sorted plain_sorted entry_sorted (args_sorted1 _) ?_;unfold Builtin.«sorted»;refine AAA (AAw (a:=()) rfl ?_);refine AAA (PySem.W.kdu_collect (A:=A.in1) (TK (S:=S) hex hd T.wt hled) hh ho (by rw[sizeLine_eq];omega) λh1 t1 acc k1 it=>?_);have hacc:acc.toList=(wv w S ep es).toList.map (·.2):=by
  refine List.ext_getElem? λi=>?_;by_cases hi:i<acc.size
  ·obtain⟨e,h1,h2⟩:=it.2 i acc[i] (by simp[hi]);have:acc.toList[i]?=some acc[i]:=by simp[hi]
   rw[this,h2,AAV,Array.getElem?_toList,h1];rfl
  ·have h1:=it.1;have h2:=Gr w S ep es;rw[List.getElem?_eq_none (by simp;omega),List.getElem?_eq_none (by simp;omega)]
 obtain⟨ls,hls,hpl⟩:=GR ((NB w S ep es).map (·.2)) hen;rw[←hacc] at hls;have hlen:acc.toList.length=es.size:=by rw[Array.length_toList];exact it.1
 refine AAA (wpAny_newList ?_ (by rw[sizeLine_eq];omega));have hL:(h1.push (seqObj "list" acc.toList.toArray 0)).get? h1.objs.size=some (seqObj "list" acc.toList.toArray 0):=AAD _ rfl;have kL:∀b o,h1.get? b=some o->(h1.push (seqObj "list" acc.toList.toArray 0)).get? b=some o:=λb o e=>AAC _ e;refine AAA (AAq (AAd slot_list_sort ⟨_,hL,rfl⟩ entry_list_sort (list_sort_tree hL hls (by omega) λout ms a1 a2 a3=>⟨_,rfl,?_⟩) (args_list_sort _)));obtain⟨c,hc⟩:=sortedHeap_at (out:=out) hL;exact AAB ⟨_,rfl,q h1 _ _ c out ms k1 (λb o e=>by rw[sortedHeap_old (AAe (Heap.lt_size e)) (Heap.lt_size (kL b o e))];exact kL b o e) hc a1 ((a2.trans hpl).trans hp) a3⟩
end
end Ht
namespace Ht
noncomputable def LZ(x:Int):List Int->List Int
 |[]=>[x]
 |y::ys=>if x<y then x::y::ys else if x=y then y::ys else y::LZ x ys
noncomputable def srt(xs:List Int):List Int:=xs.foldr LZ []
theorem Hr(x k:Int):∀ys:List Int,k∈LZ x ys↔k=x∨k∈ys
 |[]=>by simp[LZ]
 |y::ys=>by
  unfold LZ;split
  ·simp
  ·split
   ·rename_i e;subst e;simp
   ·rw[AAI,Hr x k ys,AAI];constructor<;>(intro z;rcases z with z|z|z<;>simp[z])
theorem JN(x:Int):∀{ys:List Int},ys.Pairwise (· < ·)->(LZ x ys).Pairwise (· < ·)
 |[],_=>by simp[LZ]
 |y::ys,h=>by
  obtain⟨h1,h2⟩:=AAz.mp h;unfold LZ;split
  ·rename_i hx;exact AAz.mpr ⟨λz hz=>(AAI.mp hz).elim (λe=>e ▸ hx) λm=>Int.lt_trans hx (h1 z m),h⟩
  ·split
   ·exact h
   ·refine AAz.mpr ⟨λz hz=>?_,JN x h2⟩;rcases(Hr x z ys).mp hz with rfl|m
    ·omega
    ·exact h1 z m
theorem Gs(xs:List Int)(k:Int):k∈srt xs↔k∈xs:=by
 unfold srt
 induction xs with
 |nil=>simp
 |cons x xs ih=>rw[List.foldr_cons,Hr,ih,AAI]
theorem Fh(xs:List Int):(srt xs).Pairwise (· < ·):=by
 unfold srt
 induction xs with
 |nil=>exact .nil
 |cons x xs ih=>exact JN x ih
theorem J4:∀{xs ys:List Int},xs.Pairwise (· < ·)->ys.Pairwise (· < ·)->(∀k,k∈xs↔k∈ys)->xs=ys
 |[],[],_,_,_=>rfl
 |[],y::ys,_,_,h=>by have:=(h y).mpr (AAP ..);cases this
 |x::xs,[],_,_,h=>by have:=(h x).mp (AAP ..);cases this
 |x::xs,y::ys,a,b,h=>by
  obtain⟨a1,a2⟩:=AAz.mp a;obtain⟨b1,b2⟩:=AAz.mp b;have e:x=y:=by
   rcases AAI.mp ((h x).mp (AAP ..)) with z|z
   ·exact z
   ·rcases AAI.mp ((h y).mpr (AAP ..)) with z2|z2
    ·exact z2.symm
    ·have:=a1 y z2;have:=b1 x z;omega
  subst e;rw[J4 a2 b2 λk=>?_];constructor
  ·intro hk;rcases AAI.mp ((h k).mp (AAQ _ hk)) with z|z
   ·have:=a1 k hk;omega
   ·exact z
  ·intro hk;rcases AAI.mp ((h k).mpr (AAQ _ hk)) with z|z
   ·have:=b1 k hk;omega
   ·exact z
theorem Vb{ms ns:List Int}(p:ms.Perm (BS ns))(h:ms.Pairwise (·<=·)):ms=srt ns:=by
 have nd:ms.Nodup:=p.nodup_iff.mpr (Hc ns);have lt:ms.Pairwise (· < ·):=(List.pairwise_and_iff.mpr ⟨h,nd⟩).imp λz=>by
  have:=z.1;have:=z.2;omega
 exact J4 lt (Fh ns) λk=>by rw[p.mem_iff,LN,Gs]
end Ht
namespace L2
open PySem PySem.Spec PyProof.Rows Sem Ht
noncomputable def TQ(P:Program)(w:World)(p:Addr)(ks:List Int):HO:=.ext λh=>SetI P w h p ks
section
variable{X:Cx}
theorem O9(hc:X.calm=true):CA X (.type "set") (λxs H Q=>∃a ns,xs=[.ref a]/\(SqL X.kw H a (ns.map V.int)∨SqT X.kw H a (ns.map V.int))/\(BS ns).length<=18/\∀p,H p=none->Q (.ref p) (upd H p (TQ X.prog X.w p (BS ns)))):=by
 intro w4 s O H xs us Q I r h;obtain⟨a,ns,rfl,ha,room,q⟩:=h;obtain⟨u,rfl,ru⟩:=Vals.one r;cases ru;have fin:∀h' tk,(∀c o,s.heap.get? c=some o->h'.get? c=some o)->SetI X.prog X.w h' s.heap.objs.size (BS ns)->EP X w4 O Q (.ref s.heap.objs.size) { s with heap:=h',toks:=tk }:=λh' tk kp hS=>by
  refine⟨.ref s.heap.objs.size,_,I.laid (o:=TQ X.prog X.w s.heap.objs.size (BS ns)) kp (AAE _) ?_,rfl,q _ (I.hok.fresh (AAE _))⟩;obtain⟨o,es,ep,t,e,rest⟩:=id hS;exact⟨hS,⟨o,e⟩,λh1 h2 z k=>z.at k⟩
 rcases ha with ha|ha
 ·obtain⟨its,rv,pl,hz⟩:=I.list ha;exact MR (I.ok.hd hc) pl.isList (Hq rv) room fin
 ·obtain⟨its,rv,pl,hz⟩:=I.tuple ha;exact OO (I.ok.hd hc) pl (Hq rv) room fin
theorem Mw(hc:X.calm=true):CA X (.builtin "sorted") (λxs H Q=>∃p ns,xs=[.ref p]/\H p=some (TQ X.prog X.w p (BS ns))/\(BS ns).length<64/\∀l,H l=none->Q (.ref l) (upd H l (.lst ((srt ns).map V.int)))):=by
 intro w4 s O H xs us Q I r h;obtain⟨p,ns,rfl,hp,h64,q⟩:=h;obtain⟨u,rfl,ru⟩:=Vals.one r;cases ru;obtain⟨hS,_⟩:=I.hok p _ hp;refine Kx (I.ok.hd hc) h64 hS λh1 h' tk c out ms k1 k2 e1 im pm sm=>?_;have em:=Vb pm sm;subst em;have I1:=I.kept (t':=tk) k1;have rv:=E8 im;refine⟨.ref h1.objs.size,_,I1.laid (t':=tk) (o:=.lst ((srt ns).map V.int)) k2 (AAE _) ⟨?_,out.toList,c,rv,e1⟩,rfl,q _ (I1.hok.fresh (AAE _))⟩;obtain⟨o,es,ep,t,_,_,_,_,⟨ns',hen,hp'⟩,T,_⟩:=hS;have hsz:=KZ hen (hp'.trans pm.symm);rw[AAF,sizeLine_eq];rcases T.mks with ⟨_,b⟩|⟨_,b⟩|⟨_,b⟩<;>omega
end
end L2
namespace Mi
open PySem L2 Ht
noncomputable def Fi(d:D):M D:=bnd (BP d) λds=>λZ=>match Fy ds with
 |some ns=>if (BS ns).length<=18 then some (.lst ((srt ns).map D.int),Z) else none
 |none=>none
theorem Hn{K:KW}{Y:Nat->Addr}{k:Nat}{H:Hp}:∀ns:List Int,IsL K Y k H (ns.map D.int) (ns.map V.int)
 |[]=>IsL.nil
 |n::r=>by
  rw[AAW,AAW];unfold IsL;exact⟨_,_,rfl,ofI _,Hn r⟩
section
variable{X:Cx}{e:Expr}{pos p p2 pos2:Pos}
theorem MX{m:Sl->M D}(yl:X.mg "sorted" = none)(ys:X.mg "set" = none)(he:RE X e m)(hc:X.calm=true:=by rfl)(hgl:Gl X "sorted" := by rfl)(hgs:Gl X "set" := by rfl)(hst:GQ e=false:=by rfl):
  RE X (.Call (.Name "sorted" p) [.Call (.Name "set" p2) [e] [] pos2] [] pos) (mUn Fi m):=by
 have hs:PE X (.Call (.Name "set" p2) [e] [] pos2) _:=FC (O9 hc) hgs ys Mi.SJ (Fv he.pe HZ (A1 hst)) (by decide) (by decide) (A1 hst) rfl;refine RE.wk (LK (Mw hc) hgl yl PyProof.Rows.boot_sorted (Fv hs HZ (A1 rfl)) (by decide) (by decide) (A1 rfl) rfl) λO H Q h=>?_;obtain⟨Y,Z,B,d,Z',R,S,ev,q⟩:=h;obtain⟨x,w5,e1,e2⟩:=AF ev;obtain⟨ds,w6,e3,e4⟩:=AF e2;refine⟨Y,Z,B,x,w5,R,S,e1,λx4 H1 E1 R1 v1 i1=>?_⟩;obtain⟨hm,a,vs,rfl,h1,h2⟩:=DU R1 i1 e3;subst hm;cases hx:Fy ds with
 |none=>rw[hx] at e4;cases e4
 |some ns=>
  rw[hx] at e4;have e5:(if (BS ns).length<=18 then some (D.lst ((srt ns).map D.int),w6) else none)=some (d,Z'):=e4;split at e5
  ·rename_i room;cases e5;have ev:=LY h2 hx;subst ev;refine⟨a,ns,rfl,h1,room,λp hp=>?_⟩;obtain⟨E2,R2⟩:=R1.laid (TQ X.prog X.w p (BS ns)) hp;exact⟨p,ns,rfl,BZ,by omega,λl hl=>RF R2 (Hn _) (λY' H' E' R'=>q Y' H' ((E1.trans E2).trans E') R') l hl⟩
  ·cases e5
end
end Mi
namespace L2
open PySem PySem.Spec PyProof.Rows Sem Ht
section
variable{prog:Program}{w:World}{A:Around}{E:Value->Shared->Prop}{s:Shared}
theorem P5{n:Nat}:Builtin.Range.rangeSize 0 n 1=(n:Int):=by rw[rangeSize_one];split<;>omega
theorem OM{n:Nat}(h:n<=1000):Builtin.Range.small 0 n 1=true:=small_one (by omega) (by omega) (by omega) (by omega)
theorem Lo{r:Addr}{n:Nat}{t u v:Tok}{Q:List Value->Shared->Prop}(hh:A.handled=none)(hr:IsRange s.heap r 0 n 1 t u v)(hn:n<=1000)
  (q:∀h' tk (acc:List Value),(∀b o,s.heap.get? b=some o->h'.get? b=some o)->IntsAre acc ((List.range n).map Int.ofNat)->Q acc { s with heap:=h',toks:=tk }) :
  wpAny (model prog w) A (collect (.ref r)) Q E s:=by
 unfold collect;refine AAA (wpAny_runValue (codeAny_builtin entry_proto_collect' ?_));rw[Around.under_plainId PySem.F.plain_proto_collect _];unfold Builtin.«proto.collect»;refine AAA (wpAny_newList ?_);refine AAB ⟨plainId_quiet PySem.F.plain_list_iadd _,codeAny_builtin entry_list_iadd' ?_⟩;rw[Around.under_plainId PySem.F.plain_list_iadd _];have got:∀(acc:Array Value) (c:Nat) (h':Heap) (tk:Nat),(∀b o,s.heap.get? b=some o->h'.get? b=some o)->h'.get? s.heap.objs.size=some { cls:=.type "list",dict:=none,data:=.seq acc c,slots:=#[] }->ItemsOf (λi v=>∃t,v=.int (0+(i:Int) * 1) t) acc n->
   wpAny (model prog w) A (load s.heap.objs.size >>= λo=>match o.data with | .seq xs _=>Pure.pure xs.toList|_=>PySem.unsupported "internal:collect") Q E { s with heap:=h',toks:=tk }:=λacc c h' tk k e it=>by
  refine AAA (wpAny_load e (AAB (q h' tk acc.toList k ?_)));have im:=intsAre_map acc.toList λv hv=>by
   obtain⟨i,hi,rfl⟩:=List.getElem_of_mem hv;obtain⟨t,e⟩:=it.2 i _ (Array.getElem?_eq_getElem (by simpa using hi));exact⟨_,t,by simpa using e⟩
  have en:acc.toList.map numOf=(List.range n).map Int.ofNat:=by
   refine List.ext_getElem? λi=>?_;rw[AAV,AAV];by_cases hi:i<n
   ·have hi':i<acc.size:=by rw[it.1];exact hi
    obtain⟨t,e⟩:=it.2 i _ (Array.getElem?_eq_getElem hi');rw[Array.getElem?_toList,Array.getElem?_eq_getElem hi',e,List.getElem?_range hi];simp[numOf]
   ·rw[List.getElem?_eq_none (by rw[Array.length_toList,it.1];omega),List.getElem?_eq_none (by simp;omega)];rfl
  rwa [en] at im
 have key:=wpAny_extend_range (prog:=prog) (w:=w) (A:=A) (s:={ s with heap:=s.heap.push { cls:=.type "list",data:=.seq ([]:List Value).toArray } })
  (R:=λ(z:Result) (s':Shared)=>∃(h':Heap) (tk:Nat) (acc:Array Value) (c:Nat),z=.ok (.ret (.ref s.heap.objs.size))/\s'={ s with heap:=h',toks:=tk } /\
   (∀b o,s.heap.get? b=some o->h'.get? b=some o)/\h'.get? s.heap.objs.size=some { cls:=.type "list",dict:=none,data:=.seq acc c,slots:=#[] }/\ItemsOf (λi v=>∃t,v=.int (0+(i:Int) * 1) t) acc n)
  (n:=n) hh (AAC _ hr) (OM hn) P5 (by omega) s.heap.objs.size (.ref s.heap.objs.size) 0 (AAD _ rfl)
  (λh' tk acc c k e it=>⟨h',tk,acc,c,rfl,rfl,λb o z=>k b o (AAe (Heap.lt_size z)) (AAC _ z),e,it⟩)
 refine AAk key (λfin s' z=>?_) λe s' z=>by obtain⟨_,_,_,_,y,_⟩:=z;cases y
 cases fin with
 |done f=>
  obtain⟨h',tk,acc,c,y,rfl,k,e,it⟩:=z;cases y;exact got acc c h' tk k e it
 |again c=>
  refine⟨z.1,codeAny_mono z.2 λf s2 y=>?_⟩;obtain⟨h',tk,acc,c,rfl,rfl,k,e,it⟩:=y;exact got acc c h' tk k e it
end
section
variable{X:Cx}
theorem PB:CA X (.type "range") (λxs H Q=>∃n:Nat,xs=[.int n]/\∀p,H p=none->Q (.ref p) (upd H p (.rng 0 n))):=by
 intro w4 s O H xs us Q I r h;obtain⟨n,rfl,q⟩:=h;obtain⟨u,rfl,t,rfl⟩:=Vals.one r;refine call_range_1 ⟨.ref s.heap.objs.size,_,I.laid (o:=.rng 0 n) (λb o e=>AAC _ e) (AAE _) ⟨_,_,_,AAD _ rfl⟩,rfl,q _ (I.hok.fresh (AAE _))⟩
noncomputable abbrev NZ(n:Nat):List V:=((List.range n).map Int.ofNat).map V.int
theorem Oi(n:Nat):(NZ n).length=n:=by simp
theorem Lv(hc:X.calm=true):CA X (.type "tuple") (λxs H Q=>∃p n,xs=[.ref p]/\H p=some (.rng 0 (n:Nat))/\n<=1000/\∀l,H l=none->Q (.ref l) (upd H l (.tup (NZ n)))):=by
 intro w4 s O H xs us Q I r h;obtain⟨p,n,rfl,hp,hn,q⟩:=h;obtain⟨u,rfl,ru⟩:=Vals.one r;cases ru;obtain⟨t,u,v,e⟩:=I.hok p _ hp;refine callType_codes PySem.F.called_tuple (PySem.F.typeCall_tuple_1 (.ref p)) PySem.F.entry_object_init (Q₁:=λx s₁=>s₁.TypeIs x "tuple" /\ EP X w4 O Q x s₁) ?_ (λx s₁ z=>And.intro z.1 (And.intro (PySem.F.args_object_init_2 x (.ref p)) ?_))
 ·refine codeAny_call_builtin PySem.F.plain_tuple_new PySem.F.entry_tuple_new (AAw (PySem.F.newCall_tuple_1 _) ?_);have a1:=sub_tuple_self;have a2:=init_tuple_lookup;have a3:=madeHere_tuple;have a4:s.TypeIs (.ref p) "range" := ⟨_,e,rfl⟩;unfold Builtin.«tuple.__new__»;have go:∀(A:Around) (Q:List Value->Shared->Prop) (E:Value->Shared->Prop),A.handled=none->(∀h' tk (acc:List Value),(∀b o,s.heap.get? b=some o->h'.get? b=some o)->IntsAre acc ((List.range n).map Int.ofNat)->Q acc { s with heap:=h',toks:=tk })->wpAny (model X.prog X.w) A (collect (.ref p)) Q E s:=λA Q E hh z=>Lo hh e hn z
  wp_walk using go
  ·exact I.ok.hd hc
  ·intro h' tk acc k im;have hl:acc.length=n:=by
    have:=congrArg List.length im.nums;simpa using this
   refine AAA (AAB ?_);unfold Builtin.Tuple.tupleExact;refine AAA (AAr ?_ (by show acc.toArray.size<=sizeLine;rw[sizeLine_eq];simp;omega));have I1:=I.kept (t':=tk) k;refine AAB ⟨⟨_,AAD _ rfl,rfl⟩,.ref h'.objs.size,_,I1.laid (t':=tk) (o:=.tup (NZ n)) (λb o z=>AAC _ z) (AAE _) ⟨by rw[Oi,sizeLine_eq];omega,acc,E8 im,IsTup.new _ _⟩,rfl,q _ (I1.hok.fresh (AAE _))⟩
 ·exact object_init_meets PySem.F.called_tuple.init.lookup PySem.F.called_tuple.made (by decide) X.prog X.w X.A.in1 (wants (λr s₂=>r=.none/\EP X w4 O Q x s₂) X.xe) s₁ (And.intro z.1 (And.intro rfl z.2))
end
end L2
namespace Mi
open PySem L2 Ht
noncomputable def Qy(n:Nat):List D:=((List.range n).map Int.ofNat).map D.int
noncomputable def QA(how:List D->D)(d:D):M D:=match d with
 | .int j=>λZ=>if 0<=j/\j<=1000 then some (how (Qy j.toNat),Z) else none
 |_=>Bb
section
variable{X:Cx}{e:Expr}{pos p p2 pos2:Pos}
theorem Tb{T:String}{f:List D->D}{how:List V->HO}{m:Sl->M D}(call:X.calm=true->CA X (.type T) (λxs H Q=>∃p n,xs=[.ref p]/\H p=some (.rng 0 (n:Nat))/\n<=1000/\∀l,H l=none->Q (.ref l) (upd H l (how (NZ n)))))
  (fin:∀{Y:Nat->Addr} {Z:Mh} {H:Hp} {Q:VK} {ds:List D} {vs:List V},RelH X.kw Y Z H->IsL X.kw Y Z.length H ds vs->(Aft X.kw Y Z H Z λY' H'=>∀v,Is X.kw Y' Z.length H' (f ds) v->Q v H')->∀l,H l=none->Q (.ref l) (upd H l (how vs)))
  (yl:X.mg T=none) (ys:X.mg "range" = none) (bt:bootBuiltins T=some (.type T)) (he:RE X e m) (hc:X.calm=true:=by rfl) (hgl:Gl X T:=by rfl) (hgs:Gl X "range" := by rfl) (hst:GQ e=false:=by rfl) (n1:(T:Str) ≠ "__name__" := by decide) (n2:((T:Str)==("__debug__" : Str))=false:=by decide) :
  RE X (.Call (.Name T p) [.Call (.Name "range" p2) [e] [] pos2] [] pos) (mUn (QA f) m):=by
 have hs:PE X (.Call (.Name "range" p2) [e] [] pos2) _:=FC PB hgs ys PyProof.Rows.boot_range (Fv he.pe HZ (A1 hst)) (by decide) (by decide) (A1 hst) rfl;refine RE.wk (FC (call hc) hgl yl bt (Fv hs HZ (A1 rfl)) n1 n2 (A1 rfl) rfl) λO H Q h=>?_;obtain⟨Y,Z,B,d,Z',R,S,ev,q⟩:=h;obtain⟨x,w5,e1,e2⟩:=AF ev;refine⟨Y,Z,B,x,w5,R,S,e1,λx4 H1 E1 R1 v1 i1=>?_⟩;cases x with
 |int j=>
  have e3:(if 0<=j/\j<=1000 then some (f (Qy j.toNat),w5) else none)=some (d,Z'):=e2;split at e3
  ·rename_i hj;cases e3;have z:=B2 i1;subst z;have ej:j=((j.toNat:Nat):Int):=by omega
   refine⟨j.toNat,by rw[←ej],λp hp=>?_⟩;obtain⟨E2,R2⟩:=R1.laid (.rng 0 (j.toNat:Nat)) hp;exact⟨p,j.toNat,rfl,BZ,by omega,λl hl=>fin R2 (Hn _) (λY' H' E' R'=>q Y' H' ((E1.trans E2).trans E') R') l hl⟩
  ·cases e3
 |_=>cases e2
theorem OT{m:Sl->M D}(yl:X.mg "tuple" = none)(ys:X.mg "range" = none)(he:RE X e m)(hc:X.calm=true:=by rfl)(hgl:Gl X "tuple" := by rfl)(hgs:Gl X "range" := by rfl)(hst:GQ e=false:=by rfl):
  RE X (.Call (.Name "tuple" p) [.Call (.Name "range" p2) [e] [] pos2] [] pos) (mUn (QA D.tup) m):=Tb (T := "tuple") (how:=HO.tup) Lv Nf yl ys Mi.C7 he hc hgl hgs hst
noncomputable def Yr:List D->M D
 |[d]=>bnd (BP d) λds=>ret (.lst ds)
 |_=>Bb
noncomputable def D8(l:List (Key×D))(k:Key):List (Key×D):=l.filter λkv=>decide (kv.1≠k)
theorem KVs.drop{K:KW}{Y:Nat->Addr}{k:Nat}{H:Hp}:∀{l:List (Key×D)} {r:List (Key×V)} (y:Key),KVs K Y k H l r->KVs K Y k H (D8 l y) (Gg r y)
 |[],_,y,h=>by cases h;rfl
 |(z,d)::l,_,y,h=>by
  obtain⟨v,r',rfl,h1,h2⟩:=h;have ih:=KVs.drop y h2;unfold D8 Gg at ih ⊢;by_cases hz:z=y
  ·rw[List.filter_cons_of_neg (by simp[hz]),List.filter_cons_of_neg (by simp[hz])];exact ih
  ·rw[List.filter_cons_of_pos (by simp[hz]),List.filter_cons_of_pos (by simp[hz])];exact⟨v,_,rfl,h1,ih⟩
noncomputable def U6(d y:D):M D:=bnd (ET d) λr=>λZ=>(KM y).bind λk=>(DC r.2 k).map λv=>(v,Z.set r.1 (.dK (D8 r.2 k)))
noncomputable def JD(mo mi:Sl->M D):Sl->M D:=λB=>bnd (mo B) λx=>bnd (KR x) λ_=>bnd (mi B) λy=>U6 x y
theorem Td{o:Expr}{apos cpos:Pos}{mo mi:Sl->M D}(ho:RE X o mo)(hi:RE X e mi)(m:M1 X o "pop" apos e cpos:=by exact⟨rfl,rfl,rfl,rfl⟩):RE X (.Call (.Attribute o "pop" apos) [e] [] cpos) (JD mo mi):=RE.wk (Qh ho.pe hi.pe m) λO H Q h=>by
 obtain⟨Y,Z,B,d,Z',R,S,e,q⟩:=h;obtain⟨x,w5,e1,ee1⟩:=AF e;obtain⟨u,u4,e4,ee2⟩:=AF ee1;obtain⟨y,w6,e2,ee3⟩:=AF ee2;obtain⟨r,x8,e3,ee4⟩:=AF ee3;obtain⟨hm,r0,e5⟩:=Ov e4;subst hm;refine⟨Y,Z,B,x,_,R,S,e1,λx4 H1 E1 R1 v1 i1=>?_⟩;obtain⟨_,_,_,rfl,kvs0,g0,_⟩:=DJ R1 i1 e5;refine⟨_,rfl,.inl ⟨kvs0,.inl g0⟩,x4,_,B,y,w6,R1,S.ext E1,e2,λx6 H2 E2 R2 v2 i2=>?_⟩;obtain⟨hm,hx,g1,hv,kvs,g2,g3⟩:=DJ R2 (i1.ext E2) e3;subst hm;cases hk:KM y with
 |none=>rw[hk] at ee4;cases ee4
 |some ky=>
  rw[hk] at ee4;cases G1 i2 hk;have hv':x4 r0.1=x6 r.1:=V.ref.inj hv;rw[hv'];rcases g3.val ky with ⟨z1,z2⟩|⟨dd,vv,z1,z2,z3⟩
  ·have ee5:(DC r.2 ky).map (λv=>(v,x8.set r.1 (MO.dK (D8 r.2 ky))))=some (d,Z'):=ee4;rw[z1] at ee5;cases ee5
  ·have ee5:(DC r.2 ky).map (λv=>(v,x8.set r.1 (MO.dK (D8 r.2 ky))))=some (d,Z'):=ee4;rw[z1] at ee5;cases ee5;have hlt:r.1<List.length x8:=(AAT.mp g1).1;obtain⟨E4,R4⟩:=R2.changed (m:=.dK (D8 r.2 ky)) (o:=.dK (Gg kvs ky)) hlt ⟨_,rfl,g3.drop ky⟩;exact⟨kvs,ky,vv,g2,rfl,z2,q x6 _ ((E1.trans E2).trans E4) R4 vv (z3.ext E4)⟩
theorem Hf:MtR X "list.remove" (λx xs H Q=>∃p ys y j,x=.ref p/\xs=[y]/\H p=some (.lst ys)/\DF y=true/\ys.all DF=true/\ys.findIdx? (λz=>eqV z y)=some j/\Q .non (upd H p (.lst (ys.eraseIdx j)))):=by
 intro w4 s O H x xs v us Q I rx rs h;obtain⟨p,ys,y,j,rfl,rfl,hp,fy,fys,hj,q⟩:=h;cases rx;obtain⟨u,rfl,ru⟩:=FM rs;obtain⟨z,its,n,r,hl,e⟩:=I.lstM hp;obtain⟨hj2,e1,e2⟩:=IA r fys hj;refine call_meets PySem.F.slot_list_remove ⟨_,e,rfl⟩ PySem.F.entry_list_remove (PySem.F.args_list_remove_2 _ _) (MeetsSeq.list_remove p its.toArray n u (eqU y) (λw hw prog w' A E s Q hq=>DZ (A:=A) (s:=s) ru fy r fys w (by simpa using hw) prog w' E Q hq) j (by rw[List.size_toArray];exact hj2) (by simpa using e1) (λm hm h=>by simpa using e2 m (by simpa using hm) h) (by rw[List.size_toArray];omega)) ⟨e,?_⟩;refine⟨.non,_,I.lset (its':=its.eraseIdx j) (ys:=ys.eraseIdx j) hp e ?_ (r.eraseIdx j) ?_,rfl,q⟩
 ·show its.toArray.eraseIdxIfInBounds j=(its.eraseIdx j).toArray;rw[List.eraseIdxIfInBounds_toArray]
 ·have:=JE ys j;omega
theorem IsL.erase{K:KW}{Y:Nat->Addr}{k:Nat}{H:Hp}:∀{ds:List D} {vs:List V} (j:Nat),IsL K Y k H ds vs->IsL K Y k H (ds.eraseIdx j) (vs.eraseIdx j)
 |[],_,j,h=>by unfold IsL at h;subst h;simpa using IsL.nil
 |d::ds,_,j,h=>by
  unfold IsL at h;obtain⟨v,vs',rfl,h1,h2⟩:=h;cases j with
  |zero=>exact h2
  |succ j=>
   rw[List.eraseIdx_cons_succ,List.eraseIdx_cons_succ];unfold IsL;exact⟨v,_,rfl,h1,IsL.erase j h2⟩
noncomputable def MW:D->List D->M D
 | .ref n,[y]=>HD n λds=>match FR y,DL ds with
  |some y,some xs=>(xs.findIdx? λz=>eqV z y).map λj=>(.non,ds.eraseIdx j)
  |_,_=>none
 |_,_=>Bb
theorem Q2:MtR X "list.remove" (rMM X.kw MW):=λw4 s O H x xs v us Q I rx rs h=>by
 obtain⟨Y,Z,a,as,d,Z',R,ia,ib,e,q⟩:=h;unfold MW at e;split at e
 ·rename_i n y;obtain⟨ds,es,h1,h2,rfl⟩:=GI e;obtain⟨w,rfl,iw⟩:=FJ ib;unfold Is at ia;obtain⟨_,rfl⟩:=ia;obtain⟨u,g1,vs,rfl,g2⟩:=R.obj n _ h1;split at h2
  ·rename_i y' xs' q1 q2;obtain⟨rfl,f1⟩:=F2 iw q1;obtain⟨rfl,f2⟩:=FF g2 q2;cases hj:vs.findIdx? (λz=>eqV z w) with
   |none=>rw[hj] at h2;cases h2
   |some j=>
    rw[hj] at h2;cases h2;exact Hf w4 s O H _ _ v us Q I rx rs ⟨_,vs,w,j,rfl,rfl,g1,f1,f2,hj,Jo R h1 (g2.erase j) ofN q⟩
  ·cases h2
 ·cases e
end
end Mi
namespace L2
open PySem PySem.Spec PyProof.Rows Sem Ht
theorem TC:fillsNumberSlot (.type "tuple") "mul" = Pure.pure false:=PySem.fillsNumberSlot_seq (id := "tuple.__mul__") (r:=some (.builtin "tuple.__rmul__")) PySem.F.slot_tuple_mul.lookup (by decide +kernel) PySem.F.slot_tuple_rmul.lookup (by decide +kernel)
theorem VS:seqRepeat? (.type "tuple")=Pure.pure (some (.builtin "tuple.__mul__")):=by
 unfold seqRepeat?;rw[PySem.seqSlot_of (T := "tuple") (name := "__mul__") PySem.F.slot_tuple_mul.lookup (by decide +kernel),PySem.seqSlot_of (T := "tuple") (name := "__rmul__") PySem.F.slot_tuple_rmul.lookup (by decide +kernel)];rfl
section
variable{w:World}{A:Around}{s:Shared}
theorem VU(a:Int)(t:Tok)(l:Addr)(items:Array Value):Meets (Builtin.«int.__rmul__» ⟨[.int a t,.ref l],[]⟩) (λ_ R s=>IsTup s.heap l items/\R (.ok (.ret Value.notImplemented)) s):=
 .of_wp λprog w A R s h=>by
  obtain⟨⟨o,ho,hc,n,hd⟩,h⟩:=h;have hT:s.TypeIs (.ref l) "tuple" := ⟨o,ho,hc⟩;have z:=PySem.F.sub_tuple_int
  wp_walk
  rw[hd]
  wp_walk
  exact⟨_,rfl,h⟩
theorem VT(l:Addr)(items:Array Value)(k:Int)(t:Tok)(h0:items.isEmpty=false)(h1:1<=k)(h2:k<=1000)(h3:items.size<=1000):
  Meets (Builtin.«tuple.__mul__» ⟨[.ref l,.int k t],[]⟩) (λ_ R s=>IsTup s.heap l items/\(k=1->R (.ok (.ret (.ref l))) s)/\(k≠1->R (.ok (.ret (.ref s.heap.objs.size))) { s with heap:=s.heap.push { cls:=.type "tuple",data:=.seq ((List.replicate k.toNat items).foldl (·++·) #[]) } })):=
 .of_wp λprog w A R s h=>by
  obtain⟨⟨o,ho,hc,n,hd⟩,q1,q2⟩:=h;have hT:s.TypeIs (.ref l) "tuple" := ⟨o,ho,hc⟩;have b1:(items.size:Int) * k<=1000000:=by
   have:=Int.mul_le_mul (show (items.size:Int)<=1000 by omega) h2 (by omega) (by omega);omega
  have c1:(decide (k < -2 ^ 63)||decide (k ≥ 2 ^ 63))=false:=by simp;omega
  have c3:(decide (k<=0)||items.isEmpty)=false:=by rw[h0];simp;omega
  have c5:Builtin.Tuple.tupleTooMany ((items.size:Int) * k)=false:=by
   unfold Builtin.Tuple.tupleTooMany;simp[sizeLine_eq];omega
  unfold Builtin.«tuple.__mul__»
  wp_walk
  rw[c1,if_neg AAh];refine AAA ?_;unfold Builtin.Tuple.tupleItemsOf;refine AAA (wpAny_seqItems ho hd (AAB ?_));rw[h0];by_cases hk:k=1
  ·have c2:(false||k==1)=true:=by simp[hk]
   rw[c2];simp only[↓reduceIte]
   wp_walk
   exact⟨_,rfl,q1 hk⟩
  ·have c2:(false||k==1)=false:=by simp[hk]
   rw[c2];simp only[Bool.false_eq_true,↓reduceIte];rw[Bool.or_false,AAN (show ¬k<=0 by omega)];simp only[Bool.false_eq_true,↓reduceIte];rw[if_neg (show ¬(items.size:Int) * k > (2 ^ 63-1) / 8 by omega),c5];simp only[Bool.false_eq_true,↓reduceIte];unfold Builtin.Tuple.tupleExact;refine AAA (AAr (AAB ⟨_,rfl,q2 hk⟩) ?_);show ((List.replicate k.toNat items).foldl (·++·) #[]).size<=sizeLine;have sz:∀(m:Nat) (z:Array Value),((List.replicate m items).foldl (·++·) z).size=z.size+m * items.size:=by
    intro m
    induction m with
    |zero=>intro z;simp
    |succ m ih=>intro z;rw[AAm,List.foldl_cons,ih,Array.size_append,Nat.succ_mul];omega
   rw[sz,sizeLine_eq];have:((k.toNat * items.size:Nat):Int)=(items.size:Int) * k:=by
    rw[Int.natCast_mul,Int.toNat_of_nonneg (by omega),Int.mul_comm]
   simp;omega
end
theorem Hw(its:List Value):∀(m:Nat) (z:List Value),(List.replicate m its.toArray).foldl (·++·) z.toArray=(z++(List.replicate m its).flatten).toArray
 |0,z=>by simp
 |m+1,z=>by
  rw[AAm,List.foldl_cons,List.append_toArray,Hw its m,AAm,List.flatten_cons,AAn]
theorem Vals.reps{vs:List V}{us:List Value}(r:Vals vs us):∀m:Nat,Vals (List.replicate m vs).flatten (List.replicate m us).flatten
 |0=>.nil
 |m+1=>by
  rw[AAm,List.flatten_cons,AAm,List.flatten_cons];exact r.append (Vals.reps r m)
section
variable{X:Cx}
theorem T0:OpR X (binaryOp .Mult) (λx y H Q=>∃l k xs,x=.ref l/\y=.int k/\SqT X.kw H l xs/\xs≠[]/\xs.length<=1000/\1<=k/\k<=1000/\(k=1->Q (.ref l) H)/\(k≠1->∀p,H p=none->Q (.ref p) (upd H p (.tup (List.replicate k.toNat xs).flatten)))):=by
 intro w4 s O H x y v u Q I rx ry h;obtain⟨l,k,xs,rfl,rfl,ha,hx,hz,k1,k2,q1,q2⟩:=h;cases rx;obtain⟨t,rfl⟩:=ry;obtain⟨its,r,p,_⟩:=I.tuple ha;have hlen:=r.length;have hT:s.TypeIs (.ref l) "tuple" := by obtain⟨o,e,c,_⟩:=p;exact⟨o,e,c⟩
 have he:its.toArray.isEmpty=false:=by
  cases its with
  |nil=>exact absurd (List.length_eq_zero_iff.mp (by simpa using hlen)) hx
  |cons a b=>rfl
 refine wpAny_binaryOp_repeat_ref (T := "tuple") (U := "int") (by decide) hT (λs'=>typeIs_int s' k t) TC PySem.F.fills_int_mul PySem.F.slot_int_rmul VS PySem.F.slot_int_index.lookup ?_;refine call_meets PySem.F.slot_int_rmul (typeIs_int s k t) PySem.F.entry_int_rmul (PySem.F.args_int_rmul_2 _ _) (VU k t l its.toArray) ⟨p,rfl,hT,?_⟩;refine call_meets PySem.F.slot_tuple_mul hT PySem.F.entry_tuple_mul (PySem.F.args_tuple_mul_2 _ _) (VT l its.toArray k t he k1 k2 (by rw[List.size_toArray];omega)) ⟨p,λz=>⟨.ref l,H,I,rfl,q1 z⟩,λz=>?_⟩;have ef:=Hw its k.toNat [];rw[List.nil_append] at ef;rw[ef];refine⟨.ref s.heap.objs.size,_,I.laid (t':=s.toks) (o:=.tup (List.replicate k.toNat xs).flatten) (λb ob q=>AAC _ q) (AAE _) ⟨?_,_,r.reps _,IsTup.new _ _⟩,rfl,q2 z _ (I.hok.fresh (AAE _))⟩;rw[Nb,sizeLine_eq];have:k.toNat * xs.length<=1000 * 1000:=Nat.mul_le_mul (by omega) hz;omega
end
end L2
namespace Mi
open PySem L2 Ht
noncomputable def GL(a b:D):M D:=match a,b with
 | .tup ds,.int k=>λZ=>if ds≠[]/\ds.length<=1000/\1<=k/\k<=1000 then some (.tup (List.replicate k.toNat ds).flatten,Z) else none
 |a,b=>GZ a b
section
variable{X:Cx}
theorem Qr:OpR X (binaryOp .Mult) (rM X.kw GL):=λw4 s O H x y v u Q I rx ry h=>by
 obtain⟨Y,Z,a,b,d,Z',R,ia,ib,e,q⟩:=h;unfold GL at e;split at e
 ·rename_i ds k;split at e
  ·rename_i hc;obtain⟨c1,c2,c3,c4⟩:=hc;cases e;have zb:=B2 ib;subst zb;unfold Is at ia;obtain⟨p,vs,rfl,h1,h2⟩:=ia;have hl:=h2.length;refine T0 w4 s O H _ _ v u Q I rx ry ⟨p,k,vs,rfl,rfl,h1,λz=>c1 (List.length_eq_zero_iff.mp (by rw[←hl,z];rfl)),by omega,c3,c4,λz=>?_,λz=>?_⟩
   ·subst z;refine q Y H R.ext0 R _ ?_;unfold Is;exact⟨p,vs,rfl,h1,by simpa using h2⟩
   ·exact Nf R (h2.rep _) q
  ·cases e
 ·exact LM w4 s O H _ _ v u Q I rx ry ⟨Y,Z,a,b,d,Z',R,ia,ib,e,q⟩
end
noncomputable def J7:D->D->M D
 | .int i,.int j=>ret (.int (i+j))
 |_,_=>Bb
section
variable{X:Cx}{e:Expr}{pos pos':Pos}
theorem Vg(i:Nat){x:Str}{m:Sl->M D}(hN:X.N.Nodup)(he:RE X e m)(hi:X.N[i]?=some x:=by rfl)(hx:Loc X.env.scope x:=by first|exact Or.inl rfl|exact Or.inr rfl)(hf:X.fn x=true∨X.env.scope.names.lookup x=some .local:=by first|exact .inl rfl|exact .inr rfl|assumption):
  RS X (.AugAssign (.Name x pos') .Add e pos) (Af (mOp J7 (AA i) m) (AN i)):=RS.wk (Vq hN hi hx he.pe WY hf) λDn O H h=>by
 obtain⟨Y,Z,B,f,x9,Z',R,S,ev,q⟩:=h;obtain⟨d,w5,e1,ev⟩:=AF ev;obtain⟨w9,w6,e2,ev⟩:=AF ev;cases ev;cases e2;obtain⟨a,x8,e3,ev⟩:=AF e1;obtain⟨b,u4,e4,e5⟩:=AF ev;unfold AA at e3;split at e3
 ·rename_i d' ed;cases e3;obtain⟨v,s1,h1⟩:=S.get i _ ed;refine⟨v,s1,Y,Z,B,b,u4,R,S,e4,λx4 H1 E1 R1 v1 i1=>?_⟩;cases a with
  |int k=>
   cases b with
   |int j=>
    cases e5;have z1:=B2 h1;have z2:=B2 i1;subst z1 z2;exact⟨k,j,rfl,rfl,q x4 H1 E1 R1 _ ((S.ext E1).set i (ofI _))⟩
   |_=>cases e5
  |_=>cases e5
 ·cases e3
end
end Mi
namespace K13
open PySem L2 Mi
noncomputable def Bd:D:=.int (-1)
noncomputable def BK:D:=.int (-1)
noncomputable def BV  : Sl->M (Fl×Sl):=
  (AT (Af (mOp Dk (AG Bo (AC (mOp AL (AA 0) (mC (.int 4))) AJ)) (mC (.int 1))) (AN 1))
  (AT (sIf (AK (mOp AY (mOp AL (AA 0) (mC (.int 0))) (mC (.str "whole")))) (Av (AG Ax (AC (AG Ax (AC (mOp AL (AA 0) (mC (.int 2))) (AC (mC Bd) (AC (mOp GL (AG Ax (AC (mC Bd) AJ)) (AA 1)) AJ)))) AJ))) Ay)
  (Av (AG Ax (AC (mOp AL (AA 0) (mC (.int 2))) (AC (mC Bd) (AC (mOp GL (AG Ax (AC (mC .non) AJ)) (AA 1)) AJ)))))))
noncomputable def Em  : Sl->M (Fl×Sl):=
  (AT (sIf (AK (mOp AY (AA 0) (mC (.str "safe")))) (Av (mUn (QA D.tup) (AA 1))) Ay)
  (Av (AG GJ (AC (mUn Fi (mOp Ab (AA 2) (AG Ax (AC (AA 3) AJ)))) AJ))))
noncomputable def Bi  : Sl->M (Fl×Sl):=
  (Av (mOp Ab (mOp Ab (EZ (AA 0) Cb (Ch (AA 1))) (AG Ax (AC (AA 2) AJ))) (EZ (AA 0) (Ch (mOp Ab (AA 1) (mC (.int 1)))) Cb)))
noncomputable def CG  : Sl->M (Fl×Sl):=
  (Av (Ep (AG D5 (AC (AA 0) (AC (mC (.ty "int")) AJ))) (Ep (LS (AG D5 (AC (AA 0) (AC (mC (.ty "bool")) AJ)))) (Eo IW IW (AA 1) (AA 0) (AA 2)))))
noncomputable def CH  : Sl->M (Fl×Sl):=
  (Av (Ep (AG D5 (AC (AA 0) (AC (mC (.ty "tuple")) AJ))) (Eo IW IW (AA 1) (AG Bo (AC (AA 0) AJ)) (AA 2))))
noncomputable def C4(ZE:List D->M D):Sl->M (Fl×Sl):=
  (AT (sIf (Dh (AK (AG D5 (AC (AA 1) (AC (mC (.ty "list")) AJ))))) DW Ay)
  (AT (Af (Bf 1 [] (Db (mOp AL (AA 0) (mC (.int 4)))) (AN 0) Cg (mOp AL (AA 0) (mC (.int 0))) BT) (AN 2))
  (AT (Af WE (AN 3))
  (AT (Af (AG FZ AJ) (AN 4))
  (AT (Af (mC (.int 0)) (AN 5))
  (AT (Fp (Q8 (AC (AA 1) AJ)) (Kc [6,7]) (AT (sIf (Dh (AK (AG ZE (AC (AA 7) (AC (AA 2) (AC (mOp AL (AA 0) (mC (.int 1))) AJ)))))) DW Ay)
  (AT (Af (Ai Hu (AA 2) (AC (mOp AL (AA 7) (mC (.int 1))) AJ)) (AN 8))
  (AT (sIf (AK (mOp AY (mOp AY (mOp AL (AA 7) (mC (.int 0))) (mC (.str "begin"))) (mOp (Lk false) (AA 8) (AA 3)))) DW Ay)
  (AT (sIf (AK (mOp AY (mOp AL (AA 7) (mC (.int 0))) (mC (.str "begin")))) (AT (Ix (AA 3) (AA 8) (AA 5))
  (Af (mOp J7 (AA 5) (mC (.int 1))) (AN 5))) Ay)
  (AT (A5 (Ai Co (AA 4) (AC (AG Ax (AC (mOp AL (AA 7) (mC (.int 0))) (AC (AA 8) (AC (mIf (AK (mOp AY (AG Bo (AC (AA 7) AJ)) (mC (.int 3)))) (mOp AL (AA 7) (mC (.int 2))) (mC BK)) (AC (mOp Gh (AA 3) (AA 8)) AJ))))) AJ)))
  (sIf (AK (mOp AY (mOp AL (AA 7) (mC (.int 0))) (mC (.str "end")))) (A5 (JD (AA 3) (AA 8))) Ay)))))))
  (Av (AA 4))))))))
noncomputable def CI(ZF:List D->M D)(ST:List D->M D):Sl->M (Fl×Sl):=
  (AT (sIf (mOr (Dh (AK (AG ZF (AC (AA 0) (AC (mC (.int 2)) (AC (mC (.int 3)) AJ)))))) (mOr (AK (mOp (Dq true) (mOp AL (AA 0) (mC (.int 0))) (AG Ax (AC (mC (.str "begin")) (AC (mC (.str "end")) AJ))))) (AK (mOp (Dq true) (mOp AL (AA 0) (mC (.int 1))) (AA 1))))) (Av (mC (.bl false))) Ay)
  (AT (sIf (AK (mOp AY (mOp AY (mOp AL (AA 0) (mC (.int 0))) (mC (.str "begin"))) (mOp AY (mOp AL (AA 0) (mC (.int 1))) (mOp AL (AA 1) (mC (.int 0)))))) (Av (Ep (mOp AY (AG Bo (AC (AA 0) AJ)) (mC (.int 3))) (AG ST (AC (mOp AL (AA 0) (mC (.int 2))) (AC (mC (.int 0)) (AC (mOp Dk (AA 2) (mC (.int 1))) AJ)))))) Ay)
  (Av (mOp AY (AG Bo (AC (AA 0) AJ)) (mC (.int 2))))))
noncomputable def Da  : Sl->M (Fl×Sl):=
  (AT (sIf (AK (mOp OX (AA 1) (AG Bo (AC (AA 0) AJ)))) (Av (mOp AL (AA 0) (AA 1))) Ay)
  (Av (mC (.int 0))))
noncomputable def D1  : Sl->M (Fl×Sl):=
  (AT (Af (AG FZ AJ) (AN 2))
  (AT (Af (mOp BO (AA 0) (mC (.int 2))) (AN 3))
  (AT (J3 BE (C5 (AK (mOp AY (mOp Ba (AA 0) (mC (.int 2))) (mC (.int 0)))) (C5 (AK (mOp OY (AA 3) (mC (.int 0)))) (AK (mOp OX (AG Bo (AC (AA 2) AJ)) (AA 1))))) (AT (A5 (Ai Co (AA 2) (AC (mOp Ba (AA 3) (mOp Iz (mC (.int 10)) (mC (.int 9)))) AJ)))
  (Af (mOp BO (AA 3) (mOp Iz (mC (.int 10)) (mC (.int 9)))) (AN 3))))
  (AT (Af (mOp Ba (mOp GZ (mOp Ab (mOp BO (AA 0) (mC (.int 2))) (mC (.int 7919))) (mC (.int 48271))) (mC (.int 2147483647))) (AN 3))
  (AT (Fp (DN (AC (AA 1) AJ)) (AN 4) (AT (Af (mOp Ba (mOp GZ (AA 3) (mOp Ab (mOp Ab (mOp BO (AA 3) (mC (.int 1009))) (mC (.int 69621))) (AA 4))) (mC (.int 2147483647))) (AN 3))
  (AT (A5 (Ai Co (AA 2) (AC (mOp Ba (mOp GZ (AA 3) (mOp Ab (mOp BO (AA 3) (mC (.int 127))) (mC (.int 40009)))) (mC (.int 2147483629))) AJ)))
  (Af (mOp Ab (AA 3) (mC (.int 1))) (AN 3)))))
  (Av (EZ (AA 2) Cb (Ch (AA 1)))))))))
noncomputable def D2  : Sl->M (Fl×Sl):=
  (AT (Af (mOp Ab (mC (.int 2)) (mOp Ba (mOp BO (AA 0) (mC (.int 4))) (mC (.int 9)))) (AN 2))
  (AT (Af (mOp AL (AG BT (AC (AG BT (AC (mC (.str "w")) (AC (mC (.str "r")) (AC (mC (.str "s")) (AC (mC (.str "t")) AJ))))) (AC (AG BT (AC (mC (.str "writer")) (AC (mC (.str "a")) (AC (mC (.str "ab")) (AC (mC (.str "b")) AJ))))) (AC (AG BT (AC (mC (.str "z")) (AC (mC (.str "zz")) (AC (mC (.str "zzzzzzzz")) (AC (mC (.str "begin")) AJ))))) AJ)))) (mOp Ba (mOp BO (AA 0) (mC (.int 36))) (mC (.int 3)))) (AN 3))
  (AT (Af (mOp Ab (mC (.int 1)) (mOp Ba (mOp BO (AA 0) (mC (.int 108))) (mC (.int 3)))) (AN 4))
  (AT (Af (Bf 1 [] (Db (EZ (AA 3) Cb (Ch (mOp Ab (mC (.int 1)) (AA 4))))) (AN 0) Cg (AG Ax (AC (AA 0) (AC (mC (.int 0)) (AC (AG Ax AJ) AJ)))) BT) (AN 5))
  (Av (AG Ax (AC (AA 1) (AC (AA 2) (AC (mOp Ba (mOp BO (AA 0) (mC (.int 324))) (AA 2)) (AC (AG Ax AJ) (AC (AG GJ (AC (AA 5) AJ)) AJ)))))))))))
noncomputable def En  : Sl->M (Fl×Sl):=
  (AT (Af (mOp Ab (EZ (AA 1) (Ch (mUn Us (mC (.int 3)))) Cb) (AG BT (AC (mOp Ba (mOp BO (AA 2) (mC (.int 5))) (mOp AL (AA 0) (mC (.int 1)))) (AC (mOp AL (AA 0) (mC (.int 2))) AJ)))) (AN 3))
  (Av (mOp AL (AA 3) (mOp Ba (AA 2) (AG Bo (AC (AA 3) AJ))))))
noncomputable def D3(ZS:List D->M D)(ZX:List D->M D):Sl->M (Fl×Sl):=
  (AT (Af (AG FZ AJ) (AN 2))
  (AT (Af (AG FZ AJ) (AN 3))
  (AT (Af (AG FZ (AC (mOp AL (AA 0) (mC (.int 2))) AJ)) (AN 4))
  (AT (Af (Bf 1 [] (Db (mOp AL (AA 0) (mC (.int 4)))) (AN 0) Cg (mOp AL (AA 0) (mC (.int 0))) BT) (AN 5))
  (AT (Fp (Db (AA 1)) (AN 6) (AT (Af (mOp AL (AG ZS (AC (AA 6) (AC (mC (.int 1)) AJ))) (mC (.int 0))) (AN 7))
  (AT (Af (mOp AL (AA 5) (mOp Ba (AA 7) (AG Bo (AC (AA 5) AJ)))) (AN 8))
  (AT (sIf (AK (mOp AY (mOp Ba (mOp BO (AA 7) (mC (.int 4))) (mC (.int 3))) (mC (.int 0)))) (Af (mOp AL (AA 5) (mC (.int 0))) (AN 8)) Ay)
  (AT (Af (mOp Ba (mOp BO (AA 7) (mC (.int 60))) (mOp AL (AA 0) (mC (.int 1)))) (AN 9))
  (AT (Af (AG Ax (AC (mOp AL (AG BT (AC (mC (.str "begin")) (AC (mC (.str "end")) AJ))) (AG Oq (AC (mOp (Dq false) (AA 8) (AA 2)) AJ))) (AC (AA 8) AJ))) (AN 10))
  (AT (sIf (C5 (AK (mOp AY (AA 8) (mOp AL (AA 5) (mC (.int 0))))) (AK (mOp AY (mOp AL (AA 10) (mC (.int 0))) (mC (.str "begin"))))) (AT (Af (mOp Ab (AA 10) (AG Ax (AC (AA 9) AJ))) (AN 10))
  (A5 (Ai Co (AA 4) (AC (AA 9) AJ)))) Ay)
  (AT (sIf (C5 (AK (mOp EY (AA 8) (mOp AL (AA 5) (mC (.int 0))))) (AK (mOp AY (mOp AL (AA 10) (mC (.int 0))) (mC (.str "end"))))) (Af (mOp Ab (AA 10) (AG Ax (AC (AG ZX (AC (AA 0) (AC (AA 4) (AC (mOp BO (AA 7) (mC (.int 60))) AJ)))) AJ))) (AN 10)) Ay)
  (AT (A5 (Ai Co (AA 3) (AC (AA 10) AJ)))
  (sIf (AK (mOp (Dq false) (AA 8) (AA 2))) (A5 (Ai MW (AA 2) (AC (AA 8) AJ))) (A5 (Ai Co (AA 2) (AC (AA 8) AJ)))))))))))))
  (Av (AA 3)))))))
noncomputable def B3:List D->M D:=Au .drop 2 2 (Da)
noncomputable def CP:List D->M D:=Au .drop 6 2 (D2)
noncomputable def CO:List D->M D:=Au .drop 5 2 (D1)
noncomputable def Ck:List D->M D:=Au .drop 4 3 (En)
noncomputable def CQ:List D->M D:=Au .frz 11 2 (D3 CO Ck)
noncomputable def Ap:List D->M D:=Au .drop 2 1 (BV)
noncomputable def BW:List D->M D:=Au .drop 3 3 (CH)
noncomputable def Bm:List D->M D:=Au .drop 3 3 (CG)
noncomputable def BJ:List D->M D:=Au .drop 3 3 (CI BW Bm)
noncomputable def BF:List D->M D:=Au .frz 9 2 (C4 BJ)
noncomputable def B9:List D->M D:=Au .drop 4 4 (Em)
noncomputable def AZ:List D->M D:=Au .drop 3 3 (Bi)
end K13
namespace L2
open PySem PySem.Spec PyProof.Rows
section
variable{X:Cx}{scope:Scope}{tgs:List Str}{ix:List Nat}
noncomputable def Ks(P:Program)(w:World)(A:Around):Option Expr->Env->(Bool->Shared->Prop)->(Value->Shared->Prop)->Shared->Prop
 |none,_,Q,_,s=>Q true s
 |some c,env,Q,E,s=>wpAny (model P w) A (isTrue c env (eval c env)) Q E s
theorem Pu{P:Program}{w:World}{A:Around}{env:Env}{Q Q':Bool->Shared->Prop}{E:Value->Shared->Prop}{s:Shared}:∀{co:Option Expr},Ks P w A co env Q (λ_ _=>False) s->(∀b s,Q b s->Q' b s)->Ks P w A co env Q' E s
 |none,h,k=>k _ _ h
 |some _,h,k=>Mv h k
def VP(P:Program)(w:World)(A:Around)(tg elt:Expr)(co:Option Expr)(it acc:Value)(env:Env)(R:Result->Shared->Prop)(G:Shared->Prop)(r:Option Value)(s1:Shared):Prop:=match r with
 |none=>R (.ok .next) s1
 |some v=>wpAny (model P w) A (letOwnedTupleGo tg it v) (λ_ s0=>wpAny (model P w) A (assign tg env v) (λ_ s2=>
   Ks P w A co env (λok s3=>if ok=true then wpAny (model P w) A (eval elt env) (λx s4=>wpAny (model P w) A (call (.builtin "list.append") [acc,x]) (λ_ s5=>G s5) (notedBy (model P w) A env λe s'=>R (.error e) s') s4) (notedBy (model P w) A env λe s'=>R (.error e) s') s3 else G s3)
    (notedBy (model P w) A env λe s'=>R (.error e) s') s2) (notedBy (model P w) A env λe s'=>R (.error e) s') s0) (notedBy (model P w) A env λe s'=>R (.error e) s') s1
theorem Q9{P:Program}{w:World}{A:Around}{tg elt iter:Expr}{pos:Pos}{it acc:Value}{env:Env}{R:Result->Shared->Prop}{s:Shared}(I:Nat->Shared->Prop):∀(co:Option Expr),
  (∀n s,I n s->wpAny (model P w) A (pyNext it) (VP P w A tg elt co it acc env R λs5=>∃m,m<n/\I m s5) (notedBy (model P w) A env λe s'=>R (.error e) s') s)->∀n,I n s->
  codeAny (model P w) A (.compLoop (.ListComp elt [⟨tg,iter,co.toList,0⟩] scope pos) 0 it acc env) R s
 |none,turn,n,h=>PySem.W.kcp_loop I (λn s hI=>AAk (turn n s hI) (λr s1 q=>match r,q with
   |none,q=>q
   |some v,q=>AAk q (λ_ _ q=>AAk q (λ_ _ q=>by
     have q':=q;dsimp only[Ks] at q';rw[if_pos rfl] at q';exact q') λ_ _ x=>x) λ_ _ x=>x) λ_ _ x=>x) n h
 |some c,turn,n,h=>PySem.W.kct_loop I (λn s hI=>AAk (turn n s hI) (λr s1 q=>match r,q with
   |none,q=>q
   |some v,q=>q) λ_ _ x=>x) n h
def PH(X:Cx)(co:Option Expr)(tc:TT):Prop:=
 ∀(w4:List (Addr×Obj)) (s:Shared) (O:St) (H:Hp) (Q:Bool->Hp->Prop),Inv X w4 O H s->tc O H Q->Ks X.prog X.w X.A co X.env (TP X w4 O Q) X.xe s
theorem Gj{elt tg iter:Expr}{co:Option Expr}{pos:Pos}{g:TG}{tc:TT}{te:TE}{w4:List (Addr×Obj)}{O:St}{H2:Hp}{s2:Shared}{it:Addr}{fp:List Addr}{tn:Nat->Heap->Prop}{J:It}{Q:VK}
  (S:BScope X scope tgs ix) (hc:X.calm=true) (hg:∀fp C s H,PG (cxB X scope tgs fp C s H) tg g) (hgk:GK tgs.length g) (hi:∀fp C s H,PH (cxB X scope tgs fp C s H) co tc) (he:∀fp C s H,PE (cxB X scope tgs fp C s H) elt te)
  (I2:Inv X w4 O H2 s2) (T:L7 X.prog X.w X.kw tg J fp it tn) (t0:tn 0 s2.heap) (hf:∀b∈fp,GF X w4 H2 b)
  (W:Nat->Nat->List V->Hp->Prop) (w0:∃m,W 0 m [] H2)
  (turn:∀i m ys H,W i m ys H->(J.stop i H/\ys.length<=sizeLine/\∀p,H p=none->Q (.ref p) (upd H p (.lst ys))) ∨
   (J.go i H/\ys.length<sizeLine/\∃N:List V->Hp->Prop,(∀ys' H',N ys' H'->∃m',m'<m/\W (i+1) m' ys' H')/\∀x H',J.yld i H x H'->g x (Ct tgs ix O) H' λu7 H2=>tc u7 H2 λb H3=>
    if b=true then te u7 H3 λv H4=>N (ys++[v]) H4 else N ys H3))
  {RR:Value->Addr->Result->Shared->Prop}
  (fin:∀(D C:Addr) (s':Shared) (H':Hp) (m:Str->Option Value),Inv X w4 O H' s'->Q (.ref D) H'->s'.heap.Ns C m->GF X w4 H' C->RR (.ref D) C (.ok .next) s') :
  wpAny (model X.prog X.w) X.A (newList []) (λacc s₃=>wpAny (model X.prog X.w) X.A (newFunctionEnv scope X.env.globals (E6 X.env scope.names []) [] X.env.qual none .none (some X.env)) (λcenv s₄=>
   codeAny (model X.prog X.w) X.A (.compStart (.ListComp elt [⟨tg,iter,co.toList,0⟩] scope pos) 0 (.ref it) acc { cenv with scope:=relabel scope X.env }) (RR acc cenv.locals) s₄) X.xe s₃) X.xe s2:=by
 refine AAr (wpAny_newFunctionEnv S.nocell (by intro y hy;simp at hy) (λh₁ hns₁ hsb₁=>?_) S.kind);dsimp only at hns₁ hsb₁ ⊢;generalize hH2:s2.heap.push { cls:=.type "list",dict:=none,data:=.seq ([]:List Value).toArray }=G2 at hns₁ hsb₁ ⊢;have hC:G2.objs.size=s2.heap.objs.size+1:=by rw[←hH2,Heap.size_push]
 have hCle:s2.heap.objs.size<=G2.objs.size:=by rw[hC];exact Nat.le_succ _
 have hDC:s2.heap.objs.size≠G2.objs.size:=by rw[hC];exact AAe (Nat.lt_succ_self _)
 have below:∀b,b<s2.heap.objs.size->b≠G2.objs.size/\b≠s2.heap.objs.size:=λb hb=>⟨by rw[hC];exact AAe (AAi hb),AAe hb⟩;have old:∀b o,s2.heap.get? b=some o->h₁.get? b=some o:=λb o e=>hsb₁.extBut b o (below b (Heap.lt_size e)).1 (AAC _ (hH2 ▸ AAC _ e));have hacc:h₁.get? s2.heap.objs.size=some (KI [] 0):=hsb₁.extBut _ _ hDC (AAC _ (hH2 ▸ AAD _ rfl));have hfo:∀b∈fp,b<s2.heap.objs.size:=λb hb=>let ⟨o,e,_⟩:=T.obj 0 _ t0 b hb;Heap.lt_size e
 have ok:=R6 (tgs:=tgs) (ix:=ix) (C:=G2.objs.size) S I2 hf hfo hCle;have sub:∀x c,(E6 X.env scope.names []).lookup x=some c->X.env.cells.lookup x=some c:=Ez scope.names [] (λ_ _ z=>by simp at z);have nDfs:s2.heap.objs.size∉frs X.stack:=λhz=>by
  rcases AAI.mp (I2.stkSub _ hz) with z|z
  ·exact absurd I2.lt (by rw[←z];exact AAy _)
  ·exact I2.nofs (AAE _) z
 have nDcell:∀x c,(E6 X.env scope.names []).lookup x=some c->c≠s2.heap.objs.size:=λx c e=>AAe (I2.cellLt (sub x c e));have ncell:∀(its:List Value) (k:Nat) (v:Option Value),(KI its k).data≠.cell v:=λits k v z=>by cases z
 have stat:∀{Hx:Hp} {o:Obj},(∀b∈fp,Hx b=none)->∀b∈fp,GF (cxB X scope tgs fp G2.objs.size s2 H2) [(s2.heap.objs.size,o)] Hx b:=λ{Hx o} hn b hb=>
  ⟨hn b hb,(ok.exf b hb).1,ok.exfs b hb,.inl hb,(ok.exf b hb).2,λp hp z=>by
   have e:p=(s2.heap.objs.size,o):=by simpa[cxB] using hp
   subst e;exact absurd (hfo b hb) (by rw[←z];exact AAy _)⟩
 have loop:∀s₃:Shared,s₃={ s2 with heap:=h₁,toks:=s2.toks+([]:List (Str×Value)).length }->
   codeAny (model X.prog X.w) X.A (.compLoop (.ListComp elt [⟨tg,iter,co.toList,0⟩] scope pos) 0 (.ref it) (.ref s2.heap.objs.size) (compEnvC scope (E6 X.env scope.names []) G2.objs.size X.env)) (RR (.ref s2.heap.objs.size) G2.objs.size) s₃:=by
  rintro s₃ rfl;obtain⟨m0,w0⟩:=w0;refine Q9 (λn s=>∃i ys its k H,Inv (cxB X scope tgs fp G2.objs.size s2 H2) [(s2.heap.objs.size,KI its k)] (Ct tgs ix O) H s/\tn i s.heap/\(∀b∈fp,H b=none)/\Vals ys its/\W i n ys H) co ?_ m0
   ⟨0,[],[],0,H2,Mo S I2 hf hfo hCle (AAE _) hDC hns₁ old rfl rfl hacc (ncell _ _),T.keep 0 _ _ t0 λb _ o e=>old b o e,λb hb=>(hf b hb).1,.nil,w0⟩
  rintro n s ⟨i,ys,its,k,H,I,st,fr,rv,w⟩;rcases turn i n ys H w with ⟨stop,hz,q⟩|⟨go,hz8,N,hN,step⟩
  ·refine thn (T.done (cxB X scope tgs fp G2.objs.size s2 H2) rfl rfl rfl hc i _ s _ H _ I (stat fr) st stop) λr s1 ⟨hr,I1⟩=>?_;subst hr;obtain⟨pe,pn,_⟩:=I1.pin (s2.heap.objs.size,KI its k) (AAb _ (by simp));have J0:Inv X w4 O H s1:=I2.call' I1.os I1.base I1.hok I1.bare λb hb=>⟨(hf b hb).2.2.2.1,(hf b hb).2.1,(hf b hb).2.2.2.2.1,(hf b hb).2.2.2.2.2⟩;have J1:Inv X w4 O (upd H s2.heap.objs.size (.lst ys)) s1:=J0.track (I2.fpOk (AAE _) pn) ⟨hz,its,k,rv,pe⟩;obtain⟨m,hn,_⟩:=I1.loc;exact fin _ _ s1 _ m J1 (q _ pn) hn (I2.fpOk hCle (by rw[A0 (Ne.symm hDC)];exact I1.free))
  ·refine thn (T.item (cxB X scope tgs fp G2.objs.size s2 H2) rfl rfl rfl hc i _ s _ H _ I (stat fr) st go) λr s1 ⟨u,hr,h1⟩=>?_;subst hr;refine thn h1 λ_ s5 ⟨x,H5,I5,r5,y5,st5,fr5⟩=>?_;have I5':=I5.pinned (stat fr5) (T.obj _ _ st5);refine Mv (hg fp G2.objs.size s2 H2 _ s5 _ H5 x u _ I5' r5 (hgk _ _ _ _ (step x H5 y5))) λ_ s6 ⟨v6,H6,I6,q6,l6,d6⟩=>?_;refine Pu (hi fp G2.objs.size s2 H2 _ s6 v6 H6 _ I6 q6) λokb s7 ⟨H7,I7,q7⟩=>?_;cases okb with
   |false=>
    rw[if_neg AAh] at q7 ⊢;obtain⟨m',hm,w7⟩:=hN _ _ q7;refine⟨m',hm,i+1,ys,its,k,H7,Ul I7.unpinned l6 d6,T.keep _ _ _ st5 λb hb o e=>(I7.pin (b,o) (AAb _ (AAb _ (C2 hb e)))).1,λb hb=>?_,rv,w7⟩;obtain⟨o,e,_⟩:=T.obj _ _ st5 b hb;exact(I7.pin (b,o) (AAb _ (AAb _ (C2 hb e)))).2.1
   |true=>
    rw[if_pos rfl] at q7 ⊢;refine Mv (he fp G2.objs.size s2 H2 _ s7 v6 H7 _ I7 q7) λxv s8 ⟨v,H8,I8,rv8,q8⟩=>?_;obtain⟨m',hm,w8⟩:=hN _ _ q8;obtain⟨pe,pn,_⟩:=I8.pin (s2.heap.objs.size,KI its k) (AAb _ (AAc _ (by simp)));have hlen:=rv.length;refine call_meets PySem.F.slot_list_append ⟨_,pe,rfl⟩ PySem.F.entry_list_append (PySem.F.args_list_append_2 _ _) (PySem.list_append s2.heap.objs.size its.toArray k xv (by rw[List.size_toArray];omega)) ⟨pe,?_⟩;have hp:its.toArray.push xv=(its++[xv]).toArray:=by simp
    have q':∃k',(s8.heap.update s2.heap.objs.size (Obj.mapSeq (λa=>a.push xv))).get? s2.heap.objs.size=some (KI (its++[xv]) k'):=⟨_,by
     unfold KI;rw[←hp];exact PySem.IsL.update pe (λa=>a.push xv)⟩
    obtain⟨k',q'⟩:=q';have I9:Inv (cxB X scope tgs fp G2.objs.size s2 H2) [] v6 H8 { s8 with heap:=s8.heap.update s2.heap.objs.size (Obj.mapSeq (λa=>a.push xv)) }:=
     (I8.pins_of (pins':=[]) (λp hp=>absurd hp (by simp))).turned (t':=s8.toks) (λb o hb e=>(Heap.get?_update_other s8.heap (Obj.mapSeq (λa=>a.push xv)) (Ne.symm hb)).trans e) pn hDC (.inr (AAE _)) nDcell (λp hp=>absurd hp (by simp[cxB]))
    have I10:Inv (cxB X scope tgs fp G2.objs.size s2 H2) [(s2.heap.objs.size,KI (its++[xv]) k')] v6 H8 { s8 with heap:=s8.heap.update s2.heap.objs.size (Obj.mapSeq (λa=>a.push xv)) }:=
     I9.pins_of λp hp=>by
      have e:p=(s2.heap.objs.size,KI (its++[xv]) k'):=by simpa using hp
      subst e;exact⟨q',pn,hDC,nDfs,ncell _ _⟩
    refine⟨m',hm,i+1,ys++[v],its++[xv],k',H8,Ul I10 l6 d6,T.keep _ _ _ st5 λb hb o e=>?_,λb hb=>?_,rv.append (.cons rv8 .nil),w8⟩
    ·exact(Heap.get?_update_other s8.heap (Obj.mapSeq (λa=>a.push xv)) (Ne.symm (below b (hfo b hb)).2)).trans (I8.pin (b,o) (AAb _ (AAb _ (C2 hb e)))).1
    ·obtain⟨o,e,_⟩:=T.obj _ _ st5 b hb;exact(I8.pin (b,o) (AAb _ (AAb _ (C2 hb e)))).2.1
 exact codeAny_compStart_list (loop _ rfl) (T.self _ 0 _ _ _ (T.keep 0 _ _ t0 λb _ o e=>old b o e) (loop _ rfl))
theorem Qk{elt tg iter:Expr}(co:Option Expr){pos:Pos}{wi:TI}{g:TG}{tc:TT}{te:TE}(S:BScope X scope tgs ix)(hc:X.calm=true)(hi:PI X tg iter wi)(hg:∀fp C s H,PG (cxB X scope tgs fp C s H) tg g)(hgk:GK tgs.length g)
  (hif:∀fp C s H,PH (cxB X scope tgs fp C s H) co tc) (he:∀fp C s H,PE (cxB X scope tgs fp C s H) elt te) (hs:∀x,foldedSetIterable iter X.env x=pure x:=by intro _;rfl) :
  PE X (.ListComp elt [⟨tg,iter,co.toList,0⟩] scope pos) (P1 tgs ix wi g tc te):=by
 intro w4 s O H Q I h;rw[eval_ListComp];refine wpAny_comprehension_free (use:=none) rfl hs (EA (S.cells I.ok)) S.kind S.loc ?_;show wpAny _ _ (eval iter X.env) _ _ s;refine thn (hi w4 s O H _ I h) λv s1 h1=>thn h1 λitv s2 h2=>?_;obtain⟨it,fp,tn,J,H2,e,I2,T,t0,f2,W,w0,turn⟩:=h2;subst e;refine Gj (RR:=λacc C=>compPost (model X.prog X.w) X.A X.xe none (EP X w4 O Q) acc C) S hc hg hgk hif he I2 T t0 f2 W w0 turn ?_;intro D C s' H' m J1 q hn fC;obtain⟨f0,f1,f2,f3,f4,f5⟩:=fC;exact⟨m,hn,λh' sb=>⟨.ref D,H',J1.turned (t':=s'.toks) (λb o hb e=>(sb.2 b hb).trans e) f0 f1 f3 f4 f5,rfl,q⟩⟩
end
end L2
namespace Mi
open PySem L2
section
variable{X:Cx}
theorem CM{K:KW}:PH X none (tT K Cg):=λw4 s O H Q I h=>by
 obtain⟨Y,Z,B,b,Z',R,S,e,q⟩:=h;cases e;exact⟨H,I,q Y H R.ext0 R⟩
theorem HY{c:Expr}{mc:Sl->M Bool}(h:RT X c mc):PH X (some c) (tT X.kw mc):=λw4 s O H Q I hq=>h.pe w4 s O H Q I hq
end
end Mi
namespace L2
open PySem PySem.Spec PyProof.Rows
end L2
namespace Mi
open PySem L2 Ht
section
variable{X:Cx}{e tg iter:Expr}{body:List Stmt}{pos:Pos}
noncomputable def Yq(ks:List Key)(m:Sl->M (List D)):Sl->M D:=λB Z=>match m B (Z++[.dK []]) with
 |some (ds,w5)=>match w5[Z.length]? with
  |some (.dK [])=>if ds.length=ks.length then some (.ref Z.length,w5.set Z.length (.dK (ks.zip ds))) else none
  |_=>none
 |none=>none
noncomputable def GU(n:Nat)(bf:D->Sl->M Sl)(mb:Sl->M (Fl×Sl)):Nat->Nat->Sl->M (Fl×Sl)
 |0,_,_=>Bb
 |f+1,i,B=>λZ=>match Z[n]? with
  |some (.lst ds)=>match ds[i]? with
   |some x=>(bnd (bf x B) λw9=>bnd (mb w9) λr=>match r.1 with
    | .next=>GU n bf mb f (i+1) r.2
    | .cont=>GU n bf mb f (i+1) r.2
    | .brk=>ret (.next,r.2)
    | .rt d=>ret (.rt d,r.2)
    | .xc x=>ret (.xc x,r.2)) Z
   |none=>some ((.next,B),Z)
  |_=>none
noncomputable def NP(BE:Nat)(m:Sl->M D)(bf:D->Sl->M Sl)(mb:Sl->M (Fl×Sl)):Sl->M (Fl×Sl):=λB=>bnd (m B) λx=>match x with
 | .ref n=>GU n bf mb BE 0 B
 |_=>Bb
theorem TR(BE:Nat){m:Sl->M D}{bf:D->Sl->M Sl}{mb:Sl->M (Fl×Sl)}(hp:PassesOwn (model X.prog X.w) X.A X.env X.xe)(hc:X.calm=true)(hi:RE X iter m)(hg:RG X tg bf)(hb:RSs X body mb)
  (hs:∀x,foldedSetIterable iter X.env x=pure x:=by intro _;rfl):RS X (.For tg iter body [] pos) (NP BE m bf mb):=RS.wk (QY hp hc (NV hi.pe) hg.pe hb.pe hs) λDn O H h=>by
 obtain⟨Y,Z,B,f,x9,Z',R,S,e,q⟩:=h;obtain⟨x,w5,e1,e2⟩:=AF e;refine⟨Y,Z,B,x,w5,R,S,e1,λx4 H1 E1 R1 v i1=>?_⟩;cases x with
 |ref n=>
  unfold Is at i1;obtain⟨hk,rfl⟩:=i1;have hn0:∃ds,w5[n]?=some (.lst ds):=by
   cases BE with
   |zero=>cases e2
   |succ f=>
    have e3:GU n bf mb (f+1) 0 B w5=some ((_,x9),Z'):=e2;unfold GU at e3;split at e3
    ·rename_i ds hd;exact⟨ds,hd⟩
    ·cases e3
  obtain⟨ds0,hn0⟩:=hn0;obtain⟨u,hu,o⟩:=R1.obj n _ hn0;obtain⟨vs0,rfl,iv0⟩:=o;refine⟨_,rfl,⟨vs0,SqL.of hu⟩,?_⟩
  let W:Nat->Nat->St->Hp->Prop:=λi m O H=>∃Y Z B f x9 Z',RelH X.kw Y Z H/\RelS X.kw Y Z.length H B O/\n<Z.length/\Y n=x4 n/\GU n bf mb m i B Z=some ((f,x9),Z') /\
   Aft X.kw Y Z H Z' λY' H'=>∀O',RelS X.kw Y' Z'.length H' x9 O'->FlP X.kw Dn Y' Z'.length H' x9 O' f
  refine⟨W,⟨BE,x4,w5,B,f,x9,Z',R1,S.ext E1,hk,rfl,e2,λx6 H2 E2 R2=>q x6 H2 (E1.trans E2) R2⟩,?_⟩;rintro i m O H ⟨Y,Z,B,f,x9,Z',R,S,hn,en,e,q⟩;cases m with
  |zero=>cases e
  |succ m=>
   unfold GU at e;split at e
   ·rename_i ds hd;obtain⟨u,hu,o⟩:=R.obj n _ hd;obtain⟨vs,rfl,iv⟩:=o;rw[en] at hu;have hl:=iv.length;split at e
    ·rename_i x hx;obtain⟨xv,hxv,ixv⟩:=iv.get hx;refine .inr ⟨⟨vs,xv,SqL.of hu,hxv⟩,λO' H'=>W (i+1) m O' H',λO' H' z=>⟨_,Nat.lt_succ_self _,z⟩,λy H2 yl=>?_⟩;obtain⟨z,yl⟩:=yl;subst z;have:=yl vs (SqL.of hu);rw[hxv] at this;cases this;obtain⟨w9,w6,e1,ea⟩:=AF e;obtain⟨⟨f2,x5⟩,x8,e2,eb⟩:=AF ea;refine⟨Y,Z,B,_,w9,w6,R,S,ixv,e1,λu3 H3 E3 R3 u9 S3=>?_⟩;refine⟨u3,w6,w9,f2,x5,x8,R3,S3,e2,λu6 H4 E4 R4 v9 S4=>?_⟩;have E14:=E3.trans E4;have hn4:n<x8.length:=AAM hn E14.le;have en4:u6 n=x4 n:=(E14.agree n hn).trans en;cases f2 with
     |next=>exact⟨u6,x8,x5,f,x9,Z',R4,S4,hn4,en4,eb,λu8 H5 E5 R5=>q u8 H5 (E14.trans E5) R5⟩
     |cont=>exact⟨u6,x8,x5,f,x9,Z',R4,S4,hn4,en4,eb,λu8 H5 E5 R5=>q u8 H5 (E14.trans E5) R5⟩
     |brk=>cases eb;exact q u6 H4 E14 R4 v9 S4
     |rt d=>cases eb;exact q u6 H4 E14 R4 v9 S4
     |xc x=>cases eb;exact q u6 H4 E14 R4 v9 S4
    ·rename_i hx;cases e;have hle:ds.length<=i:=by simpa using hx
     exact .inl ⟨⟨vs,SqL.of hu,by omega⟩,q Y H R.ext0 R O S⟩
   ·cases e
 |_=>cases e2
end
end Mi
namespace Sq
open PySem PySem.W PyProof.Rows
end Sq
namespace Nk
open PySem PySem.Spec PyProof.Rows HT
noncomputable def O0(c:Cs):List Int:=c.1::c.2.1::c.2.2
noncomputable def cLt(a b:Cs):Bool:=Ci (O0 a) (O0 b)
theorem Lf{a b:Cs}(h:O0 a=O0 b):a=b:=by
 obtain⟨a1,a2,a3⟩:=a;obtain⟨b1,b2,b3⟩:=b;simp only[O0,List.cons.injEq] at h;rw[h.1,h.2.1,h.2.2]
theorem F8{a b:Cs}(h:csK a=csK b):a=b:=by
 obtain⟨a1,a2,a3⟩:=a;obtain⟨b1,b2,b3⟩:=b;unfold csK at h;simp only[NK.tup.injEq,List.cons.injEq,NK.int.injEq,and_true] at h;obtain⟨h1,h2,h3⟩:=h;have:a3=b3:=by
  have inj:∀(x y:List Int),x.map NK.int=y.map NK.int->x=y:=by
   intro x
   induction x with
   |nil=>intro y h;cases y with
    |nil=>rfl
    |cons _ _=>cases h
   |cons u x ih=>intro y h;cases y with
    |nil=>cases h
    |cons v y=>
     rw[AAW,AAW,List.cons.injEq,NK.int.injEq] at h;rw[h.1,ih y h.2]
  exact inj a3 b3 h3
 rw[h1,h2,this]
theorem Gy:∀a:List Int,Ci a a=false
 |[]=>rfl
 |x::a=>by rw[Bk,if_pos rfl];exact Gy a
theorem KJ:∀{a b:List Int},a≠b->Ci a b=true∨Ci b a=true
 |[],[],h=>absurd rfl h
 |[],_::_,_=>.inl rfl
 |_::_,[],_=>.inr rfl
 |x::a,y::b,h=>by
  by_cases e:x=y
  ·subst e;rw[Bk,Bk,if_pos rfl,if_pos rfl];exact KJ λz=>h (by rw[z])
  ·rw[Bk,Bk,if_neg e,if_neg (Ne.symm e)];rcases Int.lt_or_gt_of_ne e with z|z
   ·exact .inl (AAO z)
   ·exact .inr (AAO z)
theorem Mj:∀{a b c:List Int},Ci a b=true->Ci b c=true->Ci a c=true
 |[],[],_,h,_=>by cases h
 |[],_::_,[],_,h=>by cases h
 |[],_::_,_::_,_,_=>rfl
 |_::_,[],_,h,_=>by cases h
 |_::_,_::_,[],_,h=>by cases h
 |x::a,y::b,z::c,h,g=>by
  rw[Bk] at h g ⊢;by_cases e:x=y
  ·subst e;rw[if_pos rfl] at h;by_cases e2:x=z
   ·subst e2;rw[if_pos rfl] at g ⊢;exact Mj h g
   ·rw[if_neg e2] at g ⊢;exact g
  ·rw[if_neg e] at h;have h':=of_decide_eq_true h;by_cases e2:y=z
   ·subst e2;rw[if_neg e];exact h
   ·rw[if_neg e2] at g;have g':=of_decide_eq_true g;rw[if_neg (by omega)];exact AAO (by omega)
theorem KN{h:Heap}:∀{l:List Int} {vs:List Value},Ats h (l.map NK.int) vs->IntsAre vs l
 |[],_,a=>by unfold List.map Ats at a;subst a;exact .nil
 |i::l,_,a=>by
  unfold List.map Ats at a;obtain⟨v,vs',rfl,a1,a2⟩:=a;unfold At at a1;obtain⟨t,rfl⟩:=a1;exact .cons i t (KN a2)
theorem IF{h:Heap}{c:Cs}{v:Value}(x:At h (csK c) v):∃a o items n t u q,v=.ref a/\h.get? a=some o/\o.cls=.type "tuple" /\ o.data=.seq items n/\items.toList=[.int c.1 t,.int c.2.1 u,q]/\At h (.tup (c.2.2.map NK.int)) q:=by
 unfold csK At at x;obtain⟨a,o,items,n,rfl,h1,h2,h3,h4⟩:=x;unfold Ats at h4;obtain⟨v1,r1,e1,a1,h4⟩:=h4;unfold Ats at h4;obtain⟨v2,r2,e2,a2,h4⟩:=h4;unfold Ats at h4;obtain⟨v3,r3,e3,a3,h4⟩:=h4;unfold Ats at h4;unfold At at a1 a2;obtain⟨t,rfl⟩:=a1;obtain⟨u,rfl⟩:=a2;subst h4 e3 e2;exact⟨a,o,items,n,t,u,v3,rfl,h1,h2,h3,e1,a3⟩
theorem JY:∀l:List Int,NK.deeps (l.map NK.int)=0
 |[]=>rfl
 |i::l=>by show max 0 (NK.deeps (l.map NK.int))=0;rw[JY l];rfl
section
variable{prog:Program}{w:World}{A:Around}{E:Value->Shared->Prop}{s:Shared}
theorem YI{a b:Cs}{x y:Value}{Q:Bool->Shared->Prop}(hu:A.units+8<cLine)(hx:At s.heap (csK a) x)(hy:At s.heap (csK b) y)(q:Q (cLt a b) s):wpAny (model prog w) A (keyLt' (tuples' true) x y) Q E s:=by
 obtain⟨x,ox,xs,n,t,u,p,rfl,h1,h2,h3,h4,h5⟩:=IF hx;obtain⟨y,oy,ys,n',t',u',p',rfl,g1,g2,g3,g4,g5⟩:=IF hy;refine PySem.W.kat_lt h1 h3 g1 g3 ?_;rw[h4,g4];unfold cLt O0 at q;rw[Bk] at q;refine PySem.W.kat_cons (SeqAt.EqAt.int_int a.1 t b.1 t' prog w _ _ ?_);by_cases e1:a.1=b.1
 ·rw[beq_iff_eq.mpr e1];rw[if_pos e1,Bk] at q;refine PySem.W.kat_yes (PySem.W.kat_cons (SeqAt.EqAt.int_int a.2.1 u b.2.1 u' prog w _ _ ?_));by_cases e2:a.2.1=b.2.1
  ·rw[beq_iff_eq.mpr e2];rw[if_pos e2] at q;refine PySem.W.kat_yes (PySem.W.kat_cons (At.eq (by show A.units+(NK.deeps (a.2.2.map NK.int)+1)<cLine;rw[JY];omega) h5 g5 prog w _ _ ?_));by_cases e3:a.2.2=b.2.2
   ·have hd:decide (NK.tup (a.2.2.map NK.int)=NK.tup (b.2.2.map NK.int))=true:=AAO (by rw[e3]);rw[hd];refine PySem.W.kat_yes (PySem.W.kat_nil ?_);rw[e3,Gy] at q;have z1:xs.size=3:=by rw[←Array.length_toList,h4];rfl
    have z2:ys.size=3:=by rw[←Array.length_toList,g4];rfl
    rw[z1,z2];exact q
   ·have hne:¬(NK.tup (a.2.2.map NK.int)=NK.tup (b.2.2.map NK.int)):=λz=>e3 (by
     have:=F8 (a:=(0,0,a.2.2)) (b:=(0,0,b.2.2)) (by unfold csK;rw[z]);exact(Prod.mk.inj (Prod.mk.inj this).2).2)
    rw[AAN hne];refine PySem.W.kat_no ?_;show wpAny _ _ (oneLt' false p p') Q _ s;unfold At at h5 g5;obtain⟨z,o1,i1,m1,rfl,k1,k2,k3,k4⟩:=h5;obtain⟨z',o2,i2,m2,rfl,k1',k2',k3',k4'⟩:=g5;exact PySem.W.kat_one _ _ (Me ⟨o1,k1,k2,m1,k3⟩ ⟨o2,k1',k2',m2,k3'⟩ (KN k4) (KN k4') (by omega) q)
  ·rw[AAf.mpr e2];rw[if_neg e2] at q;refine PySem.W.kat_no ?_;exact PySem.W.kat_one _ _ (lt_int q)
 ·rw[AAf.mpr e1];rw[if_neg e1] at q;refine PySem.W.kat_no ?_;exact oneLt_int q
end
theorem Ats.get{h:Heap}:∀{ks:List NK} {vs:List Value},Ats h ks vs->∀(i:Nat) (k:NK),ks[i]?=some k->∃v,vs[i]?=some v/\At h k v
 |[],_,_,i,k,e=>by simp at e
 |k0::ks,_,a,i,k,e=>by
  unfold Ats at a;obtain⟨v,vs',rfl,a1,a2⟩:=a;cases i with
  |zero=>simp at e;subst e;exact⟨v,rfl,a1⟩
  |succ i=>
   obtain⟨u,e1,e2⟩:=Ats.get a2 i k (by simpa using e);exact⟨u,by simpa using e1,e2⟩
theorem Ats.of_get{h:Heap}:∀{ks:List NK} {vs:List Value},vs.length=ks.length->(∀(i:Nat) (k:NK) (v:Value),ks[i]?=some k->vs[i]?=some v->At h k v)->Ats h ks vs
 |[],[],_,_=>by unfold Ats;rfl
 |[],_::_,e,_=>by simp at e
 |_::_,[],e,_=>by simp at e
 |k::ks,v::vs,e,f=>by
  unfold Ats;exact⟨v,vs,rfl,f 0 k v rfl rfl,Ats.of_get (by simpa using e) λi k' v' h1 h2=>f (i+1) k' v' (by simpa using h1) (by simpa using h2)⟩
noncomputable abbrev Yy:Cs:=(0,0,[])
section
variable{w:World}{s:Shared}
theorem Rj:∀{ks:List Cs} {vs:List Value},Ats s.heap (ks.map csK) vs->∃fs:List Value,fs.length=vs.length/\PySem.W.KatTups s.heap vs fs/\∀v∈fs,∃i t,v=.int i t
 |[],_,a=>by
  unfold List.map Ats at a;subst a;exact⟨[],rfl,trivial,λv h=>by cases h⟩
 |k::ks,_,a=>by
  unfold List.map Ats at a;obtain⟨v,vs',rfl,a1,a2⟩:=a;obtain⟨fs,e,t,f⟩:=Rj a2;obtain⟨x,o,items,n,t1,u,q,rfl,h1,h2,h3,h4,_⟩:=IF a1;refine⟨.int k.1 t1::fs,by simp[e],PySem.W.KatTups.cons h1 h2 h3 ?_ t,λw hw=>(AAI.mp hw).elim (λz=>⟨_,_,z⟩) (f w)⟩;rw[←Array.getElem?_toList,h4];rfl
end
end Nk
set_option maxHeartbeats 4000000
namespace Nk
open PySem PySem.Spec PyProof.Rows Ht
noncomputable def itK(d:Addr)(i n ep:Nat):Obj:={ cls:=.type "dict_keyiterator",data:=.fields #[.ref d,.int i 0,.int n 0,.int ep 0] }
section
variable{prog:Program}{w:World}{A:Around}{E:Value->Shared->Prop}{s:Shared}{d I:Addr}{o:Obj}{es:Array DictEntry}{ep:Nat}
theorem NW{i:Nat}{Q:Option Value->Shared->Prop}(hh:A.handled=none)(hI:s.heap.get? I=some (itK d i es.size ep))(ho:s.heap.get? d=some o)(hd:o.data=.dict es ep)
  (more:∀(hi:i<es.size) (h':Heap),h'.get? I=some (itK d (i+1) es.size ep)->Heap.SameBut I s.heap h'->Q (some es[i].key) { s with heap:=h' })
  (done:es.size<=i->∀h',Heap.ExtBut I s.heap h'->Q none { s with heap:=h' }):wpAny (model prog w) A (pyNext (.ref I)) Q E s:=by
 have hT:s.TypeIs (.ref I) "dict_keyiterator" := ⟨_,hI,rfl⟩;have nm:∀{A:Around} {s:Shared} {E:Value->Shared->Prop} {R:String->Shared->Prop},s.TypeIs (.ref I) "dict_keyiterator" -> R "dict_keyiterator" s->wpAny (model prog w) A (typeNameOfWhole (.ref I)) R E s:=λty r=>wpAny_typeNameOfWhole_keyiter ty r;unfold pyNext;refine AAA (wpAny_attempt (wpAny_callSpecial?_slot (name:=Str.ofString "__next__") hT PySem.F.slot_dict_keyiterator_next (AAd PySem.F.slot_dict_keyiterator_next hT PySem.F.entry_dict_keyiterator_next ?_ (PySem.F.args_dict_keyiterator_next_1 _))))
 wp_walk
 rw[hd]
 wp_walk
 rw[hd];refine AAB ?_;rw[if_neg (by simp)];refine AAB ?_;have key:(if (i:Int)<0 then none else es[(i:Int).toNat]?)=es[i]?:=by rw[if_neg (by omega),Int.toNat_natCast]
 dsimp only;rw[key];cases e:es[i]? with
 |some x=>
  wp_walk
  have hi:i<es.size:=(Array.getElem?_eq_some_iff.mp e).1;have ex:es[i]=x:=(Array.getElem?_eq_some_iff.mp e).2;refine⟨_,rfl,AAB ?_⟩;rw[←ex];refine more hi _ ?_ (Heap.SameBut.update ..);rw[if_neg (by decide +kernel),if_neg (by decide +kernel)];rw[Heap.get?_update_self _ hI (by rfl)];simp[itK,rawInt,Obj.mapFields]
 |none=>
  refine AAA (AAA (nm hT (AAB ?_)));rw[if_neg (by decide +kernel)];refine AAA (wpAny_setField_rec hI (by simp) λh1 g1 s1=>?_);refine HW (A:=A.in1) (s:={ s with heap:=h1 }) hh λa h' k ty=>?_;refine AAA (wpAny_isInstance (T := "StopIteration") (b:=true) ty isSubtype_stop ?_);exact AAB (done (by simpa using e) h' λb o hb e=>k b o (s1.extBut b o hb e))
theorem UT{Q:Value->Shared->Prop}(lo:(d==sysModules)=false)(ho:s.heap.get? d=some o)(ex:o.ExactDict)(hd:o.data=.dict es ep)(q:Q (.ref s.heap.objs.size) { s with heap:=s.heap.push (itK d 0 es.size ep) }):wpAny (model prog w) A (pyIter (.ref d)) Q E s:=by
 have hT:s.TypeIs (.ref d) "dict" := ⟨o,ho,ex.1⟩;refine wpAny_pyIter_slot hT PySem.F.slot_dict_iter (AAd PySem.F.slot_dict_iter hT PySem.F.entry_dict_iter ?_ (PySem.F.args_dict_iter_1 _))
 wp_walk
 rw[if_neg (by rw[ex.1];decide)]
 wp_walk
 rw[hd]
 wp_walk
 rw[hd]
 wp_walk
 exact⟨_,rfl, "dict_keyiterator",_,⟨_,AAD _ rfl,rfl⟩,PySem.F.slot_dict_keyiterator_next.lookup,q⟩
theorem OQ{i:Nat}{Q:Value->Shared->Prop}(hI:s.heap.get? I=some (itK d i es.size ep))(q:Q (.ref I) s):wpAny (model prog w) A (pyIter (.ref I)) Q E s:=wpAny_pyIter_keyiter (d:=d) (i:=i) (n:=es.size) (ep:=ep) ⟨_,hI,rfl,rfl⟩ q
theorem ME(hh:A.handled=none)(hne:d≠I)(hd:o.data=.dict es ep):Walks prog w A I [I,d] [I] es.size (λi v=>∃e,es[i]?=some e/\v=e.key) (λi h=>h.get? I=some (itK d i es.size ep)/\h.get? d=some o):=by
 refine⟨λb hb=>?_,λi h h' st k=>⟨k I (by simp) _ st.1,k d (by simp) _ st.2⟩,λi s Q E hi st q=>?_,λs Q E st q=>?_,λi s Q E st q=>OQ st.1 q⟩
 ·rw[AAK] at hb;rw[hb];simp
 ·refine NW hh st.1 st.2 hd (λhi' h' g sb=>?_) λz=>absurd hi (Nat.not_lt.mpr z);refine q _ h' s.toks ⟨es[i],Array.getElem?_eq_getElem hi',rfl⟩ ⟨g,(sb.2 d hne).trans st.2⟩ λb o hb e=>?_;exact(sb.2 b λz=>hb (by rw[z];simp)).trans e
 ·refine NW hh st.1 st.2 hd (λhi'=>absurd hi' (AAy _)) λ_ h' k=>?_;exact q h' s.toks λb o hb e=>k b o (λz=>hb (by rw[z];simp)) e
theorem Kw(lo:(d==sysModules)=false)(ex:o.ExactDict)(hd:o.data=.dict es ep):PySem.W.KdlSrc prog w "dict" d d es.size (λi v=>∃e,es[i]?=some e/\v=e.key) (λh=>h.get? d=some o):=by
 refine⟨λs h=>⟨_,h,ex.1⟩,λh e=>⟨Heap.lt_size e,Heap.lt_size e⟩,λh h' e k=>k d (.inl rfl) _ e,by decide,by decide,λA E s Q e q=>PySem.W.kdl_hint_dict ⟨_,e,ex.1⟩ q,λA s hh e=>?_⟩;exact⟨itK d 0 es.size ep,_,λE Q q=>UT lo e ex hd q,ME hh (AAe (Heap.lt_size e)) hd,AAD _ rfl,AAC _ e⟩
theorem Hm{vs:Array Value}(it:ItemsOf (λi v=>∃e,es[i]?=some e/\v=e.key) vs es.size):vs.toList=es.toList.map (·.key):=by
 have h1:=it.1;refine List.ext_getElem (by simp[h1]) λi a b=>?_;have hi:i<vs.size:=by simpa using a
 obtain⟨e,g1,g2⟩:=it.2 i vs[i] (Array.getElem?_eq_getElem hi);have he:es[i]'(by omega)=e:=(Array.getElem?_eq_some_iff.mp g1).2;simp[g2,←he]
end
end Nk
namespace Nk
open PySem PySem.Spec PyProof.Rows L2 Mi
theorem SA(c:Cs):(csK c).deep<=8:=by
 have h:∀ns:List Int,NK.deeps (ns.map NK.int)=0:=λns=>by
  induction ns with
  |nil=>rfl
  |cons n r ih=>unfold List.map NK.deeps;rw[ih];rfl
 have:(csK c).deep=max 0 (max 0 (max (NK.deeps (c.2.2.map NK.int)+1) 0))+1:=rfl;rw[this,h]
 decide
theorem L0{h:Heap}:∀{ns:List Int} {its:List Value},Vals (ns.map V.int) its->Ats h (ns.map NK.int) its
 |[],_,r=>by cases r;unfold List.map Ats;rfl
 |n::ns,_,r=>by
  cases r with
  |cons e t=>
   obtain⟨tk,rfl⟩:=e;unfold List.map Ats;exact⟨_,_,rfl,by unfold At;exact⟨tk,rfl⟩,L0 t⟩
section
variable{X:Cx}{w4:List (Addr×Obj)}{O:L2.St}{H:Hp}{s:Shared}{Y:Nat->Addr}{k:Nat}
theorem SN(I:Inv X w4 O H s){c:Cs}{v:V}{u:Value}(i:Is X.kw Y k H (csD c) v)(r:RelV v u):At s.heap (csK c) u:=by
 unfold csD Is at i;obtain⟨p,vs,rfl,h1,h2⟩:=i;cases r;obtain⟨its,rv,⟨o,g1,g2,n,g3⟩,_⟩:=I.tuple h1;unfold Mi.IsL at h2;obtain⟨v1,_,rfl,i1,h2⟩:=h2;unfold Mi.IsL at h2;obtain⟨v2,_,rfl,i2,h2⟩:=h2;unfold Mi.IsL at h2;obtain⟨v3,_,rfl,i3,h2⟩:=h2;unfold Mi.IsL at h2;subst h2;unfold Is at i1 i2 i3;subst i1 i2;obtain⟨p3,vs3,rfl,j1,j2⟩:=i3;have e3:=j2.ints;subst e3;obtain⟨its3,rv3,⟨o3,k1,k2,n3,k3⟩,_⟩:=I.tuple j1;cases rv with
 |cons a1 rv=>
  cases rv with
  |cons a2 rv=>
   cases rv with
   |cons a3 rv=>
    cases rv;obtain⟨t1,rfl⟩:=a1;obtain⟨t2,rfl⟩:=a2;cases a3;unfold csK At;refine⟨p,o,_,n,rfl,g1,g2,g3,?_⟩;unfold Ats;refine⟨_,_,rfl,by unfold At;exact⟨t1,rfl⟩,?_⟩;unfold Ats;refine⟨_,_,rfl,by unfold At;exact⟨t2,rfl⟩,?_⟩;unfold Ats;refine⟨_,_,rfl,?_,by unfold Ats;rfl⟩;unfold At;exact⟨p3,o3,_,n3,rfl,k1,k2,k3,L0 rv3⟩
theorem isC(I:Inv X w4 O H s){c:Cs}{a:Addr}(i:Is X.kw Y k H (csD c) (.ref a)):(kind X.prog X.w).is s.heap (csK c) a:=⟨SN I i rfl,SA c⟩
end
noncomputable def Fe(l:List (Cs×Addr×V))(us:List Value):List (NK×Addr×Value):=(l.zip us).map λx=>(csK x.1.1,x.1.2.1,x.2)
theorem NA{l:List (Cs×Addr×V)}{us:List Value}(h:l.length=us.length):(Fe l us).map (·.1)=(l.map (·.1)).map csK:=by
 unfold Fe;rw[List.map_map,List.map_map];have:(λx:(Cs×Addr×V)×Value=>csK x.1.1)=(λy:Cs×Addr×V=>csK y.1) ∘ Prod.fst:=rfl;show (l.zip us).map (λx=>csK x.1.1)=_;rw[this,←List.map_map,List.map_fst_zip (by omega)];rfl
theorem Oh{ks:List Cs}(h:ks.Nodup):(ks.map csK).Nodup:=by
 refine List.Pairwise.map _ ?_ h;intro a b hne e;exact hne (F8 e)
theorem GB{l:List (Cs×Addr×V)}{us:List Value}{c:Cs}(h:l.length=us.length):(atKey (Fe l us) (csK c)).isSome=l.any λy=>decide (y.1=c):=by
 have e:(atKey (Fe l us) (csK c)).isSome=((Fe l us).map (·.1)).any λy=>decide (y=csK c):=by
  unfold atKey;rw[Option.isSome_map,List.any_map];rw[Bool.eq_iff_iff,List.find?_isSome,List.any_eq_true];rfl
 rw[e,NA h,List.any_map,List.any_map];congr 1
 funext y
 show decide (csK y.1=csK c)=decide (y.1=c);by_cases z:y.1=c
 ·rw[z];simp
 ·rw[AAN z,AAN λq=>z (F8 q)]
theorem Rz{P:Program}{w:World}{H:Hp}{h:Heap}{p:Addr}{l:List (Cs×Addr×V)}(hk:HOk P w H h)(e:H p=some (D9 p l)):∃(us:List Value) (o:Obj) (es:Array DictEntry) (ep:Nat),Vals (l.map (·.2.2)) us/\h.get? p=some o/\o.ExactDict/\o.data=.dict es ep /\
  es.toList=(l.zip us).map (λx=>{ key:=.ref x.1.2.1,hash:=(csK x.1.1).hash,val:=x.2 })/\(l.map (·.1)).Nodup/\l.length<=sizeLine/\(p==sysModules)=false:=(hk p _ e).1
theorem U8{P:Program}{w:World}{H:Hp}{h:Heap}{p:Addr}{l:List (Cs×Addr×V)}(x:∃(us:List Value) (o:Obj) (es:Array DictEntry) (ep:Nat),Vals (l.map (·.2.2)) us/\h.get? p=some o/\o.ExactDict/\o.data=.dict es ep /\
  es.toList=(l.zip us).map (λx=>{ key:=.ref x.1.2.1,hash:=(csK x.1.1).hash,val:=x.2 })/\(l.map (·.1)).Nodup/\l.length<=sizeLine/\(p==sysModules)=false):ObjOk P w H h p (D9 p l):=by
 refine⟨x,?_,?_⟩
 ·obtain⟨us,o,es,ep,_,h1,_⟩:=x;exact⟨o,h1⟩
 ·rintro h1 h2 ⟨us,o,es,ep,a1,a2,a3⟩ k;exact⟨us,o,es,ep,a1,k o a2,a3⟩
theorem YH{P:Program}{w:World}{h:Heap}{p:Addr}{l:List (Cs×Addr×V)}{us:List Value}{o:Obj}{es:Array DictEntry}{ep:Nat}(hl:l.length=us.length)(h1:h.get? p=some o)(h2:o.ExactDict)(h3:o.data=.dict es ep)
  (h4:es.toList=(l.zip us).map (λx=>{ key:=.ref x.1.2.1,hash:=(csK x.1.1).hash,val:=x.2 })) (h5:(l.map (·.1)).Nodup) (hi:∀y∈l,(kind P w).is h (csK y.1) y.2.1):h.DictOfH (kind P w) p (Fe l us):=by
 refine⟨o,es,ep,h1,h2,h3,?_,?_,?_⟩
 ·rw[h4];unfold Fe;rw[List.map_map];rfl
 ·intro x hx;unfold Fe at hx;obtain⟨y,hy,rfl⟩:=AAL.mp hx;exact hi y.1 (List.of_mem_zip (a:=y.1) (b:=y.2) hy).1
 ·rw[NA hl];exact Oh h5
end Nk
namespace Mi
open PySem L2 Ht Nk
theorem CVs.keys{K:KW}{Y:Nat->Addr}{k:Nat}{H:Hp}:∀{l:List (Cs×D)} {r:List (Cs×Addr×V)},CVs K Y k H l r->r.map (·.1)=l.map (·.1)
 |[],_,h=>by cases h;rfl
 |(y,d)::l,_,h=>by
  obtain⟨a,v,r',rfl,_,_,h3⟩:=h;rw[AAW,AAW,CVs.keys h3]
theorem CVs.at{K:KW}{Y:Nat->Addr}{k:Nat}{H:Hp}:∀{l:List (Cs×D)} {r:List (Cs×Addr×V)},CVs K Y k H l r->∀y∈r,Is K Y k H (csD y.1) (.ref y.2.1)
 |[],_,h,y,hy=>by cases h;cases hy
 |(z,d)::l,_,h,y,hy=>by
  obtain⟨a,v,r',rfl,h1,_,h3⟩:=h;rcases AAI.mp hy with rfl|hy
  ·exact h1
  ·exact CVs.at h3 y hy
theorem CVs.isL{K:KW}{Y:Nat->Addr}{k:Nat}{H:Hp}:∀{l:List (Cs×D)} {r:List (Cs×Addr×V)},CVs K Y k H l r->IsL K Y k H (l.map λy=>csD y.1) (r.map λy=>.ref y.2.1)
 |[],_,h=>by cases h;exact .nil
 |(z,d)::l,_,h=>by
  obtain⟨a,v,r',rfl,h1,_,h3⟩:=h;exact .cons h1 (CVs.isL h3)
theorem CVs.app{K:KW}{Y:Nat->Addr}{k:Nat}{H:Hp}{c:Cs}{a:Addr}{d:D}{v:V}(h1:Is K Y k H (csD c) (.ref a))(h2:Is K Y k H d v):∀{l:List (Cs×D)} {r:List (Cs×Addr×V)},CVs K Y k H l r->CVs K Y k H (l++[(c,d)]) (r++[(c,a,v)])
 |[],_,h=>by cases h;exact⟨a,v,[],rfl,h1,h2,rfl⟩
 |(z,e)::l,_,h=>by
  obtain⟨b,w,r',rfl,g1,g2,g3⟩:=h;exact⟨b,w,_,rfl,g1,g2,CVs.app h1 h2 g3⟩
theorem L6{α β:Type}{l:List (Cs×α)}{r:List (Cs×β)}(h:r.map (·.1)=l.map (·.1))(c:Cs):(r.any λy=>decide (y.1=c))=l.any λy=>decide (y.1=c):=by
 have e1:(r.any λy=>decide (y.1=c))=(r.map (·.1)).any λy=>decide (y=c):=by rw[List.any_map];rfl
 have e2:(l.any λy=>decide (y.1=c))=(l.map (·.1)).any λy=>decide (y=c):=by rw[List.any_map];rfl
 rw[e1,e2,h]
noncomputable def EM:List D->Option (List Int)
 |[]=>some []
 | .int i::r=>(EM r).map (i::·)
 |_::_=>none
theorem Gc:∀{ds:List D} {ns:List Int},EM ds=some ns->ds=ns.map D.int
 |[],ns,e=>by cases e;rfl
 | .int i::r,ns,e=>by
  unfold EM at e;cases h:EM r with
  |none=>rw[h] at e;cases e
  |some m=>rw[h] at e;cases e;rw[Gc h];rfl
 | .non::_,_,e | .bl _::_,_,e | .str _::_,_,e | .ty _::_,_,e | .scr _::_,_,e | .tup _::_,_,e | .lst _::_,_,e | .ref _::_,_,e=>by cases e
noncomputable def Kf:D->Option Cs
 | .tup [.int a,.int b,.tup ds]=>(EM ds).map λns=>(a,b,ns)
 |_=>none
theorem Jk{d:D}{c:Cs}(e:Kf d=some c):d=csD c:=by
 unfold Kf at e;split at e
 ·rename_i a b ds;cases h:EM ds with
  |none=>rw[h] at e;cases e
  |some ns=>rw[h] at e;cases e;rw[Gc h];rfl
 ·cases e
noncomputable def Ie:D->M (Nat×List (Cs×D))
 | .ref n=>λZ=>match Z[n]? with
  |some (.dC l)=>some ((n,l),Z)
  |_=>none
 |_=>Bb
theorem FI{K:KW}{Y:Nat->Addr}{H:Hp}{Z Z':Mh}{d:D}{v:V}{r:Nat×List (Cs×D)}(R:RelH K Y Z H)(i:Is K Y Z.length H d v)(e:Ie d Z=some (r,Z')):Z'=Z/\d=.ref r.1/\Z[r.1]?=some (.dC r.2)/\v=.ref (Y r.1)/\∃kvs,H (Y r.1)=some (D9 (Y r.1) kvs)/\CVs K Y Z.length H r.2 kvs:=by
 cases d with
 |ref n=>
  have e:(match Z[n]? with|some (.dC l)=>some ((n,l),Z)|_=>none)=some (r,Z'):=e;split at e
  ·rename_i l hq;cases e;unfold Is at i;obtain⟨u,h1,kvs,rfl,h2⟩:=R.obj n _ hq;exact⟨rfl,rfl,hq,i.2,kvs,h1,h2⟩
  ·cases e
 |_=>cases e
section
variable{X:Cx}{e o i:Expr}{pos pos':Pos}
noncomputable def Uu:Sl->M D:=λ_ Z=>some (.ref Z.length,Z++[.dC []])
theorem Qj:PE X (.Dict [] [] pos) (λ_ H Q=>∀p,H p=none->Q (.ref p) (upd H p (D9 p []))):=λw4 s O H Q I h=>
 wpAny_Dict_empty ⟨.ref s.heap.objs.size,_,I.laid (a:=s.heap.objs.size) (o:=D9 s.heap.objs.size []) (t':=s.toks) (λ_ _ q=>AAC _ q) (AAE _)
  (U8 ⟨[],_,#[],0,.nil,AAD _ rfl,⟨rfl,rfl,rfl⟩,rfl,rfl,List.nodup_nil,AAl _,AAf.mpr (Ne.symm (AAe I.big))⟩),rfl,h _ (I.hok.fresh (AAE _))⟩
theorem QJ:RE X (.Dict [] [] pos) Uu:=RE.wk Qj λO H Q h=>by
 obtain⟨Y,Z,B,d,Z',R,S,e,q⟩:=h;cases e;intro p hp;obtain⟨Y',E1,R1,e0⟩:=R.grown (m:=.dC []) (o:=D9 p []) hp ⟨[],rfl,rfl⟩;exact q Y' _ E1 R1 _ (by unfold Is;exact⟨by simp,by rw[e0]⟩)
theorem LF{k:Nat}(hr:Room k X.A):(Nk.kind X.prog X.w).room X.A.in1:=by
 have:=hr.units;show X.A.units+1+8<cLine;omega
theorem Lm{w4:List (Addr×Obj)}{O:St}{H:Hp}{s:Shared}{Y:Nat->Addr}{k:Nat}{p:Addr}{l:List (Cs×Addr×V)}(I:Inv X w4 O H s)(h:H p=some (D9 p l))(hi:∀y∈l,Is X.kw Y k H (csD y.1) (.ref y.2.1)):
  ∃us,l.length=us.length/\Vals (l.map (·.2.2)) us/\s.heap.DictOfH (Nk.kind X.prog X.w) p (Fe l us)/\(l.map (·.1)).Nodup/\l.length<=sizeLine/\(p==sysModules)=false:=by
 obtain⟨us,o,es,ep,h0,h1,h2,h3,h4,h5,h6,h7⟩:=Rz I.hok h;have hl:l.length=us.length:=by have:=h0.length;simpa using this
 exact⟨us,hl,h0,YH hl h1 h2 h3 h4 h5 λy hy=>isC I (hi y hy),h5,h6,h7⟩
noncomputable def O8(neg:Bool)(y d:D):M D:=bnd (Ie d) λr=>λZ=>(Kf y).map λc=>(.bl (if neg then !(r.2.any λz=>decide (z.1=c)) else r.2.any λz=>decide (z.1=c)),Z)
theorem Qs{k:Nat}(hr:Room k X.A):OpR X (compareOp .NotIn) (rM X.kw (O8 true)):=λw4 s O H x y v u Q I rx ry h=>by
 obtain⟨Y,Z,a,b,d,Z',R,ia,ib,e,q⟩:=h;obtain⟨r,w5,e1,e2⟩:=AF e;obtain⟨hm,_,g1,rfl,kvs,g2,g3⟩:=FI R ib e1;subst hm;cases hc:Kf a with
 |none=>rw[hc] at e2;cases e2
 |some c=>
  rw[hc] at e2;cases e2;cases Jk hc;have ia':=ia;unfold csD Is at ia';obtain⟨pa,_,rfl,_⟩:=ia';cases rx;cases ry;obtain⟨us,hl,_,dd,_,_,lo⟩:=Lm I g2 g3.at;refine PyProof.Rows.wpAny_notIn_heap (LF hr) (isC I ia) lo dd ?_;rw[GB hl,L6 g3.keys];exact⟨.bl _,H,I.tok _,rfl,q Y H R.ext0 R _ (ofB _)⟩
noncomputable def HP(mo mi mv:Sl->M D):Sl->M (Fl×Sl):=λB=>bnd (mv B) λv=>bnd (mo B) λx=>bnd (mi B) λy=>bnd (Ie x) λr=>λZ=>match Kf y with
 |some c=>if r.2.length<sizeLine/\(r.2.any λz=>decide (z.1=c))=false then some ((.next,B),Z.set r.1 (.dC (r.2++[(c,v)]))) else none
 |none=>none
noncomputable def XH(td ty tv:TE)(K:KW):TS:=λDn O H=>tv O H λv H1=>td O H1 λx H2=>ty O H2 λy H3=>∃p l c a Y k,x=.ref p/\y=.ref a/\H3 p=some (D9 p l)/\(∀z∈l,Is K Y k H3 (csD z.1) (.ref z.2.1))/\Is K Y k H3 (csD c) (.ref a)/\l.length<sizeLine/\(l.any λz=>decide (z.1=c))=false/\Dn.nx O (upd H3 p (D9 p (l++[(c,a,v)])))
theorem Tr{value:Expr}{td ty tv:TE}{k0:Nat}(hr:Room k0 X.A)(ho:PE X o td)(hi:PE X i ty)(hv:PE X value tv)(hs:swapsWith value (some (.Subscript o i pos')) pos.line X.env=pure false):
  PS X (.Assign [.Subscript o i pos'] value pos) (XH td ty tv X.kw):=by
 intro w4 s O H D I h;refine wpAny_Assign_Subscript (thn (hv w4 s O H _ I h) λr s1 ⟨v,H1,I1,rv,q1⟩=>thn (ho w4 s1 O H1 _ I1 q1) λu s2 ⟨x,H2,I2,rx,q2⟩=>thn (hi w4 s2 O H2 _ I2 q2) λiv s3 ⟨y,H3,I3,ry,p,l,c,a,Y,k,ex,ey,e,hl,hc,hz,hn,q3⟩=>?_) hs;subst ex ey;cases rx;cases ry;obtain⟨us,hlen,hvs,dd,nd,hs,lo⟩:=Lm I3 e hl;have hx:(Fe l us).length=l.length:=by unfold Fe;rw[AAF,List.length_zip];omega
 have no:atKey (Fe l us) (csK c)=none:=by
  have:=GB (c:=c) hlen;rw[hn] at this;cases z:atKey (Fe l us) (csK c) with
  |none=>rfl
  |some _=>rw[z] at this;cases this
 refine wpAny_setItem_heap (hsz:=by omega) (LF hr) (isC I3 hc) dd λh' dd' sb=>⟨O,_,?_,q3⟩;rw[storedH_new no] at dd';obtain⟨o',es',ep',d1,d2,d3,d4,_,_⟩:=dd';refine G7 I3 (by rw[e];exact True.intro) sb ⟨o',d1⟩ (U8 ⟨us++[r],o',es',ep',?_,d1,d2,d3,?_,?_,?_,lo⟩)
 ·rw[AAX];exact hvs.append (.cons rv .nil)
 ·rw[d4,List.zip_append hlen,AAX];unfold Fe;rw[AAX,List.map_map];rfl
 ·rw[AAX];refine List.nodup_append.mpr ⟨nd,by simp,?_⟩;intro z hz' w hw;have hw':w=c:=by simpa using hw
  intro hzc;obtain⟨t,ht,et⟩:=AAL.mp hz';have et':t.1=c:=et.trans (hzc.trans hw');have:(l.any λz=>decide (z.1=c))=true:=List.any_eq_true.mpr ⟨t,ht,by simp[et']⟩;rw[hn] at this;cases this
 ·rw[AAG];simp;omega
theorem NR{value:Expr}{mo mi mv:Sl->M D}{k:Nat}(hr:Room k X.A)(ho:RE X o mo)(hi:RE X i mi)(hv:RE X value mv)(hs:swapsWith value (some (.Subscript o i pos')) pos.line X.env=pure false:=by rfl):RS X (.Assign [.Subscript o i pos'] value pos) (HP mo mi mv):=RS.wk (Tr hr ho.pe hi.pe hv.pe hs) λDn O H h=>by
 obtain⟨Y,Z,B,f,x9,Z',R,S,e,q⟩:=h;obtain⟨v,w5,e1,ee1⟩:=AF e;obtain⟨x,w6,e2,ee2⟩:=AF ee1;obtain⟨y,x8,e3,ee3⟩:=AF ee2;obtain⟨r,u4,e4,ee4⟩:=AF ee3;refine⟨Y,Z,B,v,w5,R,S,e1,λx4 H1 E1 R1 v1 i1=>⟨x4,w5,B,x,w6,R1,S.ext E1,e2,λx6 H2 E2 R2 v2 i2=>⟨x6,w6,B,y,x8,R2,S.ext (E1.trans E2),e3,λu3 H3 E3 R3 v3 i3=>?_⟩⟩⟩;obtain⟨hm,hx,g1,hv2,kvs,g2,g3⟩:=FI R3 (i2.ext E3) e4;subst hm;have E13:=(E1.trans E2).trans E3;cases hk:Kf y with
 |none=>rw[hk] at ee4;cases ee4
 |some c=>
  rw[hk] at ee4;have ee4:(if r.2.length<sizeLine/\(r.2.any λz=>decide (z.1=c))=false then some ((Fl.next,B),List.set u4 r.1 (MO.dC (r.2++[(c,v)]))) else none)=some ((f,x9),Z'):=ee4;split at ee4
  ·rename_i hl;cases ee4;cases Jk hk;have i3':=i3;unfold csD Is at i3';obtain⟨a,_,rfl,_⟩:=i3';have hlt:r.1<List.length u4:=(AAT.mp g1).1;have hkl:kvs.length=r.2.length:=by have:=congrArg List.length g3.keys;simpa using this
   obtain⟨E4,R4⟩:=R3.changed (m:=.dC (r.2++[(c,v)])) (o:=D9 (u3 r.1) (kvs++[(c,a,v1)])) hlt ⟨_,rfl,CVs.app i3 (i1.ext (E2.trans E3)) g3⟩;exact⟨_,kvs,c,a,u3,_,hv2,rfl,g2,g3.at,i3,by omega,by rw[L6 g3.keys];exact hl.2,q u3 _ (E13.trans E4) R4 O (S.ext (E13.trans E4))⟩
  ·cases ee4
theorem Ny{l:List (Cs×Addr×V)}{us:List Value}{es:Array DictEntry}(hl:l.length=us.length)(h4:es.toList=(l.zip us).map (λx=>{ key:=.ref x.1.2.1,hash:=(csK x.1.1).hash,val:=x.2 })):es.toList.map (·.key)=l.map λy=>Value.ref y.2.1:=by
 rw[h4,List.map_map];have:((λx:DictEntry=>x.key) ∘ λx:(Cs×Addr×V)×Value=>({ key:=.ref x.1.2.1,hash:=(csK x.1.1).hash,val:=x.2 }:DictEntry))=(λy:Cs×Addr×V=>Value.ref y.2.1) ∘ Prod.fst:=rfl;rw[this,←List.map_map,List.map_fst_zip (by omega)]
theorem Ii:∀l:List (Cs×Addr×V),Vals (l.map λy=>V.ref y.2.1) (l.map λy=>Value.ref y.2.1)
 |[]=>.nil
 |y::r=>.cons rfl (Ii r)
theorem Mx(hc:X.calm=true):CA X (.type "list") (λxs H Q=>∃p l,xs=[.ref p]/\H p=some (D9 p l)/\∀q,H q=none->Q (.ref q) (upd H q (.lst (l.map λy=>.ref y.2.1)))):=by
 intro w4 s O H xs us Q I r h;obtain⟨p,l,rfl,hp,q⟩:=h;obtain⟨u,rfl,ru⟩:=FM r;cases ru;obtain⟨us,o,es,ep,h0,h1,h2,h3,h4,h5,h6,h7⟩:=Rz I.hok hp;have hl:l.length=us.length:=by have:=h0.length;simpa using this
 have hsz:es.size=l.length:=by rw[←Array.length_toList,h4,AAF,List.length_zip];omega
 refine PySem.W.kdl_call (Kw h7 h2 h3) (I.ok.hd hc) h1 (by omega) λh' tk acc c kp e it=>?_;have ek:=(Hm it).trans (Ny hl h4);refine⟨.ref s.heap.objs.size,_,I.laid (t':=tk) kp (AAE _) (show ObjOk X.prog X.w _ h' _ (.lst (l.map λy=>.ref y.2.1)) from ⟨by simpa using h6,acc.toList,c,?_,by rw[Array.toArray_toList];exact e⟩),rfl,q _ (I.hok.fresh (AAE _))⟩;rw[ek];exact Ii l
noncomputable def Mg:List D->M D
 |[d]=>bnd (Ie d) λr=>λZ=>some (.ref Z.length,Z++[.lst (r.2.map λy=>csD y.1)])
 |_=>Bb
theorem Ug(hc:X.calm=true):CA X (.type "list") (rMA X.kw Mg):=λw4 s O H xs us Q I r h=>by
 obtain⟨Y,Z,as,d,Z',R,ia,e,q⟩:=h;unfold Mg at e;split at e
 ·obtain⟨rr,w5,e1,e2⟩:=AF e;obtain⟨v,rfl,i1⟩:=FJ ia;obtain⟨hm,_,g1,rfl,kvs,g2,g3⟩:=FI R i1 e1;subst hm;cases e2;refine Mx hc w4 s O H _ us Q I r ⟨_,kvs,rfl,g2,λp hp=>?_⟩;obtain⟨Y',E1,R1,e0⟩:=R.grown (m:=.lst (rr.2.map λy=>csD y.1)) hp ⟨_,rfl,g3.isL⟩;exact q Y' _ E1 R1 _ (by unfold Is;exact⟨by simp,by rw[e0]⟩)
 ·cases e
end
end Mi
namespace Nk
open PySem PySem.Spec PyProof.Rows PySem.SeqAt
noncomputable def Os(x:Cs):List Cs->List Cs
 |[]=>[x]
 |y::r=>if cLt x y=true then x::y::r else y::Os x r
noncomputable def Go:List Cs->List Cs
 |[]=>[]
 |x::r=>Os x (Go r)
theorem GS(x:Cs):∀l,(Os x l).Perm (x::l)
 |[]=>List.Perm.refl _
 |y::r=>by
  unfold Os;split
  ·exact List.Perm.refl _
  ·exact((GS x r).cons y).trans (List.Perm.swap x y r)
theorem DT:∀l,(Go l).Perm l
 |[]=>List.Perm.refl _
 |x::r=>(GS x _).trans ((DT r).cons x)
theorem SH{a b c:Cs}(h:cLt a b=true)(g:cLt b c=true):cLt a c=true:=Mj h g
theorem Ui(a:Cs):cLt a a=false:=Gy _
theorem Uh{a b:Cs}(h:a≠b):cLt a b=true∨cLt b a=true:=KJ λz=>h (Lf z)
theorem Nl(x:Cs):∀{l:List Cs},(∀y∈l,y≠x)->l.Pairwise (λx y=>cLt x y=true)->(Os x l).Pairwise λx y=>cLt x y=true
 |[],_,_=>List.pairwise_singleton _ _
 |y::r,hx,h=>by
  obtain⟨h1,h2⟩:=AAz.mp h;unfold Os;split
  ·rename_i hl;exact AAz.mpr ⟨λz hz=>(AAI.mp hz).elim (λe=>e ▸ hl) λhz=>SH hl (h1 z hz),h⟩
  ·rename_i hl;refine AAz.mpr ⟨λz hz=>?_,Nl x (λz hz=>hx z (AAQ _ hz)) h2⟩;rcases AAI.mp ((GS x r).mem_iff.mp hz) with rfl|hz
   ·exact(Uh (hx y AAP)).resolve_right hl
   ·exact h1 z hz
theorem Ju:∀{l:List Cs},l.Nodup->(Go l).Pairwise λx y=>cLt x y=true
 |[],_=>List.Pairwise.nil
 |x::r,h=>by
  obtain⟨h1,h2⟩:=List.nodup_cons.mp h;exact Nl x (λy hy e=>h1 (by rw[←e];exact(DT r).mem_iff.mp hy)) (Ju h2)
theorem Pp:∀{xs ys:List Cs},xs.Pairwise (λx y=>cLt x y=true)->ys.Pairwise (λx y=>cLt x y=true)->xs.Perm ys->xs=ys
 |[],ys,_,_,p=>by cases p.symm.eq_nil;rfl
 |x::xs,[],_,_,p=>by cases p.eq_nil
 |x::xs,y::ys,hx,hy,p=>by
  obtain⟨x1,x2⟩:=AAz.mp hx;obtain⟨y1,y2⟩:=AAz.mp hy;have e:x=y:=by
   rcases AAI.mp (p.mem_iff.mp AAP) with e|e
   ·exact e
   ·rcases AAI.mp (p.symm.mem_iff.mp AAP) with e' | e'
    ·exact e'.symm
    ·have:=SH (y1 x e) (x1 y e');rw[Ui] at this;cases this
  subst e;rw[Pp x2 y2 (List.Perm.cons_inv p)]
theorem TJ{ks l:List Cs}(nd:l.Nodup)(p:ks.Perm l)(u:ks.Pairwise λx y=>cLt x y=true):ks=Go l:=Pp u (Ju nd) (p.trans (DT l).symm)
end Nk
namespace Mi
open PySem L2 Ht Nk
section
variable{X:Cx}{e:Expr}
theorem Lz{w4:List (Addr×Obj)}{O:St}{H:Hp}{s:Shared}{Y:Nat->Addr}{k:Nat}(I:Inv X w4 O H s):∀{l:List (Cs×Addr×V)},(∀y∈l,Is X.kw Y k H (csD y.1) (.ref y.2.1))->Ats s.heap ((l.map (·.1)).map csK) (l.map λy=>Value.ref y.2.1)
 |[],_=>by show Ats s.heap [] [];unfold Ats;rfl
 |y::l,h=>by
  show Ats s.heap (csK y.1::(l.map (·.1)).map csK) (Value.ref y.2.1::l.map λy=>Value.ref y.2.1);unfold Ats;exact⟨_,_,rfl,SN I (h y AAP) rfl,Lz I λz hz=>h z (AAQ _ hz)⟩
theorem Qm{w4:List (Addr×Obj)}{O:St}{H:Hp}{s:Shared}{Y:Nat->Addr}{k:Nat}{h1:Heap}(I:Inv X w4 O H s)(kp:∀b o,s.heap.get? b=some o->h1.get? b=some o){l:List (Cs×Addr×V)}(hi:∀y∈l,Is X.kw Y k H (csD y.1) (.ref y.2.1)):
  ∀{out:List Value} {ks:List Cs},Ats h1 (ks.map csK) out->(∀v∈out,v∈l.map λy=>Value.ref y.2.1)->∃vs,Vals vs out/\IsL X.kw Y k H (ks.map csD) vs
 |_,[],a,_=>by
  unfold List.map Ats at a;subst a;exact⟨[],.nil,.nil⟩
 |_,c::ks,a,m=>by
  unfold List.map Ats at a;obtain⟨v,out',rfl,a1,a2⟩:=a;obtain⟨vs,r,i⟩:=Qm I kp hi a2 λv hv=>m v (AAQ _ hv);obtain⟨y,hy,rfl⟩:=AAL.mp (m v AAP);have a3:=(SN I (hi y hy) rfl).kept (h':=h1) λb o items n e _ _=>kp b o e;have ec:=F8 (At.inj a3 a1);exact⟨.ref y.2.1::vs,.cons rfl r,.cons (by rw[←ec];exact hi y hy) i⟩
noncomputable def Yc:List D->M D
 |[d]=>bnd (Ie d) λr=>λZ=>if r.2.length<64 then some (.lst ((Go (r.2.map (·.1))).map csD),Z) else none
 |_=>Bb
noncomputable def Ts:D->List D->M D
 | .ref n,[]=>HD n λds=>(ds[ds.length-1]?).map λd=>(d,ds.dropLast)
 |_,_=>Bb
theorem IsL.dropLast{K:KW}{Y:Nat->Addr}{k:Nat}{H:Hp}{ds:List D}{vs:List V}(h:IsL K Y k H ds vs):IsL K Y k H ds.dropLast vs.dropLast:=by
 rw[List.dropLast_eq_take,List.dropLast_eq_take,h.length];exact h.take _
theorem Xy:MtR X "list.pop" (rMM X.kw Ts):=λw4 s O H x xs v us Q I rx rs h=>by
 obtain⟨Y,Z,a,as,d,Z',R,ia,ib,e,q⟩:=h;unfold Ts at e;split at e
 ·rename_i n;obtain⟨ds,es,h1,h2,rfl⟩:=GI e;cases hd:ds[ds.length-1]? with
  |none=>rw[hd] at h2;cases h2
  |some d0=>
   rw[hd] at h2;cases h2;unfold IsL at ib;subst ib;unfold Is at ia;obtain⟨_,rfl⟩:=ia;obtain⟨u,g1,vs,rfl,g2⟩:=R.obj n _ h1;obtain⟨w,ew,iw⟩:=g2.get hd;refine WF w4 s O H _ _ v us Q I rx rs ⟨_,vs,w,rfl,rfl,g1,by rw[g2.length];exact ew,?_⟩;exact Jo R h1 g2.dropLast iw q
 ·cases e
noncomputable def Hd(m:Sl->M D):Sl->M Bool:=λB=>bnd (m B) λd=>bnd (BP d) λds=>ret (!ds.isEmpty)
theorem NQ{m:Sl->M D}(h:RE X e m)(he:∀whole,isTrue e X.env whole=(do let v ←whole;standAt e.pos;holding [v] (truthy v)):=by intro _;rfl):RT X e (Hd m):=RT.wk (QU h.pe he) λO H Q q=>by
 obtain⟨Y,Z,B,b,Z',R,S,e,q⟩:=q;obtain⟨x,w5,e1,ee1⟩:=AF e;obtain⟨ds,w6,e2,ee2⟩:=AF ee1;cases ee2;refine⟨Y,Z,B,x,w5,R,S,e1,λx4 H1 E1 R1 v1 i1=>?_⟩;obtain⟨hm,p,vs,rfl,g1,g2⟩:=DU R1 i1 e2;subst hm;have hl:=g2.length;have he:vs.isEmpty=ds.isEmpty:=by
  cases vs<;>cases ds<;>first|rfl|(simp at hl)
 refine⟨!vs.isEmpty,?_,by rw[he];exact q x4 H1 E1 R1⟩;rcases g1 with g1|g1
 ·exact .inl ⟨vs,g1,rfl⟩
 ·exact .inr (.inl ⟨vs,g1,rfl⟩)
end
end Mi
namespace K16
open PySem L2 Mi
noncomputable def Bd:D:=.int (-1)
noncomputable def BK:D:=.int (-1)
noncomputable def F7:D:=.int (-2)
noncomputable def DS:D:=.int (-2)
noncomputable def BV  : Sl->M (Fl×Sl):=
  (AT (Af (mOp Dk (AG Bo (AC (mOp AL (AA 0) (mC (.int 4))) AJ)) (mC (.int 1))) (AN 1))
  (AT (sIf (AK (mOp AY (mOp AL (AA 0) (mC (.int 0))) (mC (.str "whole")))) (Av (AG Ax (AC (AG Ax (AC (mOp AL (AA 0) (mC (.int 2))) (AC (mC Bd) (AC (mOp GL (AG Ax (AC (mC Bd) AJ)) (AA 1)) AJ)))) AJ))) Ay)
  (Av (AG Ax (AC (mOp AL (AA 0) (mC (.int 2))) (AC (mC Bd) (AC (mOp GL (AG Ax (AC (mC .non) AJ)) (AA 1)) AJ)))))))
noncomputable def BH(OR:List D->M D)(LT:List D->M D)(ZG:List D->M D):Sl->M (Fl×Sl):=
  (AT (sIf (AK (mOp AY (mOp AL (AA 0) (mC (.int 0))) (mC (.str "whole")))) (Av (AG LT (AC (Bf 1 [2] (Db (AA 1)) (AN 0) Cg (AG OR (AC (AA 0) (AC (mC (.int 0)) (AC (AA 1) AJ)))) BT) AJ))) Ay)
  (AT (Af (Bf 1 [0,2] (Db (mOp AL (AA 1) (mC (.int 2)))) (AN 0) Cg (mIf (AK (mOp (IX false) (AA 0) (mC .non))) (AA 0) (AG ZG (AC (mOp AL (AA 1) (mC (.int 0))) (AC (mOp AL (AA 1) (mC (.int 1))) (AC (AA 0) (AC (AA 2) AJ)))))) BT) (AN 3))
  (Av (AG Ax (AC (mOp AL (AA 1) (mC (.int 0))) (AC (AA 2) (AC (AG GJ (AC (AA 3) AJ)) AJ)))))))
noncomputable def BA(Mk:List D->M D)(LT:List D->M D):Sl->M (Fl×Sl):=
  (AT (sIf (AK (mOp AY (mOp AL (AA 0) (mC (.int 0))) (mC (.str "whole")))) (Av (AG LT (AC (AG Mk (AC (AA 1) (AC (mC (.int 0)) (AC (mC Bd) AJ)))) AJ))) Ay)
  (Av (AG Ax (AC (mOp AL (AA 1) (mC (.int 1))) (AC (mC Bd) (AC (mOp AL (AA 1) (mC (.int 2))) AJ))))))
noncomputable def BU(OR:List D->M D)(LT:List D->M D)(ZG:List D->M D)(LE:List D->M D):Sl->M (Fl×Sl):=
  (AT (sIf (AK (mOp AY (mOp AL (AA 0) (mC (.int 0))) (mC (.str "whole")))) (Av (AG LT (AC (Bf 1 [2] (Db (AA 1)) (AN 0) Cg (AG OR (AC (AA 0) (AC (mOp Ab (AA 1) (mC (.int 1))) (AC (mC Bd) AJ)))) BT) AJ))) Ay)
  (AT (Af (AG Ax (AC (mOp AL (AA 1) (mC (.int 0))) AJ)) (AN 3))
  (AT (sIf (AK (mOp EY (mOp AL (AA 1) (mC (.int 1))) (mC Bd))) (Af (AG ZG (AC (mOp AL (AA 0) (mC (.int 0))) (AC (mOp AL (AA 0) (mC (.int 1))) (AC (AA 3) (AC (mOp AL (AA 1) (mC (.int 1))) AJ))))) (AN 3)) Ay)
  (Av (AG Ax (AC (mOp AL (AA 1) (mC (.int 0))) (AC (mOp AL (AA 1) (mC (.int 1))) (AC (AG LE (AC (mOp AL (AA 1) (mC (.int 2))) (AC (AA 2) (AC (AA 3) AJ)))) AJ))))))))
noncomputable def Bj(Mk:List D->M D)(LT:List D->M D)(LE:List D->M D):Sl->M (Fl×Sl):=
  (AT (sIf (AK (mOp AY (mOp AL (AA 0) (mC (.int 0))) (mC (.str "whole")))) (AT (Af (AG Mk (AC (AA 1) (AC (mOp Ab (AA 2) (mC (.int 1))) (AC (AA 3) AJ)))) (AN 4))
  (Av (mIf (Hd (AA 4)) (AG LT (AC (AA 4) AJ)) (mC .non)))) Ay)
  (AT (sIf (AK (mOp (Dq true) (AA 3) (mOp AL (mOp AL (AA 1) (mC (.int 2))) (AA 2)))) (Av (mC .non)) Ay)
  (Av (AG Ax (AC (mOp AL (AA 1) (mC (.int 0))) (AC (mOp AL (AA 1) (mC (.int 1))) (AC (AG LE (AC (mOp AL (AA 1) (mC (.int 2))) (AC (AA 2) (AC (mC .non) AJ)))) AJ)))))))
noncomputable def Bi  : Sl->M (Fl×Sl):=
  (Av (mOp Ab (mOp Ab (EZ (AA 0) Cb (Ch (AA 1))) (AG Ax (AC (AA 2) AJ))) (EZ (AA 0) (Ch (mOp Ab (AA 1) (mC (.int 1)))) Cb)))
noncomputable def Ce(LE:List D->M D):Sl->M (Fl×Sl):=
  (AT (sIf (AK (mOp AY (AA 1) (mC (.int 0)))) (Av (AG Ax (AC (mOp AL (AA 0) (mC (.int 0))) (AC (AA 2) (AC (mOp AL (AA 0) (mC (.int 2))) AJ))))) Ay)
  (Av (AG Ax (AC (mOp AL (AA 0) (mC (.int 0))) (AC (mOp AL (AA 0) (mC (.int 1))) (AC (AG LE (AC (mOp AL (AA 0) (mC (.int 2))) (AC (mOp Dk (AA 1) (mC (.int 1))) (AC (mC DS) AJ)))) AJ))))))
noncomputable def Cd(LE:List D->M D):Sl->M (Fl×Sl):=
  (AT (sIf (AK (mOp AY (AA 1) (mC (.int 0)))) (Av (mIf (AK (mOp AY (mOp AL (AA 0) (mC (.int 1))) (mC F7))) (AG Ax (AC (mOp AL (AA 0) (mC (.int 0))) (AC (mC Bd) (AC (mOp AL (AA 0) (mC (.int 2))) AJ)))) (mC .non))) Ay)
  (Av (mIf (AK (mOp AY (mOp AL (mOp AL (AA 0) (mC (.int 2))) (mOp Dk (AA 1) (mC (.int 1)))) (AA 2))) (AG Ax (AC (mOp AL (AA 0) (mC (.int 0))) (AC (mOp AL (AA 0) (mC (.int 1))) (AC (AG LE (AC (mOp AL (AA 0) (mC (.int 2))) (AC (mOp Dk (AA 1) (mC (.int 1))) (AC (mC Bd) AJ)))) AJ)))) (mC .non))))
noncomputable def B8(ZO:List D->M D):Sl->M (Fl×Sl):=
  (AT (Af (Bf 1 [1,2] (Db (AA 0)) (AN 0) Cg (AG ZO (AC (AA 0) (AC (AA 1) (AC (AA 2) AJ)))) BT) (AN 3))
  (Av (Bf 1 [] (Db (AA 3)) (AN 0) (AK (mOp (IX true) (AA 0) (mC .non))) (AA 0) BT)))
noncomputable def Dz(ZK:List D->M D):Sl->M (Fl×Sl):=
  (AT (Af Uu (AN 1))
  (AT (Fp (Db (AA 0)) (AN 2) (HP (AA 1) (AA 2) (mC .non)))
  (AT (Af (AG Mg (AC (AA 1) AJ)) (AN 3))
  (AT (J3 BE (Hd (AA 3)) (AT (Af (Fx Ts (AA 3)) (AN 2))
  (NP 1000 (AG ZK (AC (AA 2) AJ)) (Kc [4,5]) (sIf (AK (mOp (O8 true) (AA 5) (AA 1))) (AT (HP (AA 1) (AA 5) (AG Ax (AC (AA 4) (AC (AA 2) AJ))))
  (A5 (Ai Co (AA 3) (AC (AA 5) AJ)))) Ay))))
  (Av (AA 1))))))
noncomputable def By(LE:List D->M D):Sl->M (Fl×Sl):=
  (AT (Af (AG FZ AJ) (AN 1))
  (AT (sIf (AK (mOp MZ (mOp AL (AA 0) (mC (.int 1))) (mC (.int 0)))) (A5 (Ai Co (AA 1) (AC (AG Ax (AC (mC (.int 0)) (AC (AG Ax (AC (mOp AL (AA 0) (mC (.int 1))) (AC (mC F7) (AC (mOp AL (AA 0) (mC (.int 2))) AJ)))) AJ))) AJ))) Ay)
  (AT (Fp (Q7 (AC (mOp AL (AA 0) (mC (.int 2))) AJ)) (Kc [2,3]) (sIf (AK (mOp AY (AA 3) (mC DS))) (A5 (Ai Co (AA 1) (AC (AG Ax (AC (mOp Ab (AA 2) (mC (.int 1))) (AC (AG Ax (AC (mOp AL (AA 0) (mC (.int 0))) (AC (mOp AL (AA 0) (mC (.int 1))) (AC (AG LE (AC (mOp AL (AA 0) (mC (.int 2))) (AC (AA 2) (AC (mOp AL (AA 0) (mC (.int 0))) AJ)))) AJ)))) AJ))) AJ))) Ay))
  (Av (AA 1)))))
noncomputable def CG  : Sl->M (Fl×Sl):=
  (Av (Ep (AG D5 (AC (AA 0) (AC (mC (.ty "int")) AJ))) (Ep (LS (AG D5 (AC (AA 0) (AC (mC (.ty "bool")) AJ)))) (Eo IW IW (AA 1) (AA 0) (AA 2)))))
noncomputable def CH  : Sl->M (Fl×Sl):=
  (Av (Ep (AG D5 (AC (AA 0) (AC (mC (.ty "tuple")) AJ))) (Eo IW IW (AA 1) (AG Bo (AC (AA 0) AJ)) (AA 2))))
noncomputable def DD(ZM:List D->M D)(ZT:List D->M D)(ZI:List D->M D):Sl->M (Fl×Sl):=
  (AT (Af (AG ZM (AC (AA 0) AJ)) (AN 2))
  (AT (Fp (Db (AG ZT (AC (AA 0) (AC (AA 1) AJ)))) (AN 3) (AT (Af (AG ZI (AC (AA 0) (AC (AA 2) (AC (AA 3) AJ)))) (AN 2))
  (sIf (AK (mOp (IX false) (AA 2) (mC .non))) (Av (mC (.bl false))) Ay)))
  (Av (mC (.bl true)))))
noncomputable def An(ZJ:List D->M D)(ZH:List D->M D)(ZL:List D->M D)(ZP:List D->M D):Sl->M (Fl×Sl):=
  (AT (Af (mOp AY (mOp AL (AA 2) (mC (.int 0))) (mC (.str "begin"))) (AN 3))
  (AT (sIf (AK (mOp AY (mOp AL (AA 2) (mC (.int 1))) (mC (.int 0)))) (Av (mIf (AK (AA 3)) (AG ZJ (AC (AA 0) (AC (AA 1) (AC (mOp AL (AA 2) (mC (.int 2))) AJ)))) (AG ZH (AC (AA 0) (AC (AA 1) AJ))))) Ay)
  (AT (Af (mOp Dk (mOp AL (AA 2) (mC (.int 1))) (mC (.int 1))) (AN 4))
  (Av (mIf (AK (AA 3)) (AG ZL (AC (AA 0) (AC (AA 1) (AC (AA 4) AJ)))) (AG ZP (AC (AA 0) (AC (AA 1) (AC (AA 4) (AC (mOp AL (AA 2) (mC (.int 2))) AJ))))))))))
noncomputable def C4(ZE:List D->M D):Sl->M (Fl×Sl):=
  (AT (sIf (Dh (AK (AG D5 (AC (AA 1) (AC (mC (.ty "list")) AJ))))) DW Ay)
  (AT (Af (Bf 1 [] (Db (mOp AL (AA 0) (mC (.int 4)))) (AN 0) Cg (mOp AL (AA 0) (mC (.int 0))) BT) (AN 2))
  (AT (Af WE (AN 3))
  (AT (Af (AG FZ AJ) (AN 4))
  (AT (Af (mC (.int 0)) (AN 5))
  (AT (Fp (Q8 (AC (AA 1) AJ)) (Kc [6,7]) (AT (sIf (Dh (AK (AG ZE (AC (AA 7) (AC (AA 2) (AC (mOp AL (AA 0) (mC (.int 1))) AJ)))))) DW Ay)
  (AT (Af (Ai Hu (AA 2) (AC (mOp AL (AA 7) (mC (.int 1))) AJ)) (AN 8))
  (AT (sIf (AK (mOp AY (mOp AY (mOp AL (AA 7) (mC (.int 0))) (mC (.str "begin"))) (mOp (Lk false) (AA 8) (AA 3)))) DW Ay)
  (AT (sIf (AK (mOp AY (mOp AL (AA 7) (mC (.int 0))) (mC (.str "begin")))) (AT (Ix (AA 3) (AA 8) (AA 5))
  (Af (mOp J7 (AA 5) (mC (.int 1))) (AN 5))) Ay)
  (AT (A5 (Ai Co (AA 4) (AC (AG Ax (AC (mOp AL (AA 7) (mC (.int 0))) (AC (AA 8) (AC (mIf (AK (mOp AY (AG Bo (AC (AA 7) AJ)) (mC (.int 3)))) (mOp AL (AA 7) (mC (.int 2))) (mC BK)) (AC (mOp Gh (AA 3) (AA 8)) AJ))))) AJ)))
  (sIf (AK (mOp AY (mOp AL (AA 7) (mC (.int 0))) (mC (.str "end")))) (A5 (JD (AA 3) (AA 8))) Ay)))))))
  (Av (AA 4))))))))
noncomputable def CI(ZF:List D->M D)(ST:List D->M D):Sl->M (Fl×Sl):=
  (AT (sIf (mOr (Dh (AK (AG ZF (AC (AA 0) (AC (mC (.int 2)) (AC (mC (.int 3)) AJ)))))) (mOr (AK (mOp (Dq true) (mOp AL (AA 0) (mC (.int 0))) (AG Ax (AC (mC (.str "begin")) (AC (mC (.str "end")) AJ))))) (AK (mOp (Dq true) (mOp AL (AA 0) (mC (.int 1))) (AA 1))))) (Av (mC (.bl false))) Ay)
  (AT (sIf (AK (mOp AY (mOp AY (mOp AL (AA 0) (mC (.int 0))) (mC (.str "begin"))) (mOp AY (mOp AL (AA 0) (mC (.int 1))) (mOp AL (AA 1) (mC (.int 0)))))) (Av (Ep (mOp AY (AG Bo (AC (AA 0) AJ)) (mC (.int 3))) (AG ST (AC (mOp AL (AA 0) (mC (.int 2))) (AC (mC (.int 0)) (AC (mOp Dk (AA 2) (mC (.int 1))) AJ)))))) Ay)
  (Av (mOp AY (AG Bo (AC (AA 0) AJ)) (mC (.int 2))))))
noncomputable def Ap:List D->M D:=Au .drop 2 1 (BV)
noncomputable def BW:List D->M D:=Au .drop 3 3 (CH)
noncomputable def Bm:List D->M D:=Au .drop 3 3 (CG)
noncomputable def BJ:List D->M D:=Au .drop 3 3 (CI BW Bm)
noncomputable def BF:List D->M D:=Au .frz 9 2 (C4 BJ)
noncomputable def AZ:List D->M D:=Au .drop 3 3 (Bi)
noncomputable def BB:List D->M D:=Au .drop 3 3 (Ce AZ)
noncomputable def A8:List D->M D:=Au .all 4 1 (By AZ)
noncomputable def CN:List D->M D:=Au .all 6 1 (Dz A8)
noncomputable def A6:List D->M D:=Au .drop 3 3 (Cd AZ)
noncomputable def BD:List D->M D:=Au .drop 4 3 (B8 A6)
end K16
namespace Tm
open PySem PySem.W PyProof.Rows
noncomputable def gal:Bool->Keyed->Array Keyed->Nat->Nat->Nat->StateT SortSt Sem (Option Nat):=sortPriv% PySem.Builtin.gallop
structure Cp(prog:Program)(w:World)(A:Around)(E:Value->Shared->Prop)(s:Shared)(kd:SortKind)(R:Keyed->Keyed->Bool)(S:Keyed->Prop):Prop where
 lt:∀{st:SortSt} {x y:Keyed} {Q:Option Bool->SortSt->Prop},kindOf st=kd->S x->S y->Q (some (R x y)) st->wpS (model prog w) A E s (lt' x y) Q st
 tot:∀{x y:Keyed},S x->S y->x≠y->R x y=false->R y x=true
 tr:∀{x y z:Keyed},R x y=true->R y z=true->R x z=true
 irr:∀x:Keyed,R x x=false
section
variable{prog:Program}{w:World}{A:Around}{E:Value->Shared->Prop}{s:Shared}{kd:SortKind}{R:Keyed->Keyed->Bool}{S:Keyed->Prop}{st:SortSt}
theorem Cp.asy(C:Cp prog w A E s kd R S){x y:Keyed}(h:R x y=true):R y x=false:=by
 cases e:R y x with
 |false=>rfl
 |true=>have:=C.tr h e;rw[C.irr] at this;cases this
theorem el{arr:Array Keyed}{i:Nat}{x:Keyed}{Q:Keyed->SortSt->Prop}(h:arr[i]?=some x)(q:Q x st):wpS (model prog w) A E s (elem' arr i) Q st:=by
 rw[elem'_eq,h];exact wpS_pure q
theorem byd(C:Cp prog w A E s kd R S)(hk:kindOf st=kd){left:Bool}{key x:Keyed}{arr:Array Keyed}{j:Nat}{Q:Option Bool->SortSt->Prop}(h:arr[j]?=some x)(sx:S x)(sk:S key)(ne:x≠key)(q:Q (some (R x key)) st):
  wpS (model prog w) A E s (elem' arr j >>= λx=>if left=true then lt' x key else lt' key x >>= λr=>pure (r.map λx=>!x)) Q st:=by
 refine wpS_bind (el h ?_);cases left with
 |true=>exact C.lt hk sx sk q
 |false=>
  refine wpS_bind (C.lt hk sk sx (wpS_pure ?_));have:(some (R key x)).map (λx=>!x)=some (R x key):=by
   cases e:R key x with
   |true=>rw[C.asy e];rfl
   |false=>rw[C.tot sk sx (Ne.symm ne) e];rfl
  rw[this];exact q
theorem Wd(C:Cp prog w A E s kd R S)(hk:kindOf st=kd){left:Bool}{key:Keyed}{arr:Array Keyed}{base n hint:Nat}{P:Nat->Bool}{Q:Option Nat->SortSt->Prop}(hP:∀i,i<n->∃x,arr[base+i]?=some x/\S x/\x≠key/\R x key=P i)(sk:S key)(mo:∀i j,i<=j->j<n->P j=true->P i=true)(hh:hint<n)
  (q:∀k,k<=n->(∀i,i<n->(P i=true↔i<k))->Q (some k) st):wpS (model prog w) A E s (gal left key arr base n hint) Q st:=by
 have by':∀{i:Nat} {Q:Option Bool->SortSt->Prop},i<n->Q (some (P i)) st->wpS (model prog w) A E s (elem' arr (base+i) >>= λx=>if left=true then lt' x key else lt' key x >>= λr=>pure (r.map λx=>!x)) Q st:=λ{i Q} hi z=>by
  obtain⟨x,e,sx,ne,r⟩:=hP i hi;exact byd C hk e sx sk ne (by rw[r];exact z)
 have nf:∀i j,i<=j->j<n->P i=false->P j=false:=λi j h1 h2 h3=>by
  cases e:P j with
  |false=>rfl
  |true=>rw[mo i j h1 h2 e] at h3;cases h3
 refine wpS_bind (by' hh ?_);cases ph:P hint with
 |true=>
  dsimp only;rw[if_pos rfl];refine wpS_bind (wpS_mono (wpS_forRange (I:=λi c st'=>st'=st/\∃l o:Nat,c=(none,l,o)/\l<o/\i<o/\l<n-hint/\P (hint+l)=true) (Q:=λc st'=>st'=st/\∃l o:Nat,c=(none,l,o)/\l<o/\l<n-hint/\P (hint+l)=true/\(n-hint<=o∨P (hint+o)=false)) ?_ ?_ ⟨rfl,0,1,rfl,by omega,by omega,by omega,ph⟩) ?_)
  ·rintro i c st' _ hi ⟨rfl,l,o,rfl,h1,h2,h3,h4⟩;dsimp only;by_cases ho:o ≥ n-hint
   ·rw[if_pos ho];exact wpS_pure ⟨rfl,l,o,rfl,h1,h3,h4,.inl ho⟩
   ·rw[if_neg ho];refine wpS_bind (by' (by omega) ?_);cases e:P (hint+o) with
    |true=>exact wpS_pure ⟨rfl,o,2 * o+1,rfl,by omega,by omega,by omega,e⟩
    |false=>exact wpS_pure ⟨rfl,l,o,rfl,h1,h3,h4,.inr e⟩
  ·rintro c st' ⟨rfl,l,o,rfl,h1,h2,h3,h4⟩;exact⟨rfl,l,o,rfl,h1,h3,h4,.inl (by omega)⟩
  ·rintro c st' ⟨rfl,l,o,rfl,h1,h3,h4,h5⟩;dsimp only;have a1:∀i,i<hint+l+1->P i=true:=λi hi=>mo i (hint+l) (by omega) (by omega) h4;have a2:∀i,hint+min o (n-hint)<=i->i<n->P i=false:=λi hi hn=>by
    rcases h5 with z|z
    ·omega
    ·exact nf (hint+o) i (by omega) hn z
   have a3:hint+l+1<=hint+min o (n-hint):=by omega
   have a4:hint+min o (n-hint)<=n:=by omega
   generalize hint+l+1=lo at a1 a3;generalize hint+min o (n-hint)=hi at a2 a3 a4;refine wpS_bind (wpS_mono (wpS_forRange (I:=λi c st''=>st''=st'/\∃l h:Nat,c=(none,l,h)/\l<=h/\h<=n/\h-l<=n-i/\(∀i,i<l->P i=true)/\∀i,h<=i->i<n->P i=false) (Q:=λc st''=>st''=st'/\∃h:Nat,c=(none,h,h)/\h<=n/\(∀i,i<h->P i=true)/\∀i,h<=i->i<n->P i=false) ?_ ?_ ⟨rfl,lo,hi,rfl,a3,a4,by omega,a1,a2⟩) ?_)
   ·rintro i c st'' _ hi ⟨rfl,l,h,rfl,b1,b2,b3,b4,b5⟩;dsimp only;by_cases ho:l ≥ h
    ·rw[if_pos ho];have:l=h:=by omega
     subst this;exact wpS_pure ⟨rfl,l,rfl,b2,b4,b5⟩
    ·rw[if_neg ho];refine wpS_bind (by' (i:=l+(h-l) / 2) (by omega) ?_);cases e:P (l+(h-l) / 2) with
     |true=>exact wpS_pure ⟨rfl,_,h,rfl,by omega,b2,by omega,λi hi=>mo i _ (by omega) (by omega) e,b5⟩
     |false=>exact wpS_pure ⟨rfl,l,_,rfl,by omega,by omega,by omega,b4,λi hi hn=>nf _ i hi hn e⟩
   ·rintro c st'' ⟨rfl,l,h,rfl,b1,b2,b3,b4,b5⟩;have:l=h:=by omega
    subst this;exact⟨rfl,l,rfl,b2,b4,b5⟩
   ·rintro c st'' ⟨rfl,h,rfl,b2,b4,b5⟩;exact wpS_pure (q h b2 λi hi=>⟨λz=>Nat.lt_of_not_le λy=>(by rw[b5 i y hi] at z;cases z),b4 i⟩)
 |false=>
  dsimp only;rw[if_neg (by decide)];refine wpS_bind (wpS_mono (wpS_forRange (I:=λi c st'=>st'=st/\∃l o:Nat,c=(none,l,o)/\l<o/\i<o/\l<=hint/\P (hint-l)=false) (Q:=λc st'=>st'=st/\∃l o:Nat,c=(none,l,o)/\l<o/\l<=hint/\P (hint-l)=false/\(hint+1<=o∨P (hint-o)=true)) ?_ ?_ ⟨rfl,0,1,rfl,by omega,by omega,by omega,ph⟩) ?_)
  ·rintro i c st' _ hi ⟨rfl,l,o,rfl,h1,h2,h3,h4⟩;dsimp only;by_cases ho:o ≥ hint+1
   ·rw[if_pos ho];exact wpS_pure ⟨rfl,l,o,rfl,h1,h3,h4,.inl ho⟩
   ·rw[if_neg ho];refine wpS_bind (by' (by omega) ?_);cases e:P (hint-o) with
    |true=>exact wpS_pure ⟨rfl,l,o,rfl,h1,h3,h4,.inr e⟩
    |false=>exact wpS_pure ⟨rfl,o,2 * o+1,rfl,by omega,by omega,by omega,e⟩
  ·rintro c st' ⟨rfl,l,o,rfl,h1,h2,h3,h4⟩;exact⟨rfl,l,o,rfl,h1,h3,h4,.inl (by omega)⟩
  ·rintro c st' ⟨rfl,l,o,rfl,h1,h3,h4,h5⟩;dsimp only;have a1:∀i,i<hint+1-min o (hint+1)->P i=true:=λi hi=>by
    rcases h5 with z|z
    ·omega
    ·exact mo i (hint-o) (by omega) (by omega) z
   have a2:∀i,hint-l<=i->i<n->P i=false:=λi hi hn=>nf (hint-l) i hi hn h4;have a3:hint+1-min o (hint+1)<=hint-l:=by omega
   have a4:hint-l<=n:=by omega
   generalize hint+1-min o (hint+1)=lo at a1 a3;generalize hint-l=hi at a2 a3 a4;refine wpS_bind (wpS_mono (wpS_forRange (I:=λi c st''=>st''=st'/\∃l h:Nat,c=(none,l,h)/\l<=h/\h<=n/\h-l<=n-i/\(∀i,i<l->P i=true)/\∀i,h<=i->i<n->P i=false) (Q:=λc st''=>st''=st'/\∃h:Nat,c=(none,h,h)/\h<=n/\(∀i,i<h->P i=true)/\∀i,h<=i->i<n->P i=false) ?_ ?_ ⟨rfl,lo,hi,rfl,a3,a4,by omega,a1,a2⟩) ?_)
   ·rintro i c st'' _ hi ⟨rfl,l,h,rfl,b1,b2,b3,b4,b5⟩;dsimp only;by_cases ho:l ≥ h
    ·rw[if_pos ho];have:l=h:=by omega
     subst this;exact wpS_pure ⟨rfl,l,rfl,b2,b4,b5⟩
    ·rw[if_neg ho];refine wpS_bind (by' (i:=l+(h-l) / 2) (by omega) ?_);cases e:P (l+(h-l) / 2) with
     |true=>exact wpS_pure ⟨rfl,_,h,rfl,by omega,b2,by omega,λi hi=>mo i _ (by omega) (by omega) e,b5⟩
     |false=>exact wpS_pure ⟨rfl,l,_,rfl,by omega,by omega,by omega,b4,λi hi hn=>nf _ i hi hn e⟩
   ·rintro c st'' ⟨rfl,l,h,rfl,b1,b2,b3,b4,b5⟩;have:l=h:=by omega
    subst this;exact⟨rfl,l,rfl,b2,b4,b5⟩
   ·rintro c st'' ⟨rfl,h,rfl,b2,b4,b5⟩;exact wpS_pure (q h b2 λi hi=>⟨λz=>Nat.lt_of_not_le λy=>(by rw[b5 i y hi] at z;cases z),b4 i⟩)
end
section
variable{α:Type}{R:α->α->Prop}{T o x y z:List α}
structure J(R:α->α->Prop)(T o x y:List α):Prop where
 po:o.Pairwise R
 px:x.Pairwise R
 py:y.Pairwise R
 ox:∀u∈o,∀v∈x,R u v
 oy:∀u∈o,∀v∈y,R u v
 pm:(o++x++y).Perm T
theorem J.swap(h:J R T o x y):J R T o y x:=⟨h.po,h.py,h.px,h.oy,h.ox,(by rw[AAn];exact(List.Perm.append_left o List.perm_append_comm).trans (by rw[←AAn];exact h.pm))⟩
theorem J.len(h:J R T o x y):o.length+x.length+y.length=T.length:=by
 have:=h.pm.length_eq;rw[AAG,AAG] at this;exact this
theorem J.take(h:J R T o x y)(k:Nat)(c:∀u∈x.take k,∀v∈y,R u v):J R T (o++x.take k) (x.drop k) y:=by
 have e:x.take k++x.drop k=x:=List.take_append_drop k x;have px:=h.px;rw[←e] at px;obtain⟨p1,p2,p3⟩:=List.pairwise_append.mp px;refine⟨List.pairwise_append.mpr ⟨h.po,p1,λu hu v hv=>h.ox u hu v (List.mem_of_mem_take hv)⟩,p2,h.py,λu hu v hv=>?_,λu hu v hv=>?_,?_⟩
 ·rcases AAJ.mp hu with z|z
  ·exact h.ox u z v (List.mem_of_mem_drop hv)
  ·exact p3 u z v hv
 ·rcases AAJ.mp hu with z|z
  ·exact h.oy u z v hv
  ·exact c u z v hv
 ·rw[AAn o,e];exact h.pm
theorem J.one{a b:α}(tr:∀{p q r:α},R p q->R q r->R p r)(h:J R T o (a::x) (b::y))(c:R a b):J R T (o++[a]) x (b::y):=by
 refine h.take 1 λu hu v hv=>?_;rw[AAK.mp hu];rcases AAI.mp hv with rfl|hv
 ·exact c
 ·exact tr c ((AAz.mp h.py).1 v hv)
theorem J.end_(h:J R T o x y)(c:∀u∈x,∀v∈y,R u v):(o++x++y).Pairwise R/\(o++x++y).Perm T:=by
 refine⟨List.pairwise_append.mpr ⟨List.pairwise_append.mpr ⟨h.po,h.px,h.ox⟩,h.py,λu hu v hv=>?_⟩,h.pm⟩;rcases AAJ.mp hu with z|z
 ·exact h.oy u z v hv
 ·exact c u z v hv
end
def Same(st st':SortSt):Prop:=kindOf st'=kindOf st/\arrOf st'=arrOf st/\pendingOf st'=pendingOf st/\failedOf st'=failedOf st
theorem Same.rfl{st:SortSt}:Same st st:=⟨Eq.refl _,Eq.refl _,Eq.refl _,Eq.refl _⟩
theorem Same.trans{a b c:SortSt}(h:Same a b)(g:Same b c):Same a c:=⟨g.1.trans h.1,g.2.1.trans h.2.1,g.2.2.1.trans h.2.2.1,g.2.2.2.trans h.2.2.2⟩
theorem GV(a:Array Keyed)(i k:Nat):(a.extract i (i+k)).toList=(a.toList.drop i).take k:=by
 rw[Array.toList_extract];show (a.toList.drop i).take (i+k-i)=_;rw[Nat.add_sub_cancel_left]
theorem FG(a:Array Keyed)(i:Nat):(a.extract i).toList=a.toList.drop i:=by
 rw[Array.toList_extract];show (a.toList.drop i).take (a.size-i)=_;exact List.take_of_length_le (by rw[List.length_drop,Array.length_toList];omega)
theorem Dm{a:Array Keyed}{i:Nat}(h:i<a.size):∃x,a[i]?=some x/\a.toList.drop i=x::a.toList.drop (i+1):=⟨a[i],Array.getElem?_eq_getElem h,by rw[List.drop_eq_getElem_cons (by rw[Array.length_toList];exact h),Array.getElem_toList]⟩
noncomputable def mlo:Array Keyed->Array Keyed->StateT SortSt Sem (Array Keyed):=sortPriv% PySem.Builtin.mergeLo
section
variable{prog:Program}{w:World}{A:Around}{E:Value->Shared->Prop}{s:Shared}{kd:SortKind}{R:Keyed->Keyed->Bool}{S:Keyed->Prop}{st:SortSt}
abbrev Lt(R:Keyed->Keyed->Bool)(x y:Keyed):Prop:=R x y=true
theorem Cc{a:Array Keyed}{i:Nat}{x:Keyed}(h:x∈a.toList.drop i):x∈a.toList:=List.mem_of_mem_drop h
theorem Px{l:List Keyed}{key:Keyed}{k:Nat}(h:∀i,i<l.length->((∃x,l[i]?=some x/\R x key=true)↔i<k)):(∀u∈l.take k,R u key=true)/\∀u∈l.drop k,R u key=false:=by
 constructor
 ·intro u hu;obtain⟨i,hi,e⟩:=List.mem_iff_getElem.mp hu;rw[List.getElem_take] at e;rw[List.length_take] at hi;obtain⟨x,e1,e2⟩:=(h i (by omega)).mpr (by omega);rw[AAu (by omega),e] at e1;cases e1;exact e2
 ·intro u hu;obtain⟨i,hi,e⟩:=List.mem_iff_getElem.mp hu;rw[List.getElem_drop] at e;rw[List.length_drop] at hi;cases z:R u key with
  |false=>rfl
  |true=>
   have:=(h (k+i) (by omega)).mp ⟨u,by rw[AAu (by omega),e],z⟩;omega
theorem D7(C:Cp prog w A E s kd R S)(hk:kindOf st=kd){left:Bool}{key:Keyed}{arr:Array Keyed}{base n hint:Nat}{Q:Option Nat->SortSt->Prop}(l:List Keyed)(hl:(arr.toList.drop base).take n=l)(ln:l.length=n)(sl:∀u∈l,S u/\u≠key)(sk:S key)(pw:l.Pairwise (Lt R))(hh:hint<n)
  (q:∀k,k<=n->(∀u∈l.take k,R u key=true)->(∀u∈l.drop k,R key u=true)->Q (some k) st):wpS (model prog w) A E s (gal left key arr base n hint) Q st:=by
 have at_:∀i,i<n->∃x,arr[base+i]?=some x/\l[i]?=some x/\x∈l:=λi hi=>by
  have hi':i<l.length:=by omega
  refine⟨l[i],?_,AAu hi',List.getElem_mem hi'⟩;have e:l[i]?=arr.toList[base+i]?:=by rw[←hl,List.getElem?_take_of_lt hi,List.getElem?_drop]
  rw[←Array.getElem?_toList,←e,AAu hi']
 refine Wd C hk (P:=λi=>match l[i]? with|some x=>R x key|none=>false) (λi hi=>?_) sk (λi j hij hj hp=>?_) hh λk hk hi=>?_
 ·obtain⟨x,e1,e2,e3⟩:=at_ i hi;exact⟨x,e1,(sl x e3).1,(sl x e3).2,by rw[e2]⟩
 ·obtain⟨x,_,e2,_⟩:=at_ i (by omega);obtain⟨y,_,e4,_⟩:=at_ j hj;rw[e2];rw[e4] at hp;rcases Nat.lt_or_ge i j with z|z
  ·have:Lt R x y:=by
    have:=List.pairwise_iff_getElem.mp pw i j (by omega) (by omega) z;rw[AAu (by omega)] at e2 e4;cases e2;cases e4;exact this
   exact C.tr this hp
  ·have:i=j:=by omega
   subst this;rw[e2] at e4;cases e4;exact hp
 ·have:=Px (R:=R) (l:=l) (key:=key) (k:=k) λi hi'=>by
   obtain⟨x,_,e2,_⟩:=at_ i (by omega);have:=hi i (by omega);rw[e2] at this;rw[←this,e2];exact⟨λ⟨x,e,z⟩=>by cases e;exact z,λz=>⟨_,rfl,z⟩⟩
  refine q k hk this.1 λu hu=>?_;obtain⟨h1,h2⟩:=sl u (List.mem_of_mem_drop hu);exact C.tot h1 sk h2 (this.2 u hu)
def Ea(R:Keyed->Keyed->Bool)(T:List Keyed)(r:Array Keyed):Prop:=r.toList.Pairwise (Lt R)/\r.toList.Perm T
theorem WG(C:Cp prog w A E s kd R S)(hk:kindOf st=kd){a b:Array Keyed}{Q:Array Keyed->SortSt->Prop}(sa:∀u∈a.toList,S u)(sb:∀u∈b.toList,S u)(ne:∀u∈a.toList,∀v∈b.toList,u≠v)(pa:a.toList.Pairwise (Lt R))(pb:b.toList.Pairwise (Lt R))(b0:0<b.size)(a0:0<a.size)
  (first:∀x y,a[0]?=some x->b[0]?=some y->R y x=true) (last:∀x,a[a.size-1]?=some x->∀v∈b.toList,R v x=true)
  (q:∀r st',Ea R (a.toList++b.toList) r->Same st st'->Q r st'):wpS (model prog w) A E s (mlo a b) Q st:=by
 have tr:∀{p q r:Keyed},Lt R p q->Lt R q r->Lt R p r:=λh g=>C.tr h g;have dn:∀{o:Array Keyed} {ia ib:Nat},J (Lt R) (a.toList++b.toList) o.toList (a.toList.drop ia) (b.toList.drop ib)->ib=b.size->Ea R (a.toList++b.toList) (o++a.extract ia++b.extract ib):=λ{o ia ib} j e=>by
  have:b.toList.drop ib=[]:=List.drop_eq_nil_of_le (by rw[Array.length_toList];omega);unfold Ea;rw[Array.toList_append,Array.toList_append,FG,FG];exact j.end_ λu hu v hv=>by rw[this] at hv;cases hv
 have la:∀{o:Array Keyed} {ia ib:Nat},J (Lt R) (a.toList++b.toList) o.toList (a.toList.drop ia) (b.toList.drop ib)->ia+1=a.size->Ea R (a.toList++b.toList) (o++b.extract ib++a.extract ia):=λ{o ia ib} j e=>by
  obtain⟨x,e1,e2⟩:=Dm (a:=a) (i:=ia) (by omega);have e3:a.toList.drop (ia+1)=[]:=List.drop_eq_nil_of_le (by rw[Array.length_toList];omega);unfold Ea;rw[Array.toList_append,Array.toList_append,FG,FG];refine j.swap.end_ λu hu v hv=>?_;rw[e2,e3] at hv;rw[AAK.mp hv];exact last x (by rw[show a.size-1=ia by omega];exact e1) u (Cc hu)
 have lens:∀{o:Array Keyed} {ia ib:Nat},J (Lt R) (a.toList++b.toList) o.toList (a.toList.drop ia) (b.toList.drop ib)->ia<=a.size->ib<=b.size->o.size+(a.size-ia)+(b.size-ib)=a.size+b.size:=λ{o ia ib} j h1 h2=>by
  have:=j.len;rw[List.length_drop,List.length_drop,AAG,Array.length_toList,Array.length_toList,Array.length_toList] at this;exact this
 have pushB:∀{o:Array Keyed} {ia ib:Nat} {x y:Keyed},J (Lt R) (a.toList++b.toList) o.toList (a.toList.drop ia) (b.toList.drop ib)->a.toList.drop ia=x::a.toList.drop (ia+1)->b.toList.drop ib=y::b.toList.drop (ib+1)->R y x=true->J (Lt R) (a.toList++b.toList) (o.push y).toList (a.toList.drop ia) (b.toList.drop (ib+1)):=λ{o ia ib x y} j e1 e2 c=>by
  rw[Array.toList_push];have j':=j.swap;rw[e1,e2] at j';rw[e1];exact(J.one (R:=Lt R) (a:=y) (b:=x) tr j' c).swap
 have pushA:∀{o:Array Keyed} {ia ib:Nat} {x y:Keyed},J (Lt R) (a.toList++b.toList) o.toList (a.toList.drop ia) (b.toList.drop ib)->a.toList.drop ia=x::a.toList.drop (ia+1)->b.toList.drop ib=y::b.toList.drop (ib+1)->R x y=true->J (Lt R) (a.toList++b.toList) (o.push x).toList (a.toList.drop (ia+1)) (b.toList.drop ib):=λ{o ia ib x y} j e1 e2 c=>by
  rw[Array.toList_push];rw[e1,e2] at j;rw[e2];exact J.one (R:=Lt R) (a:=x) (b:=y) tr j c
 have J0:J (Lt R) (a.toList++b.toList) [] (a.toList.drop 0) (b.toList.drop 0):=⟨.nil,pa,pb,(λ_ h=>nomatch h),(λ_ h=>nomatch h),List.Perm.refl _⟩;obtain⟨x0,f1,f2⟩:=Dm a0;obtain⟨y0,g1,g2⟩:=Dm b0;have J1:J (Lt R) (a.toList++b.toList) (#[y0]:Array Keyed).toList (a.toList.drop 0) (b.toList.drop 1):=pushB (o:=#[]) J0 f2 g2 (first x0 y0 f1 g1);refine wpS_bind (wpS_lift (wpAny_rule ⟨rfl,?_⟩));refine wpS_bind (el g1 ?_);dsimp only;by_cases h1:1=b.size
 ·rw[if_pos (by simpa using h1)];exact wpS_pure (q _ _ (dn J1 h1) .rfl)
 rw[if_neg (by simpa using h1)];by_cases h2:0+1=a.size
 ·rw[if_pos (by simpa using h2)];exact wpS_pure (q _ _ (la J1 h2) .rfl)
 rw[if_neg (by simpa using h2)];refine wpS_bind (wpS_get ?_);refine wpS_bind (wpS_mono (wpS_forRange (I:=λi c st'=>Same st st'/\∃(o:Array Keyed) (ia ib g:Nat),c=(none,o,ia,ib,g)/\J (Lt R) (a.toList++b.toList) o.toList (a.toList.drop ia) (b.toList.drop ib)/\ia+1<a.size/\ib<b.size/\i+1<=o.size) (Q:=λc st'=>Same st st'/\∃r z,c=(some r,z)/\Ea R (a.toList++b.toList) r) ?_ ?_ ⟨.rfl,#[y0],0,1,_,rfl,J1,by omega,by omega,AAE _⟩) ?_)
 ·rintro i c st' _ hi ⟨sm,o,ia,ib,g,rfl,j,r1,r2,o1⟩;dsimp only;have hk':kindOf st'=kd:=sm.1.trans hk;refine wpS_bind (wpS_mono (wpS_forRange (I:=λi' c st''=>st''=st'/\∃(o':Array Keyed) (ia ib ac bc:Nat),c=(none,o',ia,ib,ac,bc)/\J (Lt R) (a.toList++b.toList) o'.toList (a.toList.drop ia) (b.toList.drop ib)/\ia+1<a.size/\ib<b.size/\o.size+i'<=o'.size) (Q:=λc st''=>st''=st'/\((∃r z,c=(some r,z)/\Ea R (a.toList++b.toList) r)∨∃(o':Array Keyed) (ia ib ac bc:Nat),c=(none,o',ia,ib,ac,bc)/\J (Lt R) (a.toList++b.toList) o'.toList (a.toList.drop ia) (b.toList.drop ib)/\ia+1<a.size/\ib<b.size/\o.size+1<=o'.size)) ?_ ?_ ⟨rfl,o,ia,ib,0,0,rfl,j,r1,r2,AAE _⟩) ?_)
  ·rintro i' c st'' _ hi' ⟨rfl,o',ia,ib,ac,bc,rfl,j,r1,r2,o2⟩;dsimp only;obtain⟨x,e1,e2⟩:=Dm (a:=a) (i:=ia) (by omega);obtain⟨y,e3,e4⟩:=Dm (a:=b) (i:=ib) r2;have mx:x∈a.toList:=Cc (i:=ia) (by rw[e2];exact AAP);have my:y∈b.toList:=Cc (i:=ib) (by rw[e4];exact AAP);refine wpS_bind (el e3 (wpS_bind (el e1 (wpS_bind (C.lt hk' (sb y my) (sa x mx) ?_)))));cases c1:R y x with
   |true=>
    dsimp only;rw[if_pos rfl];refine wpS_bind (el e3 ?_);have j2:=pushB j e2 e4 c1;by_cases z:ib+1=b.size
    ·rw[if_pos (by simpa using z)];exact wpS_pure ⟨rfl,.inl ⟨_,_,rfl,dn j2 z⟩⟩
    ·rw[if_neg (by simpa using z)];split
     ·exact wpS_pure ⟨rfl,.inr ⟨_,_,_,_,_,rfl,j2,r1,by omega,by rw[Array.size_push];omega⟩⟩
     ·exact wpS_pure ⟨rfl,_,_,_,_,_,rfl,j2,r1,by omega,by rw[Array.size_push];omega⟩
   |false=>
    dsimp only;rw[if_neg (by decide)];refine wpS_bind (el e1 ?_);have j2:=pushA j e2 e4 (C.tot (sb y my) (sa x mx) (Ne.symm (ne x mx y my)) c1);by_cases z:ia+1+1=a.size
    ·rw[if_pos (by simpa using z)];exact wpS_pure ⟨rfl,.inl ⟨_,_,rfl,la j2 z⟩⟩
    ·rw[if_neg (by simpa using z)];split
     ·exact wpS_pure ⟨rfl,.inr ⟨_,_,_,_,_,rfl,j2,by omega,r2,by rw[Array.size_push];omega⟩⟩
     ·exact wpS_pure ⟨rfl,_,_,_,_,_,rfl,j2,by omega,r2,by rw[Array.size_push];omega⟩
  ·rintro c st'' ⟨rfl,o',ia,ib,ac,bc,rfl,j,r1,r2,o2⟩;have:=lens j (by omega) (by omega);omega
  ·rintro c st'' ⟨rfl,h|⟨o',ia,ib,ac,bc,rfl,j,r1,r2,o2⟩⟩
   ·obtain⟨r,z,rfl,gd⟩:=h;dsimp only;exact wpS_pure ⟨sm,r,_,rfl,gd⟩
   dsimp only;refine wpS_bind (wpS_lift (wpAny_rule ⟨rfl,?_⟩));refine wpS_bind (wpS_mono (wpS_forRange (I:=λi' c st3=>Same st st3/\∃(o3:Array Keyed) (ia ib g ac bc:Nat),c=(none,o3,ia,ib,g,ac,bc)/\J (Lt R) (a.toList++b.toList) o3.toList (a.toList.drop ia) (b.toList.drop ib)/\ia+1<a.size/\ib<b.size/\o'.size<=o3.size) (Q:=λc st3=>Same st st3/\((∃r z,c=(some r,z)/\Ea R (a.toList++b.toList) r)∨∃(o3:Array Keyed) (ia ib g ac bc:Nat),c=(none,o3,ia,ib,g,ac,bc)/\J (Lt R) (a.toList++b.toList) o3.toList (a.toList.drop ia) (b.toList.drop ib)/\ia+1<a.size/\ib<b.size/\o'.size<=o3.size)) ?_ ?_ ⟨sm,o',ia,ib,_,ac,bc,rfl,j,r1,r2,AAE _⟩) ?_)
   ·rintro i' c st3 _ hi' ⟨sm3,o3,ia,ib,g,ac,bc,rfl,j,r1,r2,o4⟩;dsimp only;obtain⟨y,e3,e4⟩:=Dm (a:=b) (i:=ib) r2;have my:y∈b.toList:=Cc (i:=ib) (by rw[e4];exact AAP);have sm4:∀{g:Nat},Same st (SortSt.mk' (kindOf st3) (arrOf st3) (pendingOf st3) g (failedOf st3)):=λ{g}=>sm3.trans ⟨rfl,rfl,rfl,rfl⟩;have py:=j.py;rw[e4] at py;by_cases gg:g > 1
    case' pos=>rw[if_pos gg]
    case' neg=>rw[if_neg gg]
    all_goals
     refine wpS_bind (wpS_modify ?_);refine wpS_bind (el e3 ?_);refine wpS_bind (D7 C (sm4.1.trans hk) (a.toList.drop ia) (List.take_of_length_le (by rw[List.length_drop,Array.length_toList];omega)) (by rw[List.length_drop,Array.length_toList]) (λu hu=>⟨sa u (Cc hu),ne u (Cc hu) y my⟩) (sb y my) j.px (by omega) λk kn ku kv=>?_);dsimp only;have j2:J (Lt R) (a.toList++b.toList) (o3++a.extract ia (ia+k)).toList (a.toList.drop (ia+k)) (b.toList.drop ib):=by
      have:=j.take k λu hu v hv=>by
       rw[e4] at hv;rcases AAI.mp hv with rfl|hv
       ·exact ku u hu
       ·exact tr (ku u hu) ((AAz.mp py).1 v hv)
      rw[List.drop_drop] at this;rw[Array.toList_append,GV];exact this
     have kv':∀u∈a.toList.drop (ia+k),R y u=true:=λu hu=>kv u (by rw[List.drop_drop];exact hu);have os:o'.size<=(o3++a.extract ia (ia+k)).size:=by rw[Array.size_append];omega
     by_cases k0:k > 0
     case' pos=>
      rw[if_pos k0];by_cases z1:ia+k+1=a.size
      ·rw[if_pos (by simpa using z1)];exact wpS_pure ⟨sm4,.inl ⟨_,_,rfl,la j2 z1⟩⟩
      rw[if_neg (by simpa using z1)];by_cases z2:ia+k=a.size
      ·rw[if_pos (by simpa using z2)];refine wpS_pure ⟨sm4,.inl ⟨_,_,rfl,?_⟩⟩;unfold Ea;rw[Array.toList_append,Array.toList_append,FG,FG];exact j2.end_ λu hu v hv=>by rw[List.drop_eq_nil_of_le (by rw[Array.length_toList];omega)] at hu;cases hu
      rw[if_neg (by simpa using z2)];have r5:ia+k+1<a.size:=by omega
      generalize o3++a.extract ia (ia+k)=o5 at j2 os ⊢;generalize ia+k=ia5 at j2 kv' r5 ⊢
     case' neg=>
      rw[if_neg k0];have r5:ia+k+1<a.size:=by omega
      have eo:o3++a.extract ia (ia+k)=o3:=Array.toList_inj.mp (by rw[Array.toList_append,GV,show k=0 by omega,List.take_zero,AAa]);rw[eo] at j2 os;rw[show ia+k=ia by omega] at j2 kv' r5;generalize o3=o5 at j2 os ⊢;generalize ia=ia5 at j2 kv' r5 ⊢
     all_goals
      obtain⟨x,e1,e2⟩:=Dm (a:=a) (i:=ia5) (by omega);have mx:x∈a.toList:=Cc (i:=ia5) (by rw[e2];exact AAP);refine wpS_bind (el e3 ?_);have j3:=pushB j2 e2 e4 (kv' x (by rw[e2];exact AAP));by_cases z3:ib+1=b.size
      ·rw[if_pos (by simpa using z3)];exact wpS_pure ⟨sm4,.inl ⟨_,_,rfl,dn j3 z3⟩⟩
      rw[if_neg (by simpa using z3)];refine wpS_bind (el e1 ?_);refine wpS_bind (D7 C (sm4.1.trans hk) (b.toList.drop (ib+1)) (List.take_of_length_le (by rw[List.length_drop,Array.length_toList];omega)) (by rw[List.length_drop,Array.length_toList]) (λu hu=>⟨sb u (Cc hu),Ne.symm (ne x mx u (Cc hu))⟩) (sa x mx) j3.py (by omega) λk2 kn2 ku2 kv2=>?_);dsimp only;have px:=j3.px;rw[e2] at px;have j4:J (Lt R) (a.toList++b.toList) (o5.push y++b.extract (ib+1) (ib+1+k2)).toList (a.toList.drop ia5) (b.toList.drop (ib+1+k2)):=by
       have:=j3.swap.take k2 λu hu v hv=>by
        rw[e2] at hv;rcases AAI.mp hv with rfl|hv
        ·exact ku2 u hu
        ·exact tr (ku2 u hu) ((AAz.mp px).1 v hv)
       rw[List.drop_drop] at this;rw[Array.toList_append,GV];exact this.swap
      have kv3:∀u∈b.toList.drop (ib+1+k2),R x u=true:=λu hu=>kv2 u (by rw[List.drop_drop];exact hu);have os2:o'.size<=(o5.push y++b.extract (ib+1) (ib+1+k2)).size:=by rw[Array.size_append,Array.size_push];omega
      by_cases k3:k2 > 0
      case' pos=>
       rw[if_pos k3];by_cases z4:ib+1+k2=b.size
       ·rw[if_pos (by simpa using z4)];exact wpS_pure ⟨sm4,.inl ⟨_,_,rfl,dn j4 z4⟩⟩
       rw[if_neg (by simpa using z4)];have r6:ib+1+k2<b.size:=by omega
       generalize o5.push y++b.extract (ib+1) (ib+1+k2)=o6 at j4 os2 ⊢;generalize ib+1+k2=ib6 at j4 kv3 r6 ⊢
      case' neg=>
       rw[if_neg k3];have r6:ib+1+k2<b.size:=by omega
       have eo:o5.push y++b.extract (ib+1) (ib+1+k2)=o5.push y:=Array.toList_inj.mp (by rw[Array.toList_append,GV,show k2=0 by omega,List.take_zero,AAa]);rw[eo] at j4 os2;rw[show ib+1+k2=ib+1 by omega] at j4 kv3 r6;generalize o5.push y=o6 at j4 os2 ⊢;generalize ib+1=ib6 at j4 kv3 r6 ⊢
      all_goals
       obtain⟨y',e5,e6⟩:=Dm (a:=b) (i:=ib6) r6;refine wpS_bind (el e1 ?_);have j5:=pushA j4 e2 e6 (kv3 y' (by rw[e6];exact AAP));by_cases z5:ia5+1+1=a.size
       ·rw[if_pos (by simpa using z5)];exact wpS_pure ⟨sm4,.inl ⟨_,_,rfl,la j5 z5⟩⟩
       rw[if_neg (by simpa using z5)];have os3:o'.size<=(o6.push x).size:=by rw[Array.size_push];omega
       split
       ·exact wpS_pure ⟨sm4,.inr ⟨_,_,_,_,_,_,rfl,j5,by omega,r6,os3⟩⟩
       ·exact wpS_pure ⟨sm4,_,_,_,_,_,_,rfl,j5,by omega,r6,os3⟩
   ·rintro c st3 ⟨sm3,h⟩;exact⟨sm3,.inr h⟩
   ·rintro c st3 ⟨sm3,h|⟨o3,ia,ib,g,ac,bc,rfl,j,r1,r2,o4⟩⟩
    ·obtain⟨r,z,rfl,gd⟩:=h;dsimp only;exact wpS_pure ⟨sm3,r,_,rfl,gd⟩
    dsimp only;refine wpS_bind (wpS_modify (wpS_pure ?_));exact⟨sm3.trans ⟨rfl,rfl,rfl,rfl⟩,o3,ia,ib,_,rfl,j,r1,r2,by omega⟩
 ·rintro c st' ⟨sm,o,ia,ib,g,rfl,j,r1,r2,o1⟩;have:=lens j (by omega) (by omega);omega
 ·rintro c st' ⟨sm,r,z,rfl,gd⟩;dsimp only;exact wpS_pure (q _ _ gd sm)
end
noncomputable def mhi:Array Keyed->Array Keyed->StateT SortSt Sem (Array Keyed):=sortPriv% PySem.Builtin.mergeHi
abbrev Gt(R:Keyed->Keyed->Bool)(x y:Keyed):Prop:=R y x=true
noncomputable abbrev bk(a:Array Keyed)(n:Nat):List Keyed:=(a.toList.take n).reverse
theorem Gk{a:Array Keyed}{n:Nat}(h0:1<=n)(h:n<=a.size):∃x,a[n-1]?=some x/\bk a n=x::bk a (n-1):=by
 obtain⟨m,rfl⟩:∃m,n=m+1:=⟨n-1,by omega⟩;have hm:m<a.toList.length:=by rw[Array.length_toList];omega
 refine⟨a[m],Array.getElem?_eq_getElem (by omega),?_⟩;unfold bk;rw[List.take_succ_eq_append_getElem hm,List.reverse_append,Array.getElem_toList];rfl
theorem IK{a:Array Keyed}{n:Nat}{x:Keyed}(h:x∈bk a n):x∈a.toList:=List.mem_of_mem_take (List.mem_reverse.mp h)
theorem SK{a:Array Keyed}{n:Nat}(h:n<=a.size):(bk a n).length=n:=by
 unfold bk;rw[List.length_reverse,List.length_take,Array.length_toList];omega
theorem Kb{a:Array Keyed}{n m:Nat}(h:n<=a.size)(hm:m<=n):(bk a n).take (n-m)=((a.toList.take n).drop m).reverse:=by
 unfold bk;rw[List.take_reverse,List.length_take,Array.length_toList,show min n a.size-(n-m)=m by omega]
theorem N5{a:Array Keyed}{n m:Nat}(h:n<=a.size)(hm:m<=n):(bk a n).drop (n-m)=bk a m:=by
 unfold bk;rw[List.drop_reverse,List.length_take,Array.length_toList,show min n a.size-(n-m)=m by omega,List.take_take,Nat.min_eq_left hm]
theorem G6{a:Array Keyed}{n m:Nat}(h:n<=a.size)(hm:m<=n):(a.extract m n).reverse.toList=(bk a n).take (n-m):=by
 rw[Kb h hm,Array.toList_reverse,Array.toList_extract];show ((a.toList.drop m).take (n-m)).reverse=_;rw[List.drop_take]
section
variable{prog:Program}{w:World}{A:Around}{E:Value->Shared->Prop}{s:Shared}{kd:SortKind}{R:Keyed->Keyed->Bool}{S:Keyed->Prop}{st:SortSt}
theorem Hv{T:List Keyed}{r:Array Keyed}{z:List Keyed}(e:r.toList=z.reverse)(h:z.Pairwise (Gt R)/\z.Perm T):Ea R T r:=by
 unfold Ea;rw[e];exact⟨List.pairwise_reverse.mpr h.1,(List.reverse_perm z).trans h.2⟩
theorem WI(C:Cp prog w A E s kd R S)(hk:kindOf st=kd){a b:Array Keyed}{Q:Array Keyed->SortSt->Prop}(sa:∀u∈a.toList,S u)(sb:∀u∈b.toList,S u)(ne:∀u∈a.toList,∀v∈b.toList,u≠v)(pa:a.toList.Pairwise (Lt R))(pb:b.toList.Pairwise (Lt R))(b0:0<b.size)(a0:0<a.size)
  (first:∀y,b[0]?=some y->∀u∈a.toList,R y u=true) (last:∀x y,a[a.size-1]?=some x->b[b.size-1]?=some y->R y x=true)
  (q:∀r st',Ea R (a.toList++b.toList) r->Same st st'->Q r st'):wpS (model prog w) A E s (mhi a b) Q st:=by
 have tr:∀{p q r:Keyed},Gt R p q->Gt R q r->Gt R p r:=λh g=>C.tr g h;have dn:∀{o:Array Keyed} {na nb:Nat},J (Gt R) (a.toList++b.toList) o.toList (bk a na) (bk b nb)->na=0->Ea R (a.toList++b.toList) (a.extract 0 na++b.extract 0 nb++o.reverse):=λ{o na nb} j e=>by
  subst e;refine Hv (z:=o.toList++bk b nb++bk a 0) ?_ (j.swap.end_ λu hu v hv=>nomatch hv);rw[Array.toList_append,Array.toList_append,Array.toList_reverse,Array.toList_extract,Array.toList_extract];show (a.toList.drop 0).take (0-0)++(b.toList.drop 0).take (nb-0)++_=_;simp[bk]
 have fb:∀{o:Array Keyed} {na nb:Nat},J (Gt R) (a.toList++b.toList) o.toList (bk a na) (bk b nb)->nb=1->Ea R (a.toList++b.toList) (b.extract 0 nb++a.extract 0 na++o.reverse):=λ{o na nb} j e=>by
  subst e;obtain⟨y,e1,e2⟩:=Gk (a:=b) (n:=1) (AAE _) b0;refine Hv (z:=o.toList++bk a na++bk b 1) ?_ (j.end_ λu hu v hv=>?_)
  ·rw[Array.toList_append,Array.toList_append,Array.toList_reverse,Array.toList_extract,Array.toList_extract];show (b.toList.drop 0).take (1-0)++(a.toList.drop 0).take (na-0)++_=_;simp[bk]
  ·rw[e2] at hv;rw[AAK.mp hv];exact first y e1 u (IK hu)
 have lens:∀{o:Array Keyed} {na nb:Nat},J (Gt R) (a.toList++b.toList) o.toList (bk a na) (bk b nb)->na<=a.size->nb<=b.size->o.size+na+nb=a.size+b.size:=λ{o na nb} j h1 h2=>by
  have:=j.len;rw[SK h1,SK h2,AAG,Array.length_toList,Array.length_toList,Array.length_toList] at this;exact this
 have pushA:∀{o:Array Keyed} {na nb:Nat} {x y:Keyed},J (Gt R) (a.toList++b.toList) o.toList (bk a na) (bk b nb)->bk a na=x::bk a (na-1)->bk b nb=y::bk b (nb-1)->R y x=true->J (Gt R) (a.toList++b.toList) (o.push x).toList (bk a (na-1)) (bk b nb):=λ{o na nb x y} j e1 e2 c=>by
  rw[Array.toList_push];rw[e1,e2] at j;rw[e2];exact J.one (R:=Gt R) (a:=x) (b:=y) tr j c
 have pushB:∀{o:Array Keyed} {na nb:Nat} {x y:Keyed},J (Gt R) (a.toList++b.toList) o.toList (bk a na) (bk b nb)->bk a na=x::bk a (na-1)->bk b nb=y::bk b (nb-1)->R x y=true->J (Gt R) (a.toList++b.toList) (o.push y).toList (bk a na) (bk b (nb-1)):=λ{o na nb x y} j e1 e2 c=>by
  rw[Array.toList_push];have j':=j.swap;rw[e1,e2] at j';rw[e1];exact(J.one (R:=Gt R) (a:=y) (b:=x) tr j' c).swap
 have J0:J (Gt R) (a.toList++b.toList) [] (bk a a.size) (bk b b.size):=by
  have e1:bk a a.size=a.toList.reverse:=by unfold bk;rw[List.take_of_length_le (by rw[Array.length_toList];exact AAE _)]
  have e2:bk b b.size=b.toList.reverse:=by unfold bk;rw[List.take_of_length_le (by rw[Array.length_toList];exact AAE _)]
  rw[e1,e2];exact⟨.nil,List.pairwise_reverse.mpr pa,List.pairwise_reverse.mpr pb,(λ_ h=>nomatch h),(λ_ h=>nomatch h),(List.reverse_perm _).append (List.reverse_perm _)⟩
 obtain⟨x0,f1,f2⟩:=Gk a0 (AAE _);obtain⟨y0,g1,g2⟩:=Gk b0 (AAE _);have J1:J (Gt R) (a.toList++b.toList) (#[x0]:Array Keyed).toList (bk a (a.size-1)) (bk b b.size):=pushA (o:=#[]) J0 f2 g2 (last x0 y0 f1 g1);refine wpS_bind (wpS_lift (wpAny_rule ⟨rfl,?_⟩));refine wpS_bind (el f1 ?_);dsimp only;by_cases h1:a.size-1=0
 ·rw[if_pos (by simpa using h1)];exact wpS_pure (q _ _ (dn J1 h1) .rfl)
 rw[if_neg (by simpa using h1)];by_cases h2:b.size=1
 ·rw[if_pos (by simpa using h2)];exact wpS_pure (q _ _ (fb J1 h2) .rfl)
 rw[if_neg (by simpa using h2)];refine wpS_bind (wpS_get ?_);refine wpS_bind (wpS_mono (wpS_forRange (I:=λi c st'=>Same st st'/\∃(na nb:Nat) (o:Array Keyed) (g:Nat),c=(none,na,nb,o,g)/\J (Gt R) (a.toList++b.toList) o.toList (bk a na) (bk b nb)/\(1<=na/\na<=a.size)/\(2<=nb/\nb<=b.size)/\i+1<=o.size) (Q:=λc st'=>Same st st'/\∃r z,c=(some r,z)/\Ea R (a.toList++b.toList) r) ?_ ?_ ⟨.rfl,_,_,#[x0],_,rfl,J1,⟨by omega,by omega⟩,⟨by omega,AAE _⟩,AAE _⟩) ?_)
 ·rintro i c st' _ hi ⟨sm,na,nb,o,g,rfl,j,r1,r2,o1⟩;dsimp only;have hk':kindOf st'=kd:=sm.1.trans hk;refine wpS_bind (wpS_mono (wpS_forRange (I:=λi' c st''=>st''=st'/\∃(na nb:Nat) (o':Array Keyed) (ac bc:Nat),c=(none,na,nb,o',ac,bc)/\J (Gt R) (a.toList++b.toList) o'.toList (bk a na) (bk b nb)/\(1<=na/\na<=a.size)/\(2<=nb/\nb<=b.size)/\o.size+i'<=o'.size) (Q:=λc st''=>st''=st'/\((∃r z,c=(some r,z)/\Ea R (a.toList++b.toList) r)∨∃(na nb:Nat) (o':Array Keyed) (ac bc:Nat),c=(none,na,nb,o',ac,bc)/\J (Gt R) (a.toList++b.toList) o'.toList (bk a na) (bk b nb)/\(1<=na/\na<=a.size)/\(2<=nb/\nb<=b.size)/\o.size+1<=o'.size)) ?_ ?_ ⟨rfl,na,nb,o,0,0,rfl,j,r1,r2,AAE _⟩) ?_)
  ·rintro i' c st'' _ hi' ⟨rfl,na,nb,o',ac,bc,rfl,j,r1,r2,o2⟩;dsimp only;obtain⟨x,e1,e2⟩:=Gk (a:=a) r1.1 r1.2;obtain⟨y,e3,e4⟩:=Gk (a:=b) (n:=nb) (by omega) r2.2;have mx:x∈a.toList:=IK (n:=na) (by rw[e2];exact AAP);have my:y∈b.toList:=IK (n:=nb) (by rw[e4];exact AAP);refine wpS_bind (el e3 (wpS_bind (el e1 (wpS_bind (C.lt hk' (sb y my) (sa x mx) ?_)))));cases c1:R y x with
   |true=>
    dsimp only;rw[if_pos rfl];refine wpS_bind (el e1 ?_);have j2:=pushA j e2 e4 c1;by_cases z:na-1=0
    ·rw[if_pos (by simpa using z)];exact wpS_pure ⟨rfl,.inl ⟨_,_,rfl,dn j2 z⟩⟩
    ·rw[if_neg (by simpa using z)];split
     ·exact wpS_pure ⟨rfl,.inr ⟨_,_,_,_,_,rfl,j2,⟨by omega,by omega⟩,r2,by rw[Array.size_push];omega⟩⟩
     ·exact wpS_pure ⟨rfl,_,_,_,_,_,rfl,j2,⟨by omega,by omega⟩,r2,by rw[Array.size_push];omega⟩
   |false=>
    dsimp only;rw[if_neg (by decide)];refine wpS_bind (el e3 ?_);have j2:=pushB j e2 e4 (C.tot (sb y my) (sa x mx) (Ne.symm (ne x mx y my)) c1);by_cases z:nb-1=1
    ·rw[if_pos (by simpa using z)];exact wpS_pure ⟨rfl,.inl ⟨_,_,rfl,fb j2 z⟩⟩
    ·rw[if_neg (by simpa using z)];split
     ·exact wpS_pure ⟨rfl,.inr ⟨_,_,_,_,_,rfl,j2,r1,⟨by omega,by omega⟩,by rw[Array.size_push];omega⟩⟩
     ·exact wpS_pure ⟨rfl,_,_,_,_,_,rfl,j2,r1,⟨by omega,by omega⟩,by rw[Array.size_push];omega⟩
  ·rintro c st'' ⟨rfl,na,nb,o',ac,bc,rfl,j,r1,r2,o2⟩;have:=lens j r1.2 r2.2;omega
  ·rintro c st'' ⟨rfl,h|⟨na,nb,o',ac,bc,rfl,j,r1,r2,o2⟩⟩
   ·obtain⟨r,z,rfl,gd⟩:=h;dsimp only;exact wpS_pure ⟨sm,r,_,rfl,gd⟩
   dsimp only;refine wpS_bind (wpS_lift (wpAny_rule ⟨rfl,?_⟩));refine wpS_bind (wpS_mono (wpS_forRange (I:=λi' c st3=>Same st st3/\∃(na nb:Nat) (o3:Array Keyed) (g ac bc:Nat),c=(none,na,nb,o3,g,ac,bc)/\J (Gt R) (a.toList++b.toList) o3.toList (bk a na) (bk b nb)/\(1<=na/\na<=a.size)/\(2<=nb/\nb<=b.size)/\o'.size<=o3.size) (Q:=λc st3=>Same st st3/\((∃r z,c=(some r,z)/\Ea R (a.toList++b.toList) r)∨∃(na nb:Nat) (o3:Array Keyed) (g ac bc:Nat),c=(none,na,nb,o3,g,ac,bc)/\J (Gt R) (a.toList++b.toList) o3.toList (bk a na) (bk b nb)/\(1<=na/\na<=a.size)/\(2<=nb/\nb<=b.size)/\o'.size<=o3.size)) ?_ ?_ ⟨sm,na,nb,o',_,ac,bc,rfl,j,r1,r2,AAE _⟩) ?_)
   ·rintro i' c st3 _ hi' ⟨sm3,na,nb,o3,g,ac,bc,rfl,j,r1,r2,o4⟩;dsimp only;obtain⟨y,e3,e4⟩:=Gk (a:=b) (n:=nb) (by omega) r2.2;have my:y∈b.toList:=IK (n:=nb) (by rw[e4];exact AAP);have sm4:∀{g:Nat},Same st (SortSt.mk' (kindOf st3) (arrOf st3) (pendingOf st3) g (failedOf st3)):=λ{g}=>sm3.trans ⟨rfl,rfl,rfl,rfl⟩;have py:=j.py;rw[e4] at py;have tm:∀{c:Array Keyed} {n:Nat},c.toList.Pairwise (Lt R)->(c.toList.take n).Pairwise (Lt R):=λh=>h.sublist (List.take_sublist _ _);by_cases gg:g > 1
    case' pos=>rw[if_pos gg]
    case' neg=>rw[if_neg gg]
    all_goals
     refine wpS_bind (wpS_modify ?_);refine wpS_bind (el e3 ?_);refine wpS_bind (D7 C (sm4.1.trans hk) (a.toList.take na) (by rw[List.drop_zero]) (by rw[List.length_take,Array.length_toList];omega) (λu hu=>⟨sa u (List.mem_of_mem_take hu),ne u (List.mem_of_mem_take hu) y my⟩) (sb y my) (tm pa) (by omega) λk kn ku kv=>?_);dsimp only;have kv':∀u∈(bk a na).take (na-k),R y u=true:=λu hu=>kv u (by rw[Kb r1.2 kn] at hu;exact List.mem_reverse.mp hu);have ku':∀u∈bk a k,R u y=true:=λu hu=>ku u (by rw[List.take_take,Nat.min_eq_left kn];exact List.mem_reverse.mp hu);have j2:J (Gt R) (a.toList++b.toList) (o3++(a.extract k na).reverse).toList (bk a k) (bk b nb):=by
      have:=j.take (na-k) λu hu v hv=>by
       rw[e4] at hv;rcases AAI.mp hv with rfl|hv
       ·exact kv' u hu
       ·exact tr (kv' u hu) ((AAz.mp py).1 v hv)
      rw[N5 r1.2 kn] at this;rw[Array.toList_append,G6 r1.2 kn];exact this
     have os:o'.size<=(o3++(a.extract k na).reverse).size:=by rw[Array.size_append];omega
     by_cases k0:na-k > 0
     case' pos=>
      rw[if_pos k0];by_cases z1:k=0
      ·rw[if_pos (by simpa using z1)];exact wpS_pure ⟨sm4,.inl ⟨_,_,rfl,dn j2 z1⟩⟩
      rw[if_neg (by simpa using z1)];have r5:1<=k/\k<=a.size:=by omega
      generalize o3++(a.extract k na).reverse=o5 at j2 os ⊢;generalize k=na5 at j2 ku' r5 ⊢
     case' neg=>
      rw[if_neg k0];have ek:k=na:=by omega
      have r5:1<=k/\k<=a.size:=by omega
      have eo:o3++(a.extract k na).reverse=o3:=Array.toList_inj.mp (by rw[Array.toList_append,G6 r1.2 kn,show na-k=0 by omega,List.take_zero,AAa]);rw[eo] at j2 os;rw[ek] at j2 ku' r5;generalize o3=o5 at j2 os ⊢;generalize na=na5 at j2 ku' r5 ⊢
     all_goals
      obtain⟨x,e1,e2⟩:=Gk (a:=a) (n:=na5) r5.1 r5.2;have mx:x∈a.toList:=IK (n:=na5) (by rw[e2];exact AAP);refine wpS_bind (el e3 ?_);have j3:=pushB j2 e2 e4 (ku' x (by rw[e2];exact AAP));by_cases z3:nb-1=1
      ·rw[if_pos (by simpa using z3)];exact wpS_pure ⟨sm4,.inl ⟨_,_,rfl,fb j3 z3⟩⟩
      rw[if_neg (by simpa using z3)];refine wpS_bind (el e1 ?_);refine wpS_bind (D7 C (sm4.1.trans hk) (b.toList.take (nb-1)) (by rw[List.drop_zero]) (by rw[List.length_take,Array.length_toList];omega) (λu hu=>⟨sb u (List.mem_of_mem_take hu),Ne.symm (ne x mx u (List.mem_of_mem_take hu))⟩) (sa x mx) (tm pb) (by omega) λk2 kn2 ku2 kv2=>?_);dsimp only;have px:=j3.px;rw[e2] at px;have nb1:nb-1<=b.size:=by omega
      have kv3:∀u∈(bk b (nb-1)).take (nb-1-k2),R x u=true:=λu hu=>kv2 u (by rw[Kb nb1 kn2] at hu;exact List.mem_reverse.mp hu);have ku3:∀u∈bk b k2,R u x=true:=λu hu=>ku2 u (by rw[List.take_take,Nat.min_eq_left kn2];exact List.mem_reverse.mp hu);have j4:J (Gt R) (a.toList++b.toList) (o5.push y++(b.extract k2 (nb-1)).reverse).toList (bk a na5) (bk b k2):=by
       have:=j3.swap.take (nb-1-k2) λu hu v hv=>by
        rw[e2] at hv;rcases AAI.mp hv with rfl|hv
        ·exact kv3 u hu
        ·exact tr (kv3 u hu) ((AAz.mp px).1 v hv)
       rw[N5 nb1 kn2] at this;rw[Array.toList_append,G6 nb1 kn2];exact this.swap
      have os2:o'.size<=(o5.push y++(b.extract k2 (nb-1)).reverse).size:=by rw[Array.size_append,Array.size_push];omega
      by_cases k3:nb-1-k2 > 0
      case' pos=>
       rw[if_pos k3];by_cases z4:k2=1
       ·rw[if_pos (by simpa using z4)];exact wpS_pure ⟨sm4,.inl ⟨_,_,rfl,fb j4 z4⟩⟩
       rw[if_neg (by simpa using z4)];by_cases z6:k2=0
       ·rw[if_pos (by simpa using z6)];refine wpS_pure ⟨sm4,.inl ⟨_,_,rfl,?_⟩⟩;subst z6;refine Hv (z:=(o5.push y++(b.extract 0 (nb-1)).reverse).toList++bk b 0++bk a na5) ?_ (j4.swap.end_ λu hu v hv=>nomatch hu);rw[Array.toList_append,Array.toList_append,Array.toList_reverse,Array.toList_extract (xs:=a),Array.toList_extract (xs:=b) (start:=0) (stop:=0)];show (a.toList.drop 0).take (na5-0)++(b.toList.drop 0).take (0-0)++_=_;simp[bk]
       rw[if_neg (by simpa using z6)];have r6:2<=k2/\k2<=b.size:=by omega
       generalize o5.push y++(b.extract k2 (nb-1)).reverse=o6 at j4 os2 ⊢;generalize k2=nb6 at j4 ku3 r6 ⊢
      case' neg=>
       rw[if_neg k3];have ek2:k2=nb-1:=by omega
       have r6:2<=k2/\k2<=b.size:=by omega
       have eo:o5.push y++(b.extract k2 (nb-1)).reverse=o5.push y:=Array.toList_inj.mp (by rw[Array.toList_append,G6 nb1 kn2,show nb-1-k2=0 by omega,List.take_zero,AAa]);rw[eo] at j4 os2;rw[ek2] at j4 ku3 r6;generalize o5.push y=o6 at j4 os2 ⊢;generalize nb-1=nb6 at j4 ku3 r6 ⊢
      all_goals
       obtain⟨y',e5,e6⟩:=Gk (a:=b) (n:=nb6) (by omega) r6.2;refine wpS_bind (el e1 ?_);have j5:=pushA j4 e2 e6 (ku3 y' (by rw[e6];exact AAP));by_cases z5:na5-1=0
       ·rw[if_pos (by simpa using z5)];exact wpS_pure ⟨sm4,.inl ⟨_,_,rfl,dn j5 z5⟩⟩
       rw[if_neg (by simpa using z5)];have os3:o'.size<=(o6.push x).size:=by rw[Array.size_push];omega
       split
       ·exact wpS_pure ⟨sm4,.inr ⟨_,_,_,_,_,_,rfl,j5,⟨by omega,by omega⟩,r6,os3⟩⟩
       ·exact wpS_pure ⟨sm4,_,_,_,_,_,_,rfl,j5,⟨by omega,by omega⟩,r6,os3⟩
   ·rintro c st3 ⟨sm3,h⟩;exact⟨sm3,.inr h⟩
   ·rintro c st3 ⟨sm3,h|⟨na,nb,o3,g,ac,bc,rfl,j,r1,r2,o4⟩⟩
    ·obtain⟨r,z,rfl,gd⟩:=h;dsimp only;exact wpS_pure ⟨sm3,r,_,rfl,gd⟩
    dsimp only;refine wpS_bind (wpS_modify (wpS_pure ?_));exact⟨sm3.trans ⟨rfl,rfl,rfl,rfl⟩,na,nb,o3,_,rfl,j,r1,r2,by omega⟩
 ·rintro c st' ⟨sm,na,nb,o,g,rfl,j,r1,r2,o1⟩;have:=lens j r1.2 r2.2;omega
 ·rintro c st' ⟨sm,r,z,rfl,gd⟩;dsimp only;exact wpS_pure (q _ _ gd sm)
end
theorem XZ:∀(m us q r:List Keyed) (a:Array Keyed) (s j:Nat),m.length=us.length->a.toList=q++us++r->q.length=s+j->((m.zipIdx j).foldl (λa p=>a.setIfInBounds (s+p.2) p.1) a).toList=q++m++r
 |[],[],q,r,a,s,j,_,h,_=>h
 |[],_::_,_,_,_,_,_,h,_,_=>by cases h
 |_::_,[],_,_,_,_,_,h,_,_=>by cases h
 |x::m,u::us,q,r,a,s,j,h,ha,hq=>by
  rw[List.zipIdx_cons,List.foldl_cons];have ih:=XZ m us (q++[x]) r (a.setIfInBounds (s+j) x) s (j+1) (by simpa using h) (by rw[Array.toList_setIfInBounds,ha,←hq,AAn,AAg _ _ (AAE _),Nat.sub_self,List.cons_append,List.set_cons_zero];simp) (by rw[AAG,hq];rfl);rw[ih];simp
section
variable{prog:Program}{w:World}{A:Around}{E:Value->Shared->Prop}{s:Shared}{kd:SortKind}{R:Keyed->Keyed->Bool}{S:Keyed->Prop}{st:SortSt}
theorem Su{st':SortSt}{Q:PUnit->SortSt->Prop}(h:Q ⟨⟩ st'):wpS (model prog w) A E s (set st':StateT SortSt Sem PUnit) Q st:=by
 unfold wpS;rw[StateT.run_set];exact AAB ⟨rfl,h⟩
theorem Mq{a:Array Keyed}{p x z:List Keyed}(h:a.toList=p++x++z){i:Nat}{u:Keyed}(e:x[i]?=some u):a[p.length+i]?=some u:=by
 have hi:=(AAT.mp e).1;rw[←Array.getElem?_toList,h,AAn,AAR (by omega),Nat.add_sub_cancel_left,AAS hi];exact e
theorem R8{l p x z:List Keyed}(h:l=p++x++z):(l.drop p.length).take x.length=x:=by
 rw[h,AAn,List.drop_left,List.take_left]
theorem UG{x:List Keyed}(h:x≠[]):∃u,x[x.length-1]?=some u/\u∈x:=⟨x.getLast h,by rw[←List.getLast?_eq_getElem?,List.getLast?_eq_some_getLast h],List.getLast_mem h⟩
theorem Nc{x:List Keyed}{u v:Keyed}(px:x.Pairwise (Lt R))(e:x[x.length-1]?=some u)(h:v∈x):v=u∨R v u=true:=by
 obtain⟨i,hi,rfl⟩:=List.mem_iff_getElem.mp h;rcases Nat.lt_or_ge i (x.length-1) with z|z
 ·right;have:=List.pairwise_iff_getElem.mp px i (x.length-1) hi (by omega) z;rw[AAu (by omega)] at e;cases e;exact this
 ·left;have:i=x.length-1:=by omega
  subst this;rw[AAu hi] at e;exact Option.some.inj e
theorem WJ(C:Cp prog w A E s kd R S)(hk:kindOf st=kd)(hf:failedOf st=none){T p x y z:List Keyed}(sT:∀u∈T,S u)(nT:T.Nodup)(ha:(arrOf st).toList=p++x++y++z)(hp:(arrOf st).toList.Perm T)(px:x.Pairwise (Lt R))(py:y.Pairwise (Lt R))(x0:x≠[])(y0:y≠[]){i pw pw':Nat}{Q:Bool->SortSt->Prop}
  (h1:(pendingOf st)[i]?=some (p.length,x.length,pw)) (h2:(pendingOf st)[i+1]?=some (p.length+x.length,y.length,pw'))
  (q:∀(st':SortSt) (m:List Keyed),kindOf st'=kd->failedOf st'=none->pendingOf st'=((pendingOf st).setIfInBounds i (p.length,x.length+y.length,pw)).eraseIdxIfInBounds (i+1)->(arrOf st').toList=p++m++z->m.Pairwise (Lt R)->m.Perm (x++y)->Q true st'):wpS (model prog w) A E s (mergeAt' i) Q st:=by
 have tr:∀{p q r:Keyed},Lt R p q->Lt R q r->Lt R p r:=λh g=>C.tr h g;have nd:(p++x++y++z).Nodup:=by rw[←ha];exact hp.nodup_iff.mpr nT
 have sx:∀u∈x,S u:=λu hu=>sT u (hp.mem_iff.mp (by rw[ha];simp[hu]));have sy:∀u∈y,S u:=λu hu=>sT u (hp.mem_iff.mp (by rw[ha];simp[hu]));have ne:∀u∈x,∀v∈y,u≠v:=λu hu v hv=>by
  have:=(List.nodup_append.mp (List.nodup_append.mp nd).1).2.2;exact this u (AAb _ hu) v hv
 have hax:(arrOf st).toList=p++x++(y++z):=by rw[ha];simp
 have hay:(arrOf st).toList=(p++x)++y++z:=ha;obtain⟨yh,yt,rfl⟩:∃yh yt,y=yh::yt:=by cases y with|nil=>exact absurd rfl y0|cons a b=>exact⟨a,b,rfl⟩
 obtain⟨py1,py2⟩:=AAz.mp py;have yle:∀v∈yh::yt,v=yh∨R yh v=true:=λv hv=>(AAI.mp hv).imp id (py1 v);have ey:=Mq (i:=0) (u:=yh) hay rfl;have lp:(p++x).length=p.length+x.length:=AAG;rw[Nat.add_zero,lp] at ey;obtain⟨xl,xe,xm⟩:=UG x0;have ex:=Mq (i:=x.length-1) hax xe;have xpos:0<x.length:=List.length_pos_iff.mpr x0;have cx:=R8 hax;have cy:=R8 hay;rw[lp] at cy;refine wpS_bind (wpS_get ?_);rw[h1,h2];dsimp only;refine wpS_bind (Su ?_);refine wpS_bind (el ey ?_);refine wpS_bind (D7 C (by exact hk) x cx rfl (λu hu=>⟨sx u hu,ne u hu yh AAP⟩) (sy yh AAP) px xpos λk kn ku kv=>?_);dsimp only;have asis:(∀u∈x,∀v∈yh::yt,R u v=true)->∀st':SortSt,kindOf st'=kd->failedOf st'=none->pendingOf st'=((pendingOf st).setIfInBounds i (p.length,x.length+(yh::yt).length,pw)).eraseIdxIfInBounds (i+1)->arrOf st'=arrOf st->Q true st':=λc st' a1 a2 a3 a4=>q st' (x++yh::yt) a1 a2 a3 (by rw[a4,ha];simp) (List.pairwise_append.mpr ⟨px,py,c⟩) (List.Perm.refl _);by_cases z1:x.length-k=0
 ·rw[if_pos (by simpa using z1)];refine wpS_pure (asis (λu hu v hv=>?_) _ hk hf rfl rfl);have:=ku u (by rw[List.take_of_length_le (by omega)];exact hu);rcases yle v hv with rfl|h
  ·exact this
  ·exact tr this h
 rw[if_neg (by simpa using z1)];rw[show p.length+k+(x.length-k)-1=p.length+(x.length-1) by omega];refine wpS_bind (el ex ?_);refine wpS_bind (D7 C (by exact hk) (yh::yt) cy rfl (λu hu=>⟨sy u hu,Ne.symm (ne xl xm u hu)⟩) (sx xl xm) py (by rw[AAH];omega) λk2 kn2 ku2 kv2=>?_);dsimp only;by_cases z2:k2=0
 ·rw[if_pos (by simpa using z2)];refine wpS_pure (asis (λu hu v hv=>?_) _ hk hf rfl rfl);have:=kv2 v (by rw[z2];exact hv);rcases Nc px xe hu with rfl|h
  ·exact this
  ·exact tr h this
 rw[if_neg (by simpa using z2)];have tx:((arrOf st).extract (p.length+k) (p.length+x.length)).toList=x.drop k:=by
  rw[show p.length+x.length=p.length+k+(x.length-k) by omega,GV,←List.drop_drop,hax,AAn,List.drop_left,List.drop_append_of_le_length kn];exact List.take_left' (by rw[List.length_drop])
 have ty:((arrOf st).extract (p.length+x.length) (p.length+x.length+k2)).toList=(yh::yt).take k2:=by
  rw[GV,hay,AAn (p++x),←lp,List.drop_left,List.take_append_of_le_length kn2]
 have kv':∀u∈x.drop k,R yh u=true:=kv;have fin:∀(r:Array Keyed) (st'':SortSt),Ea R (x.drop k++(yh::yt).take k2) r->Same (SortSt.mk' (kindOf st) (arrOf st) (((pendingOf st).setIfInBounds i (p.length,x.length+(yh::yt).length,pw)).eraseIdxIfInBounds (i+1)) (gallopOf st) (failedOf st)) st''->∀st3:SortSt,kindOf st3=kindOf st''->failedOf st3=failedOf st''->pendingOf st3=pendingOf st''->arrOf st3=(r.toList.zipIdx).foldl (λa p'=>a.setIfInBounds (p.length+k+p'.2) p'.1) (arrOf st'')->Q true st3:=λr st'' gd sm st3 b1 b2 b3 b4=>by
  have rl:r.toList.length=(x.drop k++(yh::yt).take k2).length:=gd.2.length_eq;have hq:(p++x.take k).length=p.length+k+0:=by rw[AAG,List.length_take];omega
  have e0:(arrOf st'').toList=(p++x.take k)++(x.drop k++(yh::yt).take k2)++((yh::yt).drop k2++z):=by
   rw[sm.2.1];show (arrOf st).toList=_;rw[ha];have e1:=List.take_append_drop k x;have e2:=List.take_append_drop k2 (yh::yt)
   calc p++x++(yh::yt)++z=p++(x.take k++x.drop k)++((yh::yt).take k2++(yh::yt).drop k2)++z:=by rw[e1,e2]
    _=_:=by simp only[AAn]
  have e3:=XZ r.toList _ _ _ (arrOf st'') (p.length+k) 0 rl e0 hq;refine q st3 (x.take k++r.toList++(yh::yt).drop k2) (b1.trans (sm.1.trans hk)) (b2.trans (sm.2.2.2.trans hf)) (b3.trans sm.2.2.1) (by rw[b4,e3];simp only[AAn]) ?_ ?_
  ·have mr:∀{v},v∈r.toList->v∈x.drop k∨v∈(yh::yt).take k2:=λhv=>AAJ.mp (gd.2.mem_iff.mp hv);have tk:∀u∈x.take k,∀v∈yh::yt,R u v=true:=λu hu v hv=>by
    rcases yle v hv with rfl|h
    ·exact ku u hu
    ·exact tr (ku u hu) h
   have xtd:∀u∈x.take k,∀v∈x.drop k,R u v=true:=by
    rw[←List.take_append_drop k x] at px;exact(List.pairwise_append.mp px).2.2
   have ytd:∀u∈(yh::yt).take k2,∀v∈(yh::yt).drop k2,R u v=true:=by
    rw[←List.take_append_drop k2 (yh::yt)] at py;exact(List.pairwise_append.mp py).2.2
   refine List.pairwise_append.mpr ⟨List.pairwise_append.mpr ⟨px.sublist (List.take_sublist _ _),gd.1,λu hu v hv=>?_⟩,py.sublist (List.drop_sublist _ _),λu hu v hv=>?_⟩
   ·rcases mr hv with h|h
    ·exact xtd u hu v h
    ·exact tk u hu v (List.mem_of_mem_take h)
   ·rcases AAJ.mp hu with h|h
    ·exact tk u h v (List.mem_of_mem_drop hv)
    ·rcases mr h with h|h
     ·rcases Nc px xe (List.mem_of_mem_drop h) with rfl|g
      ·exact kv2 v hv
      ·exact tr g (kv2 v hv)
     ·exact ytd u h v hv
  ·have:=((gd.2.append_left (x.take k)).append_right ((yh::yt).drop k2));refine this.trans ?_;rw[←AAn,List.take_append_drop,AAn,List.take_append_drop]
 have sx':∀u∈((arrOf st).extract (p.length+k) (p.length+x.length)).toList,S u:=λu hu=>sx u (List.mem_of_mem_drop (by rw[tx] at hu;exact hu));have sy':∀u∈((arrOf st).extract (p.length+x.length) (p.length+x.length+k2)).toList,S u:=λu hu=>sy u (List.mem_of_mem_take (by rw[ty] at hu;exact hu));have ne':∀u∈((arrOf st).extract (p.length+k) (p.length+x.length)).toList,∀v∈((arrOf st).extract (p.length+x.length) (p.length+x.length+k2)).toList,u≠v:=λu hu v hv=>ne u (List.mem_of_mem_drop (by rw[tx] at hu;exact hu)) v (List.mem_of_mem_take (by rw[ty] at hv;exact hv));have px':((arrOf st).extract (p.length+k) (p.length+x.length)).toList.Pairwise (Lt R):=by rw[tx];exact px.sublist (List.drop_sublist _ _)
 have py':((arrOf st).extract (p.length+x.length) (p.length+x.length+k2)).toList.Pairwise (Lt R):=by rw[ty];exact py.sublist (List.take_sublist _ _)
 have lx:((arrOf st).extract (p.length+k) (p.length+x.length)).size=x.length-k:=by rw[←Array.length_toList,tx,List.length_drop]
 have ly:((arrOf st).extract (p.length+x.length) (p.length+x.length+k2)).size=k2:=by rw[←Array.length_toList,ty,List.length_take];omega
 have lx0:0<((arrOf st).extract (p.length+k) (p.length+x.length)).size:=by rw[lx];omega
 have ly0:0<((arrOf st).extract (p.length+x.length) (p.length+x.length+k2)).size:=by rw[ly];omega
 have fy:∀v,((arrOf st).extract (p.length+x.length) (p.length+x.length+k2))[0]?=some v->v=yh:=λv e=>by
  rw[←Array.getElem?_toList,ty,List.getElem?_take_of_lt (by omega)] at e;exact(Option.some.inj e).symm
 have lxe:∀u,((arrOf st).extract (p.length+k) (p.length+x.length))[((arrOf st).extract (p.length+k) (p.length+x.length)).size-1]?=some u->u=xl:=λu e=>by
  rw[←Array.getElem?_toList,tx,lx,List.getElem?_drop,show k+(x.length-k-1)=x.length-1 by omega,xe] at e;exact(Option.some.inj e).symm
 have mx:∀{u},u∈((arrOf st).extract (p.length+k) (p.length+x.length)).toList->R yh u=true:=λhu=>kv' _ (by rw[tx] at hu;exact hu);have my:∀{u},u∈((arrOf st).extract (p.length+x.length) (p.length+x.length+k2)).toList->R u xl=true:=λhu=>ku2 _ (by rw[ty] at hu;exact hu);by_cases z3:x.length-k<=k2
 case' pos=>
  rw[if_pos z3];refine wpS_bind (WG C (by exact hk) sx' sy' ne' px' py' (by exact ly0) (by exact lx0) (λu v e1 e2=>?_) (λu e1 v hv=>?_) λr st'' gd sm=>?_)
  ·rw[fy v e2];exact mx (Array.mem_toList_iff.mpr (Array.mem_of_getElem? e1))
  ·rw[lxe u e1];exact my hv
 case' neg=>
  rw[if_neg z3];refine wpS_bind (WI C (by exact hk) sx' sy' ne' px' py' (by exact ly0) (by exact lx0) (λv e2 u hu=>?_) (λu v e1 e2=>?_) λr st'' gd sm=>?_)
  ·rw[fy v e2];exact mx hu
  ·rw[lxe u e1];exact my (Array.mem_toList_iff.mpr (Array.mem_of_getElem? e2))
 all_goals
  rw[tx,ty] at gd;refine wpS_bind (wpS_modify ?_);refine wpS_bind (wpS_get ?_);refine wpS_pure ?_;have fn:failedOf st''=none:=sm.2.2.2.trans hf;show Q (failedOf st'').isNone _;rw[fn];exact fin r st'' gd sm _ rfl rfl rfl rfl
end
def Kept(st st':SortSt):Prop:=kindOf st'=kindOf st/\pendingOf st'=pendingOf st/\failedOf st'=failedOf st
theorem Kept.rfl{st:SortSt}:Kept st st:=⟨Eq.refl _,Eq.refl _,Eq.refl _⟩
theorem up1{T:Keyed->Keyed->Prop}(tr:∀{p q r:Keyed},T p q->T q r->T p r){u:List Keyed}{n:Nat}{v w:Keyed}(h:(u.take n).Pairwise T)(ev:u[n]?=some v)(ew:u[n-1]?=some w)(c:T w v):(u.take (n+1)).Pairwise T:=by
 rw[List.take_add_one,ev];refine List.pairwise_append.mpr ⟨h,List.pairwise_singleton _ _,λa ha b hb=>?_⟩;rw[AAK.mp hb];obtain⟨i,hi,e⟩:=List.mem_iff_getElem.mp ha;have hl:=(AAT.mp ev).1;have hi':i<n:=by rw[List.length_take] at hi;omega
 rw[List.getElem_take] at e;rcases Nat.lt_or_ge i (n-1) with z|z
 ·have:=List.pairwise_iff_getElem.mp h i (n-1) hi (by rw[List.length_take];omega) z;rw[List.getElem_take,List.getElem_take,e] at this;rw[AAu (by omega)] at ew;cases ew;exact tr this c
 ·have:i=n-1:=by omega
  subst this;rw[AAu (by omega),e] at ew;cases ew;exact c
theorem Ia{a:Array Keyed}{p u:List Keyed}(h:a.toList=p++u){i:Nat}{v:Keyed}(e:u[i]?=some v):a[p.length+i]?=some v:=Mq (x:=u) (z:=[]) (by rw[AAa];exact h) e
theorem mir{a:Array Keyed}{p u:List Keyed}{n:Nat}(h:a.toList=p++u)(hn:n<=u.length):(mirror a p.length (p.length+n) ((p.length+n-p.length) / 2)).toList=p++((u.take n).reverse++u.drop n):=by
 have hs:a.size=p.length+u.length:=by rw[←Array.length_toList,h,AAG]
 refine List.ext_getElem? λk=>?_;rw[Array.getElem?_toList,getElem?_mirror_all (by omega)];rcases Nat.lt_or_ge k p.length with z|z
 ·rw[if_neg (by omega),←Array.getElem?_toList,h,AAS z,AAS z]
 ·rw[AAR z];rcases Nat.lt_or_ge k (p.length+n) with y|y
  ·rw[if_pos ⟨z,y⟩,←Array.getElem?_toList,h,AAR (by omega),AAS (by rw[List.length_reverse,List.length_take];omega),List.getElem?_reverse (by rw[List.length_take];omega),List.length_take,List.getElem?_take_of_lt (by omega)];congr 1;omega
  ·rw[if_neg (by omega),←Array.getElem?_toList,h,AAR z,AAR (by rw[List.length_reverse,List.length_take];omega),List.length_reverse,List.length_take,List.getElem?_drop];congr 1;omega
section
variable{prog:Program}{w:World}{A:Around}{E:Value->Shared->Prop}{s:Shared}{kd:SortKind}{R:Keyed->Keyed->Bool}{S:Keyed->Prop}{st:SortSt}
theorem lta(C:Cp prog w A E s kd R S)(hk:kindOf st=kd){i j:Nat}{x y:Keyed}{Q:Option Bool->SortSt->Prop}(h1:(arrOf st)[i]?=some x)(h2:(arrOf st)[j]?=some y)(sx:S x)(sy:S y)(q:Q (some (R x y)) st):wpS (model prog w) A E s (ltAt' i j) Q st:=by
 refine wpS_bind (wpS_get ?_);exact wpS_bind (el h1 (wpS_bind (el h2 (C.lt hk sx sy q))))
theorem Wn(C:Cp prog w A E s kd R S)(hk:kindOf st=kd){p u:List Keyed}(ha:(arrOf st).toList=p++u)(su:∀v∈u,S v)(nu:u.Nodup)(u0:u≠[]){Q:Option Nat->SortSt->Prop}
  (q:∀(st':SortSt) (n:Nat) (u':List Keyed),Kept st st'->(arrOf st').toList=p++u'->1<=n->n<=u.length->u'.Perm u->(u'.take n).Pairwise (Lt R)->Q (some n) st'):wpS (model prog w) A E s (countRun' p.length u.length) Q st:=by
 have tr:∀{p q r:Keyed},Lt R p q->Lt R q r->Lt R p r:=λh g=>C.tr h g;have up:0<u.length:=List.length_pos_iff.mpr u0;have at_:∀{u:List Keyed} {i:Nat},i<u.length->∃v,u[i]?=some v/\v∈u:=λ{u i} hi=>⟨u[i],AAu hi,List.getElem_mem hi⟩;have un:∀{u:List Keyed} {i j:Nat} {v w:Keyed},u.Nodup->u[i]?=some v->u[j]?=some w->i≠j->v≠w:=λ{u i j v w} nu e1 e2 ne z=>by
  obtain⟨h1,e1⟩:=AAT.mp e1;obtain⟨h2,e2⟩:=AAT.mp e2;exact ne ((List.getElem_inj nu).mp (e1.trans (z.trans e2.symm)))
 have one1:(u.take 1).Pairwise (Lt R):=by cases u with|nil=>exact .nil|cons a l=>exact List.pairwise_singleton _ _
 refine wpS_bind (wpS_mono (wpS_forRange (I:=λi c st'=>st'=st/\c=(none,i)/\1<=i/\(u.take i).Pairwise (Lt R)) (Q:=λc st'=>st'=st/\∃n,c=(none,n)/\1<=n/\n<=u.length/\(u.take n).Pairwise (Lt R)/\(n=u.length∨∃v w,u[n]?=some v/\u[n-1]?=some w/\R v w=true)) ?_ ?_ ⟨rfl,rfl,AAE _,one1⟩) ?_)
 ·rintro i c st' _ hi ⟨rfl,rfl,i1,pw⟩;dsimp only;obtain⟨v,e1,m1⟩:=at_ (u:=u) hi;obtain⟨x,e2,m2⟩:=at_ (u:=u) (i:=i-1) (by omega);refine wpS_bind (lta C hk (Ia ha e1) (by rw[show p.length+i-1=p.length+(i-1) by omega];exact Ia ha e2) (su v m1) (su x m2) ?_);cases c:R v x with
  |true=>exact wpS_pure ⟨rfl,i,rfl,i1,by omega,pw,.inr ⟨v,x,e1,e2,c⟩⟩
  |false=>exact wpS_pure ⟨rfl,rfl,by omega,up1 (T:=Lt R) tr pw e1 e2 (C.tot (su v m1) (su x m2) (un nu e1 e2 (by omega)) c)⟩
 ·rintro c st' ⟨rfl,rfl,i1,pw⟩;have:max 1 u.length=u.length:=by omega
  rw[this] at pw i1 ⊢;exact⟨rfl,_,rfl,i1,AAE _,pw,.inl rfl⟩
 rintro c st' ⟨rfl,n,rfl,n1,n2,pw,h⟩;dsimp only;by_cases z1:n=u.length
 ·rw[if_pos (by simpa using z1)];exact wpS_pure (q _ n u .rfl ha n1 n2 (List.Perm.refl _) pw)
 rw[if_neg (by simpa using z1)];by_cases z2:n > 1
 ·rw[if_pos z2];obtain⟨v,e1,m1⟩:=at_ (u:=u) up;obtain⟨x,e2,m2⟩:=at_ (u:=u) (i:=n-1) (by omega);have e1':=Ia ha e1;rw[Nat.add_zero] at e1';refine wpS_bind (lta C hk e1' (by rw[show p.length+n-1=p.length+(n-1) by omega];exact Ia ha e2) (su v m1) (su x m2) ?_);have:R v x=true:=by
   have:=List.pairwise_iff_getElem.mp pw 0 (n-1) (by rw[List.length_take];omega) (by rw[List.length_take];omega) (by omega);rw[List.getElem_take,List.getElem_take] at this;rw[AAu (by omega)] at e1 e2;cases e1;cases e2;exact this
  rw[this];exact wpS_pure (q _ n u .rfl ha n1 n2 (List.Perm.refl _) pw)
 rw[if_neg z2];have n1':n=1:=by omega
 subst n1';obtain⟨v,x,e1,e2,c1⟩:=h.resolve_left z1;have gt:∀{p q r:Keyed},Gt R p q->Gt R q r->Gt R p r:=λh g=>C.tr g h;have pg:(u.take 2).Pairwise (Gt R):=up1 (T:=Gt R) (n:=1) gt (by cases u with|nil=>exact .nil|cons a l=>exact List.pairwise_singleton _ _) e1 e2 c1;refine wpS_bind (wpS_lift (wpAny_rule ⟨rfl,?_⟩));refine wpS_bind (wpS_mono (wpS_forRange (I:=λi c st''=>st''=st'/\c=(none,i,0)/\2<=i/\(u.take i).Pairwise (Gt R)) (Q:=λc st''=>st''=st'/\∃n,c=(none,n,0)/\2<=n/\n<=u.length/\(u.take n).Pairwise (Gt R)) ?_ ?_ ⟨rfl,rfl,AAE _,pg⟩) ?_)
 ·rintro i c st'' _ hi ⟨rfl,rfl,i1,pw⟩;dsimp only;obtain⟨v,e1,m1⟩:=at_ (u:=u) hi;obtain⟨x,e2,m2⟩:=at_ (u:=u) (i:=i-1) (by omega);have g1:=Ia ha e1;have g2:(arrOf st'')[p.length+i-1]?=some x:=by rw[show p.length+i-1=p.length+(i-1) by omega];exact Ia ha e2
  refine wpS_bind (lta C hk g1 g2 (su v m1) (su x m2) ?_);cases c:R v x with
  |true=>exact wpS_pure ⟨rfl,rfl,by omega,up1 (T:=Gt R) gt pw e1 e2 c⟩
  |false=>
   dsimp only;rw[if_neg (by decide)];refine wpS_bind (lta C hk g2 g1 (su x m2) (su v m1) ?_);rw[C.tot (su v m1) (su x m2) (un nu e1 e2 (by omega)) c];exact wpS_pure ⟨rfl,i,rfl,i1,by omega,pw⟩
 ·rintro c st'' ⟨rfl,rfl,i1,pw⟩;have l2:2<=u.length:=(AAT.mp e1).1;have:max (1+1) u.length=u.length:=by omega
  rw[this] at pw i1 ⊢;exact⟨rfl,_,rfl,i1,AAE _,pw⟩
 rintro c st'' ⟨rfl,n,rfl,m1,m2,pw'⟩;dsimp only;rw[if_neg (by omega)];refine wpS_bind (wpS_modify ?_);have hm:=mir ha m2;have tk:((u.take n).reverse++u.drop n).take n=(u.take n).reverse:=List.take_left' (by rw[List.length_reverse,List.length_take];omega);have pm:((u.take n).reverse++u.drop n).Perm u:=((List.reverse_perm _).append_right _).trans (by rw[List.take_append_drop]);have pw2:(((u.take n).reverse++u.drop n).take n).Pairwise (Lt R):=by rw[tk];exact List.pairwise_reverse.mpr pw'
 have nu':=pm.nodup_iff.mpr nu;have su':∀v∈(u.take n).reverse++u.drop n,S v:=λv hv=>su v (pm.mem_iff.mp hv);have ln:=pm.length_eq;generalize (u.take n).reverse++u.drop n=u2 at hm pm pw2 nu' su' ln;have kp:Kept st'' (setArr st'' (mirror (arrOf st'') p.length (p.length+n) ((p.length+n-p.length) / 2))):=⟨rfl,rfl,rfl⟩;have hk2:kindOf (setArr st'' (mirror (arrOf st'') p.length (p.length+n) ((p.length+n-p.length) / 2)))=kd:=hk;show wpS _ _ _ _ _ _ (setArr st'' (mirror (arrOf st'') p.length (p.length+n) ((p.length+n-p.length) / 2)));have hm2:(arrOf (setArr st'' (mirror (arrOf st'') p.length (p.length+n) ((p.length+n-p.length) / 2)))).toList=p++u2:=hm;generalize setArr st'' (mirror (arrOf st'') p.length (p.length+n) ((p.length+n-p.length) / 2))=st2 at kp hk2 hm2;refine wpS_bind (wpS_mono (wpS_forRange (I:=λi c st3=>st3=st2/\c=(none,i)/\1<=i/\(u2.take i).Pairwise (Lt R)) (Q:=λc st3=>st3=st2/\∃n,c=(none,n)/\1<=n/\n<=u.length/\(u2.take n).Pairwise (Lt R)) ?_ ?_ ⟨rfl,rfl,by omega,pw2⟩) ?_)
 ·rintro i c st3 _ hi ⟨rfl,rfl,i1,pw⟩;dsimp only;obtain⟨v,e1,m1⟩:=at_ (u:=u2) (i:=i) (by omega);obtain⟨x,e2,m2⟩:=at_ (u:=u2) (i:=i-1) (by omega);refine wpS_bind (lta C hk2 (Ia hm2 e1) (by rw[show p.length+i-1=p.length+(i-1) by omega];exact Ia hm2 e2) (su' v m1) (su' x m2) ?_);cases c:R v x with
  |true=>exact wpS_pure ⟨rfl,i,rfl,i1,by omega,pw⟩
  |false=>exact wpS_pure ⟨rfl,rfl,by omega,up1 (T:=Lt R) tr pw e1 e2 (C.tot (su' v m1) (su' x m2) (un nu' e1 e2 (by omega)) c)⟩
 ·rintro c st3 ⟨rfl,rfl,i1,pw⟩;have:max n u.length=u.length:=by omega
  rw[this] at pw i1 ⊢;exact⟨rfl,_,rfl,i1,AAE _,pw⟩
 rintro c st3 ⟨rfl,n3,rfl,k1,k2,pw3⟩;exact wpS_pure (q _ n3 u2 kp hm2 k1 k2 pm pw3)
end
noncomputable def ins(u:List Keyed)(k m:Nat)(v:Keyed):List Keyed:=u.take m++v::((u.take k).drop m++u.drop (k+1))
theorem bub{a:Array Keyed}{p u:List Keyed}{k m:Nat}{v:Keyed}(h:a.toList=p++u)(ev:u[k]?=some v)(hm:m<=k):(bubble a (p.length+k) (p.length+k-(p.length+m))).toList=p++ins u k m v:=by
 have hk:=(AAT.mp ev).1;have hs:a.size=p.length+u.length:=by rw[←Array.length_toList,h,AAG]
 have A:∀i,a[i]?=if i<p.length then p[i]? else u[i-p.length]?:=λi=>by
  rw[←Array.getElem?_toList,h];split
  ·rename_i z;rw[AAS z]
  ·rename_i z;rw[AAR (by omega)]
 refine List.ext_getElem? λj=>?_;rw[Array.getElem?_toList,getElem?_bubble (by omega) _ (by omega),A,A,A];unfold ins;rcases Nat.lt_or_ge j p.length with z|z
 ·rw[AAS z,if_neg (by omega),if_neg (by omega),if_pos z]
 ·rw[AAR z];obtain⟨i,rfl⟩:∃i,j=p.length+i:=⟨j-p.length,by omega⟩;rw[show p.length+i-p.length=i by omega,show p.length+k-p.length=k by omega];have l1:(u.take m).length=m:=by rw[List.length_take];omega
  have l2:((u.take k).drop m).length=k-m:=by rw[List.length_drop,List.length_take];omega
  rcases Nat.lt_or_ge i m with y|y
  ·rw[AAS (by omega),List.getElem?_take_of_lt y,if_neg (by omega),if_neg (by omega),if_neg (by omega)]
  ·rw[AAR (by omega),l1];by_cases e:i=m
   ·subst e;rw[Nat.sub_self,List.getElem?_cons_zero,if_pos (by omega),if_neg (by omega)];exact ev
   ·obtain⟨t,rfl⟩:∃t,i=m+(t+1):=⟨i-m-1,by omega⟩;rw[show m+(t+1)-m=t+1 by omega,List.getElem?_cons_succ,if_neg (by omega)];rcases Nat.lt_or_ge t (k-m) with x|x
    ·rw[AAS (by omega),List.getElem?_drop,List.getElem?_take_of_lt (by omega),if_pos (by omega),if_neg (by omega)];congr 1;omega
    ·rw[AAR (by omega),l2,List.getElem?_drop,if_neg (by omega),if_neg (by omega)];congr 1;omega
theorem RZ{u:List Keyed}{k m:Nat}{v:Keyed}(ev:u[k]?=some v)(hm:m<=k):(ins u k m v).Perm u:=by
 obtain⟨hk,e⟩:=AAT.mp ev;have h1:u=u.take k++v::u.drop (k+1):=by rw[←e,←List.drop_eq_getElem_cons hk,List.take_append_drop]
 have h2:u.take k=u.take m++(u.take k).drop m:=by
  have:=List.take_append_drop m (u.take k);rw[List.take_take,Nat.min_eq_left hm] at this;exact this.symm
 have h3:u=u.take m++((u.take k).drop m++v::u.drop (k+1)):=by
  rw[←AAn,←h2];exact h1
 unfold ins;refine List.Perm.trans ?_ (List.Perm.of_eq h3.symm);exact List.Perm.append_left _ List.perm_middle.symm
section
variable{prog:Program}{w:World}{A:Around}{E:Value->Shared->Prop}{s:Shared}{kd:SortKind}{R:Keyed->Keyed->Bool}{S:Keyed->Prop}{st:SortSt}
theorem Kept.trans{a b c:SortSt}(h:Kept a b)(g:Kept b c):Kept a c:=⟨g.1.trans h.1,g.2.1.trans h.2.1,g.2.2.trans h.2.2⟩
theorem Wp(C:Cp prog w A E s kd R S)(hk:kindOf st=kd){p u:List Keyed}(ha:(arrOf st).toList=p++u)(su:∀v∈u,S v)(nu:u.Nodup){n ok:Nat}(o1:1<=ok)(on:ok<=n)(nl:n<=u.length)(pw:(u.take ok).Pairwise (Lt R)){Q:Bool->SortSt->Prop}
  (q:∀(st':SortSt) (u':List Keyed),Kept st st'->(arrOf st').toList=p++u'->u'.Perm u->(u'.take n).Pairwise (Lt R)->Q true st'):wpS (model prog w) A E s (binarySort' p.length n ok) Q st:=by
 have tr:∀{p q r:Keyed},Lt R p q->Lt R q r->Lt R p r:=λh g=>C.tr h g;refine wpS_bind (wpS_mono (wpS_forRange (I:=λk c st'=>c=(none,())/\Kept st st'/\∃u',(arrOf st').toList=p++u'/\u'.Perm u/\(u'.take k).Pairwise (Lt R)) (Q:=λc st'=>c=(none,())/\Kept st st'/\∃u',(arrOf st').toList=p++u'/\u'.Perm u/\(u'.take n).Pairwise (Lt R)) ?_ ?_ ⟨rfl,.rfl,u,ha,List.Perm.refl _,by rw[Nat.max_eq_left o1];exact pw⟩) ?_)
 ·rintro k c st' k1 kn ⟨rfl,kp,u',ha',pm,pw'⟩;dsimp only;have hk':kindOf st'=kd:=kp.1.trans hk;have ln:=pm.length_eq;have nu':=pm.nodup_iff.mpr nu;have su':∀v∈u',S v:=λv hv=>su v (pm.mem_iff.mp hv);have hkl:k<u'.length:=by omega
  obtain⟨v,ev,mv⟩:∃v,u'[k]?=some v/\v∈u':=⟨u'[k],AAu hkl,List.getElem_mem hkl⟩;have at_:∀{i:Nat},i<k->∃x,u'[i]?=some x/\x∈u'/\x≠v:=λ{i} hi=>⟨u'[i],AAu (by omega),List.getElem_mem _,λz=>by
   obtain⟨h1,e1⟩:=AAT.mp ev;have:=(List.getElem_inj nu').mp (z.trans e1.symm);omega⟩
  have ord:∀{i j:Nat} {x y:Keyed},i<j->j<k->u'[i]?=some x->u'[j]?=some y->R x y=true:=λ{i j x y} h1 h2 e1 e2=>by
   have:=List.pairwise_iff_getElem.mp pw' i j (by rw[List.length_take];omega) (by rw[List.length_take];omega) h1;rw[List.getElem_take,List.getElem_take] at this;rw[AAu (by omega)] at e1 e2;cases e1;cases e2;exact this
  refine wpS_bind (wpS_mono (wpS_forRange (I:=λi c st''=>st''=st'/\∃l r,c=(none,l,r)/\l<=r/\r<=k/\r-l<=k-i/\(∀j x,j<l->u'[j]?=some x->R x v=true)/\(∀j x,r<=j->j<k->u'[j]?=some x->R v x=true)) (Q:=λc st''=>st''=st'/\∃l,c=(none,l,l)/\l<=k/\(∀j x,j<l->u'[j]?=some x->R x v=true)/\(∀j x,l<=j->j<k->u'[j]?=some x->R v x=true)) ?_ ?_ ⟨rfl,0,k,rfl,AAl _,AAE _,by omega,(λj x h=>absurd h (Nat.not_lt_zero j)),λj x h1 h2=>by omega⟩) ?_)
  ·rintro i c st'' _ hi ⟨rfl,l,r,rfl,h1,h2,h3,h4,h5⟩;dsimp only;by_cases z:l ≥ r
   ·rw[if_pos z];have:l=r:=by omega
    subst this;exact wpS_pure ⟨rfl,l,rfl,h2,h4,h5⟩
   ·rw[if_neg z];obtain⟨x,e1,m1,ne⟩:=at_ (i:=(l+r) / 2) (by omega);refine wpS_bind (lta C hk' (Ia ha' ev) (Ia ha' e1) (su' v mv) (su' x m1) ?_);cases c:R v x with
    |true=>
     refine wpS_pure ⟨rfl,l,_,rfl,by omega,by omega,by omega,h4,λj y j1 j2 ey=>?_⟩;rcases Nat.lt_or_ge ((l+r) / 2) j with t|t
     ·exact tr c (ord t j2 e1 ey)
     ·have:j=(l+r) / 2:=by omega
      subst this;rw[e1] at ey;cases ey;exact c
    |false=>
     have c':=C.tot (su' v mv) (su' x m1) (Ne.symm ne) c;refine wpS_pure ⟨rfl,_,r,rfl,by omega,h2,by omega,λj y j1 ey=>?_,h5⟩;rcases Nat.lt_or_ge j ((l+r) / 2) with t|t
     ·exact tr (ord t (by omega) ey e1) c'
     ·have:j=(l+r) / 2:=by omega
      subst this;rw[e1] at ey;cases ey;exact c'
  ·rintro c st'' ⟨rfl,l,r,rfl,h1,h2,h3,h4,h5⟩;have:l=r:=by omega
   subst this;exact⟨rfl,l,rfl,h2,h4,h5⟩
  ·rintro c st'' ⟨rfl,m,rfl,h2,h4,h5⟩;dsimp only;refine wpS_bind (wpS_modify (wpS_pure ?_));refine⟨rfl,kp.trans ⟨rfl,rfl,rfl⟩,ins u' k m v,bub ha' ev h2,(RZ ev h2).trans pm,?_⟩;have l1:(u'.take m).length=m:=by rw[List.length_take];omega
   have l2:((u'.take k).drop m).length=k-m:=by rw[List.length_drop,List.length_take];omega
   have tk:(ins u' k m v).take (k+1)=u'.take m++v::(u'.take k).drop m:=by
    unfold ins;rw[←List.cons_append,←AAn];exact List.take_left' (by rw[AAG,AAH,l1,l2];omega)
   rw[tk];have sp:(u'.take m++(u'.take k).drop m).Pairwise (Lt R):=by
    have:=List.take_append_drop m (u'.take k);rw[List.take_take,Nat.min_eq_left h2] at this;rw[this];exact pw'
   obtain⟨s1,s2,s3⟩:=List.pairwise_append.mp sp;have f1:∀a∈u'.take m,R a v=true:=λa ma=>by
    obtain⟨i,hi,e⟩:=List.mem_iff_getElem.mp ma;rw[List.getElem_take] at e;exact h4 i a (by omega) (by rw[AAu (by omega),e])
   have f2:∀a∈(u'.take k).drop m,R v a=true:=λa ma=>by
    obtain⟨i,hi,e⟩:=List.mem_iff_getElem.mp ma;rw[List.getElem_drop,List.getElem_take] at e;exact h5 (m+i) a (by omega) (by omega) (by rw[AAu (by omega),e])
   refine List.pairwise_append.mpr ⟨s1,AAz.mpr ⟨f2,s2⟩,λa ma b mb=>?_⟩;rcases AAI.mp mb with rfl|mb
   ·exact f1 a ma
   ·exact s3 a ma b mb
 ·rintro c st' ⟨rfl,kp,u',ha',pm,pw'⟩;refine⟨rfl,kp,u',ha',pm,?_⟩;rw[show max (max ok 1) n=n by omega] at pw';exact pw'
 ·rintro c st' ⟨rfl,kp,u',ha',pm,pw'⟩;exact wpS_pure (q st' u' kp ha' pm pw')
end
noncomputable def DV:Nat->List (List Keyed)->List (Nat×Nat)
 |_,[]=>[]
 |o,r::rs=>(o,r.length)::DV (o+r.length) rs
theorem FW:∀(o:Nat) (rs:List (List Keyed)),(DV o rs).length=rs.length
 |_,[]=>rfl
 |o,r::rs=>congrArg (·+1) (FW (o+r.length) rs)
theorem ED:∀(o:Nat) (a b:List (List Keyed)),DV o (a++b)=DV o a++DV (o+a.flatten.length) b
 |_,[],_=>rfl
 |o,r::a,b=>by
  show _::DV _ (a++b)=_::(DV _ a++_);rw[ED (o+r.length) a b,List.flatten_cons,AAG,Nat.add_assoc]
noncomputable abbrev k2(t:Nat×Nat×Nat):Nat×Nat:=(t.1,t.2.1)
structure Iv(kd:SortKind)(R:Keyed->Keyed->Bool)(T:List Keyed)(st:SortSt)(rs:List (List Keyed))(rest:List Keyed):Prop where
 kd:kindOf st=kd
 fl:failedOf st=none
 pm:(arrOf st).toList.Perm T
 ar:(arrOf st).toList=rs.flatten++rest
 pd:(pendingOf st).toList.map k2=DV 0 rs
 sr:∀r∈rs,r≠[]/\r.Pairwise (Lt R)
section
variable{prog:Program}{w:World}{A:Around}{E:Value->Shared->Prop}{s:Shared}{kd:SortKind}{R:Keyed->Keyed->Bool}{S:Keyed->Prop}{st:SortSt}{T rest:List Keyed}{rs:List (List Keyed)}
theorem Iv.size(v:Iv kd R T st rs rest):(pendingOf st).size=rs.length:=by
 have:=congrArg List.length v.pd;rw[AAF,FW,Array.length_toList] at this;exact this
theorem Jw{α:Type}{l:List α}{i:Nat}(h:i+1<l.length):∃a x y b,l=a++x::y::b/\a.length=i/\l[i]?=some x/\l[i+1]?=some y:=by
 refine⟨l.take i,l[i],l[i+1],l.drop (i+2),?_,by rw[List.length_take];omega,AAu _,AAu _⟩;rw[←List.drop_eq_getElem_cons,←List.drop_eq_getElem_cons,List.take_append_drop]
theorem O1{α:Type}{a b:List α}{x y z:α}:((a++x::y::b).set a.length z).eraseIdx (a.length+1)=a++z::b:=by
 rw[AAg _ _ (AAE _),Nat.sub_self,List.set_cons_zero,List.eraseIdx_append_of_length_le (by omega),Nat.add_sub_cancel_left];rfl
theorem Xx(C:Cp prog w A E s kd R S)(sT:∀u∈T,S u)(nT:T.Nodup)(v:Iv kd R T st rs rest){i:Nat}(hi:i+1<rs.length){Q:Bool->SortSt->Prop}(q:∀st' rs',Iv kd R T st' rs' rest->rs'.flatten.length=rs.flatten.length->rs'.length+1=rs.length->Q true st'):wpS (model prog w) A E s (mergeAt' i) Q st:=by
 obtain⟨a,x,y,b,e,al,_,_⟩:=Jw hi;subst e;obtain⟨pa,p1,p2,pb,e,pl,g1,g2⟩:=Jw (l:=(pendingOf st).toList) (i:=i) (by rw[Array.length_toList,v.size];exact hi);have pd:=v.pd;rw[e,ED,AAX] at pd;obtain⟨d1,d2⟩:=List.append_inj pd (by rw[AAF,FW];omega);rw[Nat.zero_add,AAW,AAW] at d2;obtain⟨d3,d4⟩:=List.cons.inj d2;obtain⟨d4,d5⟩:=List.cons.inj d4;obtain⟨a1,a2,a3⟩:=p1;obtain⟨b1,b2,b3⟩:=p2;cases d3;cases d4;obtain⟨x0,px⟩:=v.sr x (by simp);obtain⟨y0,py⟩:=v.sr y (by simp);have ar:=v.ar;rw[List.flatten_append,List.flatten_cons,List.flatten_cons] at ar;refine WJ C v.kd v.fl sT nT (p:=a.flatten) (x:=x) (y:=y) (z:=b.flatten++rest) (by rw[ar];simp only[AAn]) v.pm px py x0 y0 (by rw[←Array.getElem?_toList];exact g1) (by rw[←Array.getElem?_toList];exact g2) λst' m h1 h2 h3 h4 h5 h6=>?_;have lm:m.length=x.length+y.length:=by have:=h6.length_eq;rw[AAG] at this;exact this
 refine q st' (a++m::b) ⟨h1,h2,?_,by rw[h4,List.flatten_append,List.flatten_cons];simp only[AAn],?_,λr hr=>?_⟩ ?_ ?_
 ·refine List.Perm.trans ?_ v.pm;rw[h4,ar];have:=((h6.append_left a.flatten).append_right (b.flatten++rest));refine this.trans (List.Perm.of_eq ?_);simp only[AAn]
 ·rw[h3,Array.toList_eraseIdxIfInBounds,Array.toList_setIfInBounds,e,←pl,O1,ED,AAX,AAW,d1];show _=DV 0 a++(_,m.length)::DV _ b;rw[lm,Nat.zero_add,←Nat.add_assoc,←d5]
 ·rcases AAJ.mp hr with z|z
  ·exact v.sr r (AAc _ z)
  ·rcases AAI.mp z with rfl|z
   ·exact⟨λe=>by rw[e] at lm;exact x0 (List.eq_nil_of_length_eq_zero (by simp at lm;omega)),h5⟩
   ·exact v.sr r (by simp[z])
 ·rw[List.flatten_append,List.flatten_cons,List.flatten_append,List.flatten_cons,List.flatten_cons];simp only[AAG];omega
 ·rw[AAG,AAG,AAH,AAH,AAH];omega
end
section
variable{prog:Program}{w:World}{A:Around}{E:Value->Shared->Prop}{s:Shared}{kd:SortKind}{R:Keyed->Keyed->Bool}{S:Keyed->Prop}{st:SortSt}{T rest:List Keyed}{rs:List (List Keyed)}
theorem k2_modify{a:Array (Nat×Nat×Nat)}{i pw:Nat}:(a.modify i λx=>(x.1,x.2.1,pw)).toList.map k2=a.toList.map k2:=by
 rw[Array.toList_modify];refine List.ext_getElem? λj=>?_;rw[AAV,AAV,List.getElem?_modify];cases a.toList[j]? with
 |none=>rfl
 |some t=>
  by_cases e:i=j
  ·subst e;simp
  ·simp[e]
theorem Nn:∀{rs:List (List Keyed)},(∀r∈rs,r≠[]/\r.Pairwise (Lt R))->rs.length<=rs.flatten.length
 |[],_=>AAE _
 |r::rs,h=>by
  have ih:=Nn λx hx=>h x (AAQ _ hx);have:=List.length_pos_iff.mpr (h r AAP).1;rw[List.flatten_cons,AAG,AAH];omega
theorem sort_of(C:Cp prog w A E s kd R S)(hk:kindOf st=kd)(hf:failedOf st=none)(hp:pendingOf st=#[])(ha:(arrOf st).toList=T)(sT:∀u∈T,S u)(nT:T.Nodup){Q:Unit->SortSt->Prop}
  (q:∀st',(arrOf st').toList.Perm T->(arrOf st').toList.Pairwise (Lt R)->failedOf st'=none->Q () st'):wpS (model prog w) A E s sortRuns' Q st:=by
 have sz:(arrOf st).size=T.length:=by rw[←Array.length_toList,ha]
 have fl:∀{st:SortSt} {rs:List (List Keyed)} {rest:List Keyed},Iv kd R T st rs rest->rs.flatten.length+rest.length=T.length:=λ{st rs rest} v=>by
  have:=v.pm.length_eq;rw[v.ar,AAG] at this;exact this
 refine wpS_bind (wpS_get ?_);dsimp only;rw[sz];generalize (sortPriv% PySem.Builtin.minRun) T.length T.length 0=mr;refine wpS_bind (wpS_mono (wpS_forRange (I:=λi c st'=>∃rs rest,c=(none,rs.flatten.length)/\Iv kd R T st' rs rest/\i<=rs.flatten.length) (Q:=λc st'=>∃rs,c=(none,T.length)/\Iv kd R T st' rs []) ?_ ?_ ⟨[],T,rfl,⟨hk,hf,by rw[ha],ha,by rw[hp];rfl,(λr h=>nomatch h)⟩,AAE _⟩) ?_)
 ·rintro i c st' _ hi ⟨rs,rest,rfl,v,il⟩;dsimp only;have ft:=fl v;by_cases z:rs.flatten.length ≥ T.length
  ·rw[if_pos z];have r0:rest=[]:=List.eq_nil_of_length_eq_zero (by omega);subst r0;rw[List.length_nil] at ft;exact wpS_pure ⟨rs,by rw[←ft,Nat.add_zero],v⟩
  rw[if_neg z];have rne:rest≠[]:=λe=>by rw[e,List.length_nil] at ft;omega
  have lr:T.length-rs.flatten.length=rest.length:=by omega
  have nd:(rs.flatten++rest).Nodup:=by rw[←v.ar];exact v.pm.nodup_iff.mpr nT
  have sr:∀u∈rest,S u:=λu hu=>sT u (v.pm.mem_iff.mp (by rw[v.ar];exact AAb _ hu));have nr:=(List.nodup_append.mp nd).2.1;have cont:∀{st1:SortSt} {u:List Keyed},Kept st' st1->(arrOf st1).toList=rs.flatten++u->u.Perm rest->Iv kd R T st1 rs u:=λ{st1 u} kp h1 h2=>⟨kp.1.trans v.kd,kp.2.2.trans v.fl,by rw[h1];exact((h2.append_left rs.flatten).trans (by rw[←v.ar])).trans v.pm,h1,by rw[kp.2.1];exact v.pd,v.sr⟩;have psh:∀{st5:SortSt} {rs5:List (List Keyed)} {u:List Keyed} {n:Nat},Iv kd R T st5 rs5 u->rs5.flatten.length=rs.flatten.length->1<=n->n<=u.length->(u.take n).Pairwise (Lt R)->∃rs6 rest6,((none:Option Unit),rs.flatten.length+n)=(none,List.length (List.flatten rs6))/\Iv kd R T (SortSt.mk' (kindOf st5) (arrOf st5) ((pendingOf st5).push (rs.flatten.length,n,0)) (gallopOf st5) (failedOf st5)) rs6 rest6/\i+1<=(List.flatten rs6).length:=λ{st5 rs5 u n} v5 l5 n1 n2 pw=>by
   have lt:(u.take n).length=n:=by rw[List.length_take];omega
   have lf:(rs5++[u.take n]).flatten.length=rs.flatten.length+n:=by rw[List.flatten_append,AAG,List.flatten_cons,List.flatten_nil,AAa,lt,l5]
   refine⟨rs5++[u.take n],u.drop n,by rw[lf],⟨v5.kd,v5.fl,v5.pm,?_,?_,λr hr=>?_⟩,by rw[lf];omega⟩
   ·show (arrOf st5).toList=_;rw[v5.ar,List.flatten_append,List.flatten_cons,List.flatten_nil,AAa,AAn,List.take_append_drop]
   ·show ((pendingOf st5).push (rs.flatten.length,n,0)).toList.map k2=_;rw[Array.toList_push,AAX,v5.pd,ED,Nat.zero_add,l5];show _=DV 0 rs5++[(_,(u.take n).length)];rw[lt];rfl
   ·rcases AAJ.mp hr with y|y
    ·exact v5.sr r y
    ·rw[AAK.mp y];exact⟨λe=>by rw[e] at lt;simp at lt;omega,pw⟩
  rw[lr];refine wpS_bind (Wn C v.kd v.ar sr nr rne λst1 n u kp h1 n1 n2 pm pw=>?_);dsimp only;have v1:=cont kp h1 pm;have lu:u.length=rest.length:=pm.length_eq;have n2:n<=u.length:=by omega
  by_cases z2:n<mr
  case' pos=>
   rw[if_pos z2];refine wpS_bind (wpS_lift (wpAny_rule ⟨rfl,?_⟩));refine wpS_bind (Wp C v1.kd h1 (λx hx=>sr x (pm.mem_iff.mp hx)) (pm.nodup_iff.mpr nr) n1 (by omega) (by omega) pw λst1 u kp2 h2 pm2 pw=>?_);rw[if_neg (by decide)];have v1:=cont (kp.trans kp2) h2 (pm2.trans pm);have lu2:=pm2.length_eq;have n2:min rest.length mr<=u.length:=by omega
   have n1:1<=min rest.length mr:=by omega
   generalize min rest.length mr=n at n1 n2 pw ⊢
  case' neg=>rw[if_neg z2]
  all_goals
   refine wpS_bind (wpS_get ?_);cases hb:(pendingOf st1).back? with
   |none=>
    exact wpS_bind (wpS_modify (wpS_pure (psh v1 rfl n1 n2 pw)))
   |some t=>
    obtain⟨s1,m1,x⟩:=t;dsimp only;refine wpS_bind (wpS_mono (wpS_forRange (I:=λ_ c st3=>c=(none,())/\∃rs',Iv kd R T st3 rs' u/\rs'.flatten.length=rs.flatten.length) (Q:=λc st3=>c=(none,())/\∃rs',Iv kd R T st3 rs' u/\rs'.flatten.length=rs.flatten.length) ?_ (λc st3 h=>h) ⟨rfl,rs,v1,rfl⟩) ?_)
    ·rintro i' c st3 _ _ ⟨rfl,rs',v',l'⟩;refine wpS_bind (wpS_get ?_);have ps:=v'.size;by_cases y:(pendingOf st3).size > 1
     ·rw[if_pos y];rw[show (pendingOf st3)[(pendingOf st3).size-2]?=some (pendingOf st3)[(pendingOf st3).size-2] from Array.getElem?_eq_getElem _];dsimp only;split
      ·exact wpS_pure ⟨rfl,rs',v',l'⟩
      ·refine wpS_bind (Xx C sT nT v' (by show (pendingOf st3).size-2+1<_;omega) λst4 rs4 v4 l4 _=>?_);rw[if_neg (by decide)];exact wpS_pure ⟨rfl,rs4,v4,l4.trans l'⟩
     ·rw[if_neg y];exact wpS_pure ⟨rfl,rs',v',l'⟩
    ·rintro c st3 ⟨rfl,rs',v',l'⟩;dsimp only;refine wpS_bind (wpS_modify ?_);refine wpS_bind (wpS_modify (wpS_pure ?_));exact psh (st5:=SortSt.mk' (kindOf st3) (arrOf st3) ((pendingOf st3).modify ((pendingOf st3).size-1) λx=>(x.1,x.2.1,_)) (gallopOf st3) (failedOf st3)) ⟨v'.kd,v'.fl,v'.pm,v'.ar,k2_modify.trans v'.pd,v'.sr⟩ l' n1 n2 pw
 ·rintro c st' ⟨rs,rest,rfl,v,il⟩;have ft:=fl v;have r0:rest=[]:=List.eq_nil_of_length_eq_zero (by omega);subst r0;rw[List.length_nil] at ft;exact⟨rs,by rw[←ft,Nat.add_zero],v⟩
 rintro c st' ⟨rs,rfl,v⟩;dsimp only;have ft:=fl v;refine wpS_bind (wpS_mono (wpS_forRange (I:=λi c st''=>c=(none,())/\∃rs,Iv kd R T st'' rs []/\(rs.length<=1∨rs.length+i<=T.length)) (Q:=λc st''=>c=(none,())/\∃rs,Iv kd R T st'' rs []/\rs.length<=1) ?_ ?_ ⟨rfl,rs,v,.inr (by have:=Nn v.sr;rw[List.length_nil] at ft;omega)⟩) ?_)
 ·rintro i c st'' _ hi ⟨rfl,rs,v,h⟩;refine wpS_bind (wpS_get ?_);have ps:=v.size;by_cases z:(pendingOf st'').size<=1
  ·rw[if_pos z];exact wpS_pure ⟨rfl,rs,v,by omega⟩
  rw[if_neg z];refine wpS_bind (Xx C sT nT v ?_ λst3 rs3 v3 l1 l2=>?_)
  ·have:∀(c:Bool),(if c=true then (pendingOf st'').size-2-1 else (pendingOf st'').size-2)+1<rs.length:=λc=>by cases c<;>simp<;>omega
   exact this _
  ·rw[if_neg (by decide)];exact wpS_pure ⟨rfl,rs3,v3,by omega⟩
 ·rintro c st'' ⟨rfl,rs,v,h⟩;exact⟨rfl,rs,v,by omega⟩
 ·rintro c st'' ⟨rfl,rs,v,h⟩;refine wpS_pure (q st'' v.pm ?_ v.fl);rw[v.ar,AAa]
  match rs,h,v.sr with
  |[],_,_=>exact .nil
  |[r],_,sr=>rw[List.flatten_cons,List.flatten_nil,AAa];exact(sr r AAP).2
end
end Tm
namespace Nk
open PySem PySem.Spec PyProof.Rows HT
open Classical in
noncomputable def cd(h:Heap)(ks:List Cs)(v:Value):Cs:=if z:∃k,k∈ks/\At h (csK k) v then choose z else Yy
theorem N4{h:Heap}{ks:List Cs}{v:Value}{k:Cs}(m:k∈ks)(a:At h (csK k) v):cd h ks v=k:=by
 have z:∃k,k∈ks/\At h (csK k) v:=⟨k,m,a⟩;unfold cd;rw[dif_pos z];exact F8 (At.inj (Classical.choose_spec z).2 a)
theorem Ats.cds{h g:Heap}{ks:List Cs}(kp:∀k v,At h k v->At g k v):∀{js:List Cs} {vs:List Value},(∀j∈js,j∈ks)->Ats h (js.map csK) vs->vs.map (cd g ks)=js
 |[],_,_,a=>by
  unfold List.map Ats at a;subst a;rfl
 |j::js,_,m,a=>by
  unfold List.map Ats at a;obtain⟨v,vs,rfl,a1,a2⟩:=a;rw[AAW,N4 (m j AAP) (kp _ _ a1),Ats.cds kp (λx hx=>m x (AAQ _ hx)) a2]
theorem Ats.mem{h:Heap}{ks:List Cs}{vs:List Value}(a:Ats h (ks.map csK) vs){v:Value}(hv:v∈vs):∃k∈ks,At h (csK k) v:=by
 obtain⟨i,hi,e⟩:=List.mem_iff_getElem.mp hv;have hl:vs.length=ks.length:=by have:=a.len;simpa using this
 obtain⟨v',e1,e2⟩:=a.get i (csK (ks[i]'(by omega))) (by rw[AAV,AAu (by omega)];rfl);rw[AAu hi,e] at e1;cases e1;exact⟨_,List.getElem_mem _,e2⟩
theorem EH{α β:Type}{f:α->β}:∀{xs:List α},(xs.map f).Nodup->xs.Nodup
 |[],_=>List.nodup_nil
 |x::xs,h=>by
  rw[AAW] at h;obtain⟨a,b⟩:=List.nodup_cons.mp h;exact List.nodup_cons.mpr ⟨λz=>a (AAL.mpr ⟨x,z,rfl⟩),EH b⟩
theorem Mp{α β:Type}{f:α->β}{xs:List α}(h:(xs.map f).Nodup){a b:α}(ha:a∈xs)(hb:b∈xs)(e:f a=f b):a=b:=by
 obtain⟨i,hi,rfl⟩:=List.mem_iff_getElem.mp ha;obtain⟨j,hj,rfl⟩:=List.mem_iff_getElem.mp hb;have:i=j:=(List.getElem_inj (h₀:=by rw[AAF];exact hi) (h₁:=by rw[AAF];exact hj) h).mp (by rw[List.getElem_map,List.getElem_map];exact e);subst this;rfl
section
variable{prog:Program}{w:World}{A:Around}{E:Value->Shared->Prop}{s:Shared}
theorem YJ{ks:List Cs}{vs:List Value}(hu:A.units+8<cLine)(hk:Ats s.heap (ks.map csK) vs)(nd:ks.Nodup):Tm.Cp prog w A E s (tuples' true) (λx y=>cLt (cd s.heap ks x.1) (cd s.heap ks y.1)) (λx=>x.1=x.2/\x.1∈vs) where
 lt:=λ{st x y Q} hkd sx sy q=>by
  obtain⟨a,ma,aa⟩:=hk.mem sx.2;obtain⟨b,mb,ab⟩:=hk.mem sy.2;rw[N4 ma aa,N4 mb ab] at q;rw[lt'_eq];refine wpS_bind (wpS_get ?_);rw[hkd];refine wpS_bind (wpS_lift (wpAny_attempt (YI hu aa ab ⟨rfl,?_⟩)));exact wpS_pure q
 tot:=λ{x y} sx sy ne q=>by
  have ev:=hk.cds (ks:=ks) (g:=s.heap) (λ_ _ z=>z) λ_ z=>z;have hne:cd s.heap ks x.1≠cd s.heap ks y.1:=λe=>ne (by
   have:=Mp (f:=cd s.heap ks) (by rw[ev];exact nd) sx.2 sy.2 e;exact Prod.ext this (by rw[←sx.1,←sy.1];exact this))
  exact(KJ λz=>hne (Lf z)).elim (λz=>by have q':_=false:=q;rw[show cLt _ _=true from z] at q';cases q') id
 tr:=λh g=>Mj h g
 irr:=λx=>Gy _
theorem P3{a:Addr}{vs:List Value}{n:Nat}{ks:List Cs}{P:PySem.Fin->Shared->Prop}(hu:A.units+8<cLine)(ho:s.heap.get? a=some (seqObj "list" vs.toArray n))(hk:Ats s.heap (ks.map csK) vs)(nd:ks.Nodup)(hle:vs.length<=1000)
  (h:∀(out:List Value) (ks':List Cs),Ats s.heap (ks'.map csK) out->ks'.Perm ks->ks'.Pairwise (λx y=>cLt x y=true)->(∀v∈out,v∈vs)->P (.done (.ret .none)) { s with heap:=sortedHeap s.heap a vs out.toArray }) :
  wpAny (model prog w) A (Builtin.«list.sort» ⟨[.ref a],[]⟩) P E s:=by
 have hlen:vs.length=ks.length:=by have:=hk.len;simpa using this
 have ha:a<s.heap.objs.size:=Heap.lt_size ho;have ho1:=get?_update_seq ho (λ_=>(#[]:Array Value));rw[list_sort_plain];refine AAA (listItems_at ho rfl (AAA (listUpdate_at ho rfl ?_ (by rw[List.size_toArray,sizeLine_eq];omega) (AAl _))));refine AAA (seqEpoch_at ho1 rfl (AAA (wpAny_newTuple ?_ (by show vs.length<=_;rw[sizeLine_eq];omega))));refine AAA (wpAny_newList ?_ (AAl _));refine AAq ?_;show wpAny (model prog w) A _ P E { s with heap:=((s.heap.update a (Obj.mapSeq λ_=>(#[]:Array Value))).push (seqObj "tuple" vs.toArray 0)).push (seqObj "list" #[] 0) };generalize hG:((s.heap.update a (Obj.mapSeq λ_=>(#[]:Array Value))).push (seqObj "tuple" vs.toArray 0)).push (seqObj "list" #[] 0)=G;have ho6:G.get? a=(s.heap.update a (Obj.mapSeq λ_=>(#[]:Array Value))).get? a:=by
  rw[←hG,Heap.get?_push_ne _ _ _ (by rw[size_push',Heap.size_update];exact AAe (AAi ha)),Heap.get?_push_ne _ _ _ (by rw[Heap.size_update];exact AAe ha)]
 rw[ho1] at ho6;have kp:∀b o items m,s.heap.get? b=some o->o.cls=.type "tuple" -> o.data=.seq items m->G.get? b=some o:=λb o items m e c _=>by
  have hb:b<s.heap.objs.size:=Heap.lt_size e;have hne:b≠a:=λz=>by
   subst z;rw[ho] at e;cases e;exact absurd (show (Value.type "list")=.type "tuple" from c) (by decide)
  rw[←hG,Heap.get?_push_ne _ _ _ (by rw[size_push',Heap.size_update];exact AAe (AAi hb)),Heap.get?_push_ne _ _ _ (by rw[Heap.size_update];exact AAe hb),Heap.get?_update_ne _ _ _ _ hne];exact e
 have hkG:Ats G (ks.map csK) vs:=hk.kept kp;have fin:∀out:List Value,sortedHeap s.heap a vs out.toArray=G.update a (Obj.mapSeq λ_=>out.toArray):=λout=>by rw[←hG];rfl
 dsimp only;by_cases h2:vs.toArray.size<2
 ·rw[if_pos h2,if_pos h2];have h2':vs.length<2:=by simpa using h2
  refine AAA (AAB ?_);rw[StateT.run_pure];refine AAA (AAB ?_);dsimp only;have ex:(arrOf (SortSt.mk' general' (vs.toArray.zip vs.toArray) #[] 7 none)).map (·.2)=vs.toArray:=by
   show (vs.toArray.zip vs.toArray).map (·.2)=vs.toArray;apply Array.toList_inj.mp;rw[Array.toList_map,Array.toList_zip];exact List.map_snd_zip (by simp)
  refine AAA (seqEpoch_at ho6 rfl (AAA (listUpdate_at ho6 rfl ?_ (AAl _) (by rw[ex,List.size_toArray,sizeLine_eq];omega))));simp only[bne_self_eq_false,Bool.false_eq_true,if_false];have:=h vs ks hk (List.Perm.refl _) (by
   match ks,hlen with
   |[],_=>exact List.Pairwise.nil
   |[x],_=>exact List.pairwise_singleton _ _
   |_::_::_,e=>simp at e;omega) (λ_ z=>z)
  rw[fin vs] at this;refine AAB ?_;rw[ex];exact this
 ·rw[if_neg h2,if_neg h2];have h2':2<=vs.length:=by simpa using h2
  obtain⟨fs,fl,ft,fi⟩:=Rj (s:={ s with heap:=G }) hkG;refine AAA (PySem.W.kat_kind (T:=.type "int") ft (by omega) (λv hv=>by
   obtain⟨i,t,rfl⟩:=fi v hv;exact PySem.W.Looks.of_pure rfl) rfl ?_)
  have ev:=hkG.cds (ks:=ks) (g:=G) (λ_ _ z=>z) λ_ z=>z;have ndv:vs.Nodup:=EH (f:=cd G ks) (by rw[ev];exact nd);have tl:(vs.toArray.zip vs.toArray).toList=vs.map λv=>(v,v):=by
   rw[Array.toList_zip];show vs.zip vs=_;rw[List.zip_eq_zipWith];exact List.zipWith_self
  have C:=YJ (prog:=prog) (w:=w) (E:=E) (s:={ s with heap:=G }) hu hkG nd;refine AAA (AAk (Tm.sort_of (T:=vs.map λv=>(v,v)) (st:=SortSt.mk' (tuples' (Value.type "int" != Value.type "tuple")) (vs.toArray.zip vs.toArray) #[] 7 none) (Q:=λ_ st'=>(arrOf st').toList.Perm (vs.map λv=>(v,v))/\(arrOf st').toList.Pairwise (Tm.Lt λx y=>cLt (cd G ks x.1) (cd G ks y.1))/\failedOf st'=none) C rfl rfl rfl tl (λu hu=>by obtain⟨v,hv,rfl⟩:=AAL.mp hu;exact⟨rfl,hv⟩) (EH (f:=Prod.fst) (by rw[List.map_map];show (vs.map id).Nodup;rw[List.map_id];exact ndv)) λst' h1 h2 h3=>⟨h1,h2,h3⟩) ?_ λ_ _ e=>e);rintro⟨⟨⟩,st'⟩ s' ⟨rfl,h1,h2,h3⟩;dsimp only at h1 h2 h3 ⊢;have har:(arrOf st').map (·.2)=((arrOf st').toList.map (·.2)).toArray:=by apply Array.toList_inj.mp;rw[Array.toList_map]
  have po:((arrOf st').toList.map (·.2)).Perm vs:=by
   have:=h1.map Prod.snd;rw[List.map_map,show vs.map (Prod.snd ∘ λv=>(v,v))=vs from List.map_id vs] at this;exact this
  have hsz:((arrOf st').map (·.2)).size=vs.length:=by rw[har,List.size_toArray,po.length_eq]
  refine AAA (seqEpoch_at ho6 rfl (AAA (listUpdate_at ho6 rfl ?_ (AAl _) (by rw[hsz,sizeLine_eq];omega))));rw[h3];simp only[bne_self_eq_false,Bool.false_eq_true,if_false];have eq12:∀x∈(arrOf st').toList,x.1=x.2:=λx hx=>by
   obtain⟨v,_,rfl⟩:=AAL.mp (h1.mem_iff.mp hx);rfl
  have sub:∀v∈(arrOf st').toList.map (·.2),v∈vs:=λv hv=>po.mem_iff.mp hv;have oa:Ats s.heap ((((arrOf st').toList.map (·.2)).map (cd G ks)).map csK) ((arrOf st').toList.map (·.2)):=by
   generalize (arrOf st').toList.map (·.2)=out at sub
   induction out with
   |nil=>unfold List.map Ats;rfl
   |cons v out ih=>
    obtain⟨k,mk,ak⟩:=hk.mem (sub v AAP);rw[AAW,AAW];unfold Ats;exact⟨v,out,rfl,by rw[N4 mk (ak.kept kp)];exact ak,ih λx hx=>sub x (AAQ _ hx)⟩
  have:=h _ _ oa (by have:=po.map (cd G ks);rw[ev] at this;exact this) (by
   rw[List.map_map,List.pairwise_map];refine List.Pairwise.imp_of_mem (λ{x y} hx hy z=>?_) h2;show cLt (cd G ks x.2) (cd G ks y.2)=true;rw[←eq12 x hx,←eq12 y hy];exact z) sub
  rw[fin _,←har] at this;exact AAB this
end
section
variable{prog:Program}{w:World}{A:Around}{E:Value->Shared->Prop}{s:Shared}
theorem Jx{d:Addr}{o:Obj}{es:Array DictEntry}{ep:Nat}{ks:List Cs}{Q:Value->Shared->Prop}(hh:A.handled=none)(hu:A.units+16<cLine)(lo:(d==sysModules)=false)(ho:s.heap.get? d=some o)(ex:o.ExactDict)(hd:o.data=.dict es ep)
  (hk:Ats s.heap (ks.map csK) (es.toList.map (·.key))) (nd:ks.Nodup) (hle:es.size<=1000)
  (q:∀(h1 h':Heap) tk c (out:List Value) (ks':List Cs),(∀b o,s.heap.get? b=some o->h1.get? b=some o)->(∀b o,h1.get? b=some o->h'.get? b=some o)->h'.get? h1.objs.size=some (seqObj "list" out.toArray c)->Ats h1 (ks'.map csK) out->ks'=Go ks->(∀v∈out,v∈es.toList.map (·.key))->Q (.ref h1.objs.size) { s with heap:=h',toks:=tk }) :
  wpAny (model prog w) A (call (.builtin "sorted") [.ref d]) Q E s:=by
 refine Calls.call_function_entry kind_sorted plain_sorted entry_sorted (args_sorted1 _) ?_;unfold Builtin.«sorted»;refine AAA (AAw (a:=()) rfl ?_);refine AAA (PySem.W.kdu_collect (A:=A.in1) (Kw lo ex hd) hh ho (by rw[sizeLine_eq];omega) λh1 t1 acc k1 it=>?_);have ek:=Hm it;have hlen:acc.toList.length=es.size:=by rw[Array.length_toList];exact it.1
 refine AAA (wpAny_newList ?_ (by rw[sizeLine_eq];omega));have hL:(h1.push (seqObj "list" acc.toList.toArray 0)).get? h1.objs.size=some (seqObj "list" acc.toList.toArray 0):=AAD _ rfl;have kL:∀b o,h1.get? b=some o->(h1.push (seqObj "list" acc.toList.toArray 0)).get? b=some o:=λb o e=>AAC _ e;have hk1:Ats h1 (ks.map csK) acc.toList:=by rw[ek];exact hk.kept λb o items n e _ _=>k1 b o e
 have hkL:Ats (h1.push (seqObj "list" acc.toList.toArray 0)) (ks.map csK) acc.toList:=hk1.kept λb o items n e _ _=>kL b o e;refine AAA (AAq (AAd slot_list_sort ⟨_,hL,rfl⟩ entry_list_sort (P3 (s:={ s with heap:=h1.push (seqObj "list" acc.toList.toArray 0),toks:=t1 }) (by show A.units+1+1+8<cLine;omega) hL hkL nd (by omega) λout ks' a1 a2 a3 a4=>⟨_,rfl,?_⟩) (args_list_sort _)));obtain⟨c,hc⟩:=sortedHeap_at (out:=out.toArray) hL;have em:=TJ nd a2 a3;have a1':Ats h1 (ks'.map csK) out:=by
  refine Ats.of_get (by have:=a1.len;simpa using this) λi k v e1 e2=>?_;obtain⟨v',f1,f2⟩:=a1.get i k e1;rw[e2] at f1;cases f1;obtain⟨j,mj,aj⟩:=hk1.mem (a4 v (AAU e2));have same:=At.inj (aj.kept λb o items n e _ _=>kL b o e) f2;rw[←same];exact aj
 exact AAB ⟨_,rfl,q h1 _ _ c out ks' k1 (λb o e=>by rw[sortedHeap_old (AAe (Heap.lt_size e)) (Heap.lt_size (kL b o e))];exact kL b o e) hc a1' em (λv hv=>by rw[←ek];exact a4 v hv)⟩
end
end Nk
namespace Mi
open PySem L2 Ht Nk
section
variable{X:Cx}{e:Expr}
theorem Lw{k0:Nat}(hr:Room k0 X.A)(hc:X.calm=true):CA X (.builtin "sorted") (λxs H Q=>∃p l Y k,xs=[.ref p]/\H p=some (D9 p l)/\(∀y∈l,Is X.kw Y k H (csD y.1) (.ref y.2.1))/\l.length<1000/\∀q vs,H q=none->IsL X.kw Y k H ((Go (l.map (·.1))).map csD) vs->Q (.ref q) (upd H q (.lst vs))):=by
 intro w4 s O H xs us Q I r h;obtain⟨p,l,Y,k,rfl,hp,hi,h64,q⟩:=h;obtain⟨u,rfl,ru⟩:=FM r;cases ru;obtain⟨us,o,es,ep,h0,h1,h2,h3,h4,h5,h6,h7⟩:=Rz I.hok hp;have hl:l.length=us.length:=by have:=h0.length;simpa using this
 have hsz:es.size=l.length:=by rw[←Array.length_toList,h4,AAF,List.length_zip];omega
 have ek:=Ny hl h4;refine Jx (ks:=l.map (·.1)) (I.ok.hd hc) (by have:=hr.units;omega) h7 h1 h2 h3 (by rw[ek];exact Lz I hi) h5 (by omega) λg1 h' tk c out ks' k1 k2 e1 at' em sub=>?_;subst em;obtain⟨vs,rv,iv⟩:=Qm I k1 hi at' (by rw[←ek];exact sub);have I1:=I.kept (t':=tk) k1;have hz:vs.length<=sizeLine:=by
  have:=iv.length;rw[this,AAF,(DT _).length_eq,AAF,sizeLine_eq];omega
 exact⟨.ref g1.objs.size,_,I1.laid (t':=tk) (o:=.lst vs) k2 (AAE _) ⟨hz,out,c,rv,e1⟩,rfl,q _ vs (I1.hok.fresh (AAE _)) iv⟩
noncomputable def MP:List D->M D
 |[d]=>bnd (Ie d) λr=>λZ=>if r.2.length<1000 then some (.lst ((Go (r.2.map (·.1))).map csD),Z) else none
 |_=>Bb
theorem SF{k0:Nat}(hr:Room k0 X.A)(hc:X.calm=true):CA X (.builtin "sorted") (rMA X.kw MP):=λw4 s O H xs us Q I r h=>by
 obtain⟨Y,Z,as,d,Z',R,ia,e,q⟩:=h;unfold MP at e;split at e
 ·obtain⟨rr,w5,e1,e2⟩:=AF e;obtain⟨v,rfl,i1⟩:=FJ ia;obtain⟨hm,_,g1,rfl,kvs,g2,g3⟩:=FI R i1 e1;subst hm;split at e2
  ·rename_i hlt;cases e2;have hkl:kvs.length=rr.2.length:=by have:=congrArg List.length g3.keys;simpa using this
   refine Lw hr hc w4 s O H _ us Q I r ⟨_,kvs,Y,_,rfl,g2,g3.at,by omega,λp vs hp iv=>?_⟩;rw[g3.keys] at iv;exact RF R iv q p hp
  ·cases e2
 ·cases e
end
end Mi
namespace L2
open PySem PySem.Spec PyProof.Rows
section
variable{X:Cx}{scope:Scope}{tgs:List Str}{ix:List Nat}
theorem LI{i:Nat}{y:Str}{py:Pos}{elt tg iter:Expr}(co:Option Expr){pos spos:Pos}{wi:TI}{g:TG}{tc:TT}{te:TE}(hN:X.N.Nodup)(hiN:X.N[i]?=some y)(hy:X.env.scope.names.lookup y=some .local)
  (S:BScope X scope tgs ix) (hc:X.calm=true) (hi:PI X tg iter wi) (hg:∀fp C s H,PG (cxB X scope tgs fp C s H) tg g) (hgk:GK tgs.length g)
  (hif:∀fp C s H,PH (cxB X scope tgs fp C s H) co tc) (he:∀fp C s H,PE (cxB X scope tgs fp C s H) elt te)
  (hsw:swapsWith (.ListComp elt [⟨tg,iter,co.toList,0⟩] scope pos) (some (.Name y py)) spos.line X.env=pure true:=by rfl) (hs:∀x,foldedSetIterable iter X.env x=pure x:=by intro _;rfl) :
  PS X (.Assign [.Name y py] (.ListComp elt [⟨tg,iter,co.toList,0⟩] scope pos) spos) (Va (P1 tgs ix wi g tc te) (Gf i)):=by
 intro w4 s O H D0 I h;rw[exec_Assign_Name_used _ _ _ _ hsw];refine AAA (wpAny_standAt (AAA ?_));show wpAny _ X.A (do let _ ←comprehension (.ListComp elt [⟨tg,iter,co.toList,0⟩] scope pos) scope X.env _ (newList []) false (eval iter X.env) (some (assign (.Name y py) X.env))) _ _ s;refine AAA (AAk (wpAny_comprehension_free (use:=some (assign (.Name y py) X.env)) (Q:=λ_ s'=>SP X w4 D0 .next s') rfl hs (EA (S.cells I.ok)) S.kind S.loc ?_) (λ_ s' hq=>AAB (AAB hq)) λ_ _ e=>e);refine thn (hi w4 s O H _ I h) λv s1 h1=>thn h1 λitv s2 h2=>?_;obtain⟨it,fp,tn,J,H2,e,I2,T,t0,f2,W,w0,turn⟩:=h2;subst e;refine Gj (Q:=λx H1=>Gf i x O H1 D0.nx) (RR:=λacc C=>compPost (model X.prog X.w) X.A X.xe (some (assign (.Name y py) X.env)) (λ_ s'=>SP X w4 D0 .next s') acc C) S hc hg hgk hif he I2 T t0 f2 W w0 turn ?_;intro D C s' H' m J1 q hn fC;obtain⟨f0,f1,f2,f3,f4,f5⟩:=fC;show wpAny _ X.A (assign (.Name y py) X.env (.ref D)) _ _ _;refine wpAny_assign_Name (Il (v:=.ref D) J1 hN hiN (.inl hy) rfl (λs'' I'' hsb=>?_) (.inr hy));obtain⟨a,sb,ha⟩:=hsb;have hCa:C≠a:=by
  rcases ha with z|z
  ·rw[z];exact f1
  ·exact Ne.symm (f4 y a z)
 exact⟨m,hn.sameBut sb hCa,λh' sb'=>⟨_,H',I''.turned (t':=s''.toks) (λb o hb e=>(sb'.2 b hb).trans e) f0 f1 f3 f4 f5,q⟩⟩
end
end L2
namespace Mi
open PySem L2
section
variable{X:Cx}{K:KW}{scope:Scope}{tgs:List Str}{ix:List Nat}{elt tg iter:Expr}{pos:Pos}{bf:D->Sl->M Sl}{g:TG}{src:Sl->M (List D)}{mc:Sl->M Bool}{me:Sl->M D}{fin:List D->M D}{n:Nat}
structure Tg(n:Nat)(K:KW)(bf:D->Sl->M Sl)(g:TG):Prop where
 gk:GK n g
 gb:∀v O H Q,tG K bf v O H Q->g v O H Q
 mu:∀d B x9 Z Z',bf d B Z=some (x9,Z')->Z'=Z
theorem CU{i:Nat}(h:i<n:=by decide):Tg n K (AN i) (Gf i):=⟨UV h,λ_ _ _ _ h=>Jt h,λd B x9 Z Z' e=>by cases e;rfl⟩
def Jl(K:KW)(fin:List D->M D):Prop:=∀Y Z Z' H ds vs d (Q:VK),RelH K Y Z H->IsL K Y Z.length H ds vs->fin ds Z=some (d,Z')->(Aft K Y Z H Z' λY' H'=>∀v,Is K Y' Z'.length H' d v->Q v H')->
 vs.length<=sizeLine/\∀p,H p=none->Q (.ref p) (upd H p (.lst vs))
theorem Hy:Jl K BT:=λ_ _ _ _ _ _ _ _ R i e q=>Gw R i e q
def ItX(C:Mh->Mh->Prop)(K:KW)(J:It)(ds:List D)(Y:Nat->Addr)(Z:Mh)(H:Hp):Prop:=∀Y' (Z':Mh) H',C Z Z'->Ext Y Z.length H Y' Z'.length H'->RelH K Y' Z' H'->
 (∀i,i<ds.length->J.go i H')/\J.stop ds.length H'/\∀(i:Nat) x H2 d,ds[i]?=some d->J.yld i H' x H2->Ext Y' Z'.length H' Y' Z'.length H2/\RelH K Y' Z' H2/\Is K Y' Z'.length H2 d x
noncomputable def tIX(C:Mh->Mh->Prop)(K:KW)(m:Sl->M (List D)):TI:=λO H R=>∃Y Z B ds Z',RelH K Y Z H/\RelS K Y Z.length H B O/\m B Z=some (ds,Z') /\
 Aft K Y Z H Z' λY' H'=>∀J,ItX C K J ds Y' Z' H'->R J H'
theorem Xb(h:RI X tg iter src):PI X tg iter (tIX (λ_ _=>True) X.kw src):=PI.wk h.pe λO H R q=>by
 obtain⟨Y,Z,B,ds,Z',R0,S,e,q⟩:=q;exact⟨Y,Z,B,ds,Z',R0,S,e,λx4 H1 E1 R1 J it=>q x4 H1 E1 R1 J λx6 w6 H2 _ E2 R2=>it x6 w6 H2 E2 R2⟩
theorem Um{C:Mh->Mh->Prop}{O:St}{H:Hp}{Q:VK}(rf:∀a,C a a)(tr:∀a b c,C a b->C b c->C a c)(T:Tg tgs.length K bf g)(pc:∀B Z b Z',mc B Z=some (b,Z')->C Z Z')(pm:∀B Z b Z',me B Z=some (b,Z')->C Z Z')(hn:tgs.length=n)(hf:Jl K fin)
  (h:tE K (Bf n ix src bf mc me fin) O H Q):P1 tgs ix (tIX C K src) g (tT K mc) (tE K me) O H Q:=by
 subst hn;obtain⟨Y,Z,B,d,Z',R,S,e,q⟩:=h;obtain⟨ds,w5,e1,e5⟩:=AF e;obtain⟨u,w6,e2,e6⟩:=AF e5;obtain⟨zs,x8,e3,e7⟩:=AF e6;obtain⟨hl,e4⟩:=D4 e2;clear e e5 e6;subst e4;refine⟨Y,Z,B,ds,_,R,S,e1,λx4 H1 E1 R1 J it=>?_⟩
 let W:Nat->List V->Hp->Prop:=λi' ys H=>ys.length<=i'/\∃(Y:Nat->Addr) (Z:Mh) (as:List D),RelH K Y Z H/\RelS K Y Z.length H B O/\ItX C K J ds Y Z H/\IsL K Y Z.length H as ys/\ER bf mc me (CW tgs.length ix B) (ds.drop i') as Z=some (zs,x8) /\
  Aft K Y Z H Z' λY' H'=>∀v,Is K Y' Z'.length H' d v->Q v H'
 refine⟨λi' m ys H=>m=ds.length-i'/\i'<=ds.length/\W i' ys H,⟨ds.length,by simp,AAl _,AAE _,x4,_,[],R1,S.ext E1,it,.nil,e3,λx6 H2 E2 R2=>q x6 H2 (E1.trans E2) R2⟩,?_⟩;rintro i' m ys H ⟨hm,hil,hyl,Y,Z,as,R,S,it,ia,e3,q⟩;obtain⟨go,stop,yl⟩:=it Y Z H (rf _) R.ext0 R;by_cases hlt:i'<ds.length
 ·refine .inr ⟨go i' hlt,by omega,W (i'+1),λys' H' z=>⟨_,(by omega:ds.length-(i'+1)<m),rfl,hlt,z⟩,λx H2 y=>?_⟩;obtain⟨E2,R2,ix2⟩:=yl i' x H2 _ (AAu hlt) y;rw[List.drop_eq_getElem_cons hlt] at e3;obtain⟨w9,w5,e1,e5⟩:=AF e3;obtain⟨cc,w6,e2,e6⟩:=AF e5;cases T.mu _ _ _ _ _ e1;have c2:=pc _ _ _ _ e2;have S2:=(S.ext E2).block (tgs:=tgs) (ix:=ix);refine T.gb _ _ _ _ ⟨Y,_,_,_,w9,_,R2,S2,ix2,e1,λι0 H0 E0 R0 σ0 S0=>⟨ι0,_,_,cc,w6,R0,S0,e2,λu3 H3 E3 R3=>?_⟩⟩;have E13:=(E2.trans E0).trans E3;have ex:∀{u6 u4 H4},C Z u4->Ext Y Z.length H u6 u4.length H4->ItX C K J ds u6 u4 H4:=λc E u8 j0 H5 c5 E5 R5=>it u8 j0 H5 (tr _ _ _ c c5) (E.trans E5) R5;cases cc with
  |false=>exact⟨by omega,u3,w6,as,R3,S.ext E13,ex c2 E13,ia.ext E13,e6,λu8 H5 E5 R5=>q u8 H5 (E13.trans E5) R5⟩
  |true=>
   obtain⟨y',u4,e4,e8⟩:=AF e6;refine⟨u3,w6,_,y',u4,R3,S0.ext E3,e4,λu6 H4 E4 R4 v iv=>?_⟩;have E14:=E13.trans E4;exact⟨by simp;omega,u6,u4,as++[y'],R4,S.ext E14,ex (tr _ _ _ c2 (pm _ _ _ _ e4)) E14,(ia.ext E14).append (.one iv),e8,λu8 H5 E5 R5=>q u8 H5 (E14.trans E5) R5⟩
 ·have hi':i'=ds.length:=by omega
  subst hi';rw[List.drop_length] at e3;cases e3;obtain⟨z1,z2⟩:=hf Y _ Z' H _ ys d Q R ia e7 q;exact .inl ⟨stop,z1,z2⟩
structure Cp(X:Cx)(scope:Scope)(tgs:List Str)(ix:List Nat)(tg elt:Expr)(co:Option Expr)(bf:D->Sl->M Sl)(mc:Sl->M Bool)(me:Sl->M D):Prop where
 S:BScope X scope tgs ix
 hc:X.calm=true
 T:∃g,Tg tgs.length X.kw bf g/\∀fp C s H,PG (cxB X scope tgs fp C s H) tg g
 t:∀fp C s H,PH (cxB X scope tgs fp C s H) co (tT X.kw mc)
 e:∀fp C s H,RE (cxB X scope tgs fp C s H) elt me
theorem XS{C:Mh->Mh->Prop}{co:Option Expr}(rf:∀a,C a a)(tr:∀a b c,C a b->C b c->C a c)(pc:∀B Z b Z',mc B Z=some (b,Z')->C Z Z')(pm:∀B Z b Z',me B Z=some (b,Z')->C Z Z')(c:Cp X scope tgs ix tg elt co bf mc me)(hi:PI X tg iter (tIX C X.kw src))(hf:Jl X.kw fin)(hn:tgs.length=n)(hs:∀x,foldedSetIterable iter X.env x=pure x):RE X (.ListComp elt [⟨tg,iter,co.toList,0⟩] scope pos) (Bf n ix src bf mc me fin):=by
 obtain⟨g,T,hg⟩:=c.T;exact RE.wk (Qk co (te:=tE X.kw me) c.S c.hc hi hg T.gk c.t (λfp C s H=>(c.e fp C s H).pe) hs) λ_ _ _ h=>Um rf tr T pc pm hn hf h
theorem XQ{C:Mh->Mh->Prop}{co:Option Expr}{k:Nat}{y:Str}{py spos:Pos}(rf:∀a,C a a)(tr:∀a b c,C a b->C b c->C a c)(pc:∀B Z b Z',mc B Z=some (b,Z')->C Z Z')(pm:∀B Z b Z',me B Z=some (b,Z')->C Z Z')(c:Cp X scope tgs ix tg elt co bf mc me)(hi:PI X tg iter (tIX C X.kw src))(hf:Jl X.kw fin)(hN:X.N.Nodup)(hiN:X.N[k]?=some y)(hy:X.env.scope.names.lookup y=some .local)(hn:tgs.length=n)
  (hsw:swapsWith (.ListComp elt [⟨tg,iter,co.toList,0⟩] scope pos) (some (.Name y py)) spos.line X.env=pure true) (hs:∀x,foldedSetIterable iter X.env x=pure x):RS X (.Assign [.Name y py] (.ListComp elt [⟨tg,iter,co.toList,0⟩] scope pos) spos) (Af (Bf n ix src bf mc me fin) (AN k)):=by
 obtain⟨g,T,hg⟩:=c.T;refine RS.wk (LI co (te:=tE X.kw me) hN hiN hy c.S c.hc hi hg T.gk c.t (λfp C s H=>(c.e fp C s H).pe) hsw hs) λDn O H h=>?_;obtain⟨Y,Z,B,f,x9,Z',R,S,e,q⟩:=h;obtain⟨x,w5,e1,e⟩:=AF e;obtain⟨w9,w6,e2,e⟩:=AF e;cases e2;cases e;exact Um rf tr T pc pm hn hf ⟨Y,Z,B,x,_,R,S,e1,λx4 H1 E1 R1 v i1=>q x4 H1 E1 R1 _ ((S.ext E1).set k i1)⟩
theorem OW{co:Option Expr}(c:Cp X scope tgs ix tg elt co bf mc me)(hi:RI X tg iter src)(hf:Jl X.kw fin)(hn:tgs.length=n:=by rfl)(hs:∀x,foldedSetIterable iter X.env x=pure x:=by intro _;rfl):RE X (.ListComp elt [⟨tg,iter,co.toList,0⟩] scope pos) (Bf n ix src bf mc me fin):=
 XS (λ_=>trivial) (λ_ _ _ _ _=>trivial) (λ_ _ _ _ _=>trivial) (λ_ _ _ _ _=>trivial) c (Xb hi) hf hn hs
theorem QM{co:Option Expr}{k:Nat}{y:Str}{py spos:Pos}(c:Cp X scope tgs ix tg elt co bf mc me)(hi:RI X tg iter src)(hf:Jl X.kw fin)(hN:X.N.Nodup)(hiN:X.N[k]?=some y:=by rfl)(hy:X.env.scope.names.lookup y=some .local:=by rfl)(hn:tgs.length=n:=by rfl)
  (hsw:swapsWith (.ListComp elt [⟨tg,iter,co.toList,0⟩] scope pos) (some (.Name y py)) spos.line X.env=pure true:=by rfl) (hs:∀x,foldedSetIterable iter X.env x=pure x:=by intro _;rfl):RS X (.Assign [.Name y py] (.ListComp elt [⟨tg,iter,co.toList,0⟩] scope pos) spos) (Af (Bf n ix src bf mc me fin) (AN k)):=
 XQ (λ_=>trivial) (λ_ _ _ _ _=>trivial) (λ_ _ _ _ _=>trivial) (λ_ _ _ _ _=>trivial) c (Xb hi) hf hN hiN hy hn hsw hs
end
end Mi
namespace K15
open PySem L2 Mi Nk
open K13 (BV Em Bi CG CH C4 CI Da D1 D2 En D3 Ap B9 AZ Bm BW BF BJ B3 CO CP Ck CQ)
open K16 (Ce Cd B8 Dz By BH BA BU Bj DD An BB A6 BD CN A8 Bd BK F7 DS)
noncomputable def Q4(ZR:List D->M D):Sl->M (Fl×Sl):=
  (Av (AG GJ (AC (AG MP (AC (AG ZR (AC (AA 0) AJ)) AJ)) AJ)))
noncomputable def Q6(ZY:List D->M D):Sl->M (Fl×Sl):=
  (Av (Bf 1 [1,0] (Db (AG BT (AC (mC (.str "whole")) (AC (mC (.str "steady")) (AC (mC (.str "safe")) AJ))))) (AN 0) Cg (AG ZY (AC (mOp Ab (AG Ax (AC (AA 0) AJ)) (EZ (AA 2) (Ch (mC (.int 1))) Cb)) (AC (AA 1) AJ))) BT))
noncomputable def Q5  : Sl->M (Fl×Sl):=
  (AT (sIf (mOr (AK (mOp EY (mOp AL (mOp AL (AA 0) (AA 1)) (mC (.int 0))) (mC (.str "end")))) (mOr (AK (mOp MZ (mOp Ab (AA 1) (mC (.int 1))) (AG Bo (AC (AA 0) AJ)))) (AK (mOp AY (mOp AL (mOp AL (AA 0) (mOp Ab (AA 1) (mC (.int 1)))) (mC (.int 1))) (mOp AL (mOp AL (AA 0) (AA 1)) (mC (.int 1))))))) (Av (AA 0)) Ay)
  (Av (mOp Ab (mOp Ab (EZ (AA 0) Cb (Ch (AA 1))) (AG BT (AC (mOp AL (AA 0) (mOp Ab (AA 1) (mC (.int 1)))) (AC (mOp AL (AA 0) (AA 1)) AJ)))) (EZ (AA 0) (Ch (mOp Ab (AA 1) (mC (.int 2)))) Cb))))
noncomputable def Xz(ZQ:List D->M D)(ZV:List D->M D)(ZU:List D->M D)(ZN:List D->M D)(ZW:List D->M D):Sl->M (Fl×Sl):=
  (AT (Af (AG ZV (AC (AG ZQ (AC (AA 0) (AC (mC (.int 0)) AJ))) (AC (mC (.str "safe")) AJ))) (AN 1))
  (AT (Af (AG ZU (AC (AA 1) (AC (EZ (AA 0) (Ch (mC (.int 1))) (Ch (mOp Dk (mC (.int 17)) (mOp GZ (mC (.int 6)) (AG Oq (AC (mOp OY (AG Bo (AC (mOp AL (AA 1) (mC (.int 4))) AJ)) (mC (.int 3))) AJ)))))) AJ))) (AN 2))
  (AT (Af (AG BT (AC (mC (.bl true)) (AC (mC (.bl true)) (AC (mC (.bl true)) AJ)))) (AN 3))
  (AT (Fp (DN (AC (mOp Ab (AG Bo (AC (AA 2) AJ)) (mC (.int 1))) AJ)) (AN 4) (AT (Af (AG ZN (AC (AA 1) (AC (EZ (AA 2) Cb (Ch (AA 4))) AJ))) (AN 5))
  (AT (sIf (mOr (C5 (AK (mOp AL (AA 5) (mC (.int 0)))) (Dh (AK (mOp AL (AA 5) (mC (.int 1)))))) (C5 (AK (mOp AL (AA 5) (mC (.int 1)))) (Dh (AK (mOp AL (AA 5) (mC (.int 2))))))) (Av (mC (.bl false))) Ay)
  (AT (sIf (AK (mOp EY (Bf 1 [3,5] (DN (AC (mC (.int 3)) AJ)) (AN 0) (C5 (AK (mOp AL (AA 2) (AA 0))) (Dh (AK (mOp AL (AA 1) (AA 0))))) (AA 0) BT) (AG BT AJ))) (Av (mC (.bl false))) Ay)
  (Af (AA 5) (AN 3))))))
  (AT (Fp (DN (AC (AG Bo (AC (AA 2) AJ)) AJ)) (AN 6) (AT (Af (AG ZN (AC (AA 1) (AC (AG ZW (AC (AA 2) (AC (AA 6) AJ))) AJ))) (AN 7))
  (sIf (AK (mOp EY (Bf 1 [3,7] (DN (AC (mC (.int 3)) AJ)) (AN 0) (C5 (AK (mOp AL (AA 1) (AA 0))) (Dh (AK (mOp AL (AA 2) (AA 0))))) (AA 0) BT) (AG BT AJ))) (Av (mC (.bl false))) Ay)))
  (Av (mC (.bl true))))))))
noncomputable def top(i:Nat):Stmt:=PySem.Challenge.pw_strongboxes_k15_kept_by_the_stronger_kep.main.body.getD i (.Pass ⟨0,0,0,0⟩)
section
noncomputable abbrev FO:Stmt:=top 4
theorem sc_claim_begun:Ae ["making", "readers"] ["making"] (AS FO):=⟨rfl,rfl,rfl,by decide +kernel,rfl,by decide +kernel,by decide +kernel⟩
noncomputable abbrev Ed:Stmt:=top 5
theorem sc_claim_writes:Ae ["making", "claim", "worth", "tells"] ["making", "claim", "worth"] (AS Ed):=⟨rfl,rfl,rfl,by decide +kernel,rfl,by decide +kernel,by decide +kernel⟩
noncomputable abbrev EU:Stmt:=top 6
theorem sc_claim_written:Ae ["making", "claim"] ["making", "claim"] (AS EU):=⟨rfl,rfl,rfl,by decide +kernel,rfl,by decide +kernel,by decide +kernel⟩
noncomputable abbrev FN:Stmt:=top 7
theorem sc_claim_reads:Ae ["making", "claim", "reader", "told"] ["making", "claim", "reader"] (AS FN):=⟨rfl,rfl,rfl,by decide +kernel,rfl,by decide +kernel,by decide +kernel⟩
noncomputable abbrev Fk:Stmt:=top 8
theorem sc_claim_told:Ae ["making", "claim", "reader", "worth", "left"] ["making", "claim", "reader", "worth"] (AS Fk):=⟨rfl,rfl,rfl,by decide +kernel,rfl,by decide +kernel,by decide +kernel⟩
noncomputable abbrev K6:Stmt:=top 9
theorem sc_beside:Ae ["kind", "size", "worths", "coming"] ["kind", "size", "worths", "coming"] (AS K6):=⟨rfl,rfl,rfl,by decide +kernel,rfl,by decide +kernel,by decide +kernel⟩
noncomputable abbrev Fj:Stmt:=top 10
theorem sc_with_thing:Ae ["things", "place", "thing"] ["things", "place", "thing"] (AS Fj):=⟨rfl,rfl,rfl,by decide +kernel,rfl,by decide +kernel,by decide +kernel⟩
noncomputable abbrev Fo:Stmt:=top 11
theorem sc_case_begun:Ae ["case", "hand", "worth"] ["case", "hand", "worth"] (AS Fo):=⟨rfl,rfl,rfl,by decide +kernel,rfl,by decide +kernel,by decide +kernel⟩
noncomputable abbrev Fm:Stmt:=top 12
theorem sc_case_ended:Ae ["case", "hand", "worth"] ["case", "hand", "worth"] (AS Fm):=⟨rfl,rfl,rfl,by decide +kernel,rfl,by decide +kernel,by decide +kernel⟩
noncomputable abbrev FP:Stmt:=top 13
theorem sc_cases_ended:Ae ["cases", "hand", "worth", "ended"] ["cases", "hand", "worth"] (AS FP):=⟨rfl,rfl,rfl,by decide +kernel,rfl,by decide +kernel,by decide +kernel⟩
noncomputable abbrev K5:Stmt:=top 14
theorem sc_closed:Ae ["cases"] ["cases"] (AS K5):=⟨rfl,rfl,rfl,by decide +kernel,rfl,by decide +kernel,by decide +kernel⟩
noncomputable abbrev Ip:Stmt:=top 15
theorem sc_reached:Ae ["cases", "ways", "case", "waiting", "hand", "later"] ["cases"] (AS Ip):=⟨rfl,rfl,rfl,by decide +kernel,rfl,by decide +kernel,by decide +kernel⟩
noncomputable abbrev Ec:Stmt:=top 16
theorem sc_moments_from:Ae ["case", "later", "reader", "told"] ["case"] (AS Ec):=⟨rfl,rfl,rfl,by decide +kernel,rfl,by decide +kernel,by decide +kernel⟩
noncomputable abbrev HK:Stmt:=top 21
theorem sc_is_whole:Ae ["thing", "least", "most"] ["thing", "least", "most"] (AS HK):=⟨rfl,rfl,rfl,by decide +kernel,rfl,by decide +kernel,by decide +kernel⟩
noncomputable abbrev HL:Stmt:=top 23
theorem sc_is_tuple:Ae ["thing", "least", "most"] ["thing", "least", "most"] (AS HL):=⟨rfl,rfl,rfl,by decide +kernel,rfl,by decide +kernel,by decide +kernel⟩
noncomputable abbrev K4:Stmt:=top 26
theorem sc_judged:Ae ["making", "events", "claim", "act"] ["making", "events"] (AS K4):=⟨rfl,rfl,rfl,by decide +kernel,rfl,by decide +kernel,by decide +kernel⟩
noncomputable abbrev Ee:Stmt:=top 27
theorem sc_claim_behind:Ae ["making", "claim", "act", "begins", "reader"] ["making", "claim", "act"] (AS Ee):=⟨rfl,rfl,rfl,by decide +kernel,rfl,by decide +kernel,by decide +kernel⟩
noncomputable abbrev Iq:Stmt:=top 28
theorem sc_acts_of:Ae ["making", "events", "names", "going", "acts", "begun", "number", "event", "hand"] ["making", "events"] (AS Iq):=⟨rfl,rfl,rfl,by decide +kernel,rfl,by decide +kernel,by decide +kernel⟩
noncomputable abbrev HM:Stmt:=top 29
theorem sc_is_event:Ae ["thing", "names", "size"] ["thing", "names", "size"] (AS HM):=⟨rfl,rfl,rfl,by decide +kernel,rfl,by decide +kernel,by decide +kernel⟩
noncomputable abbrev HN:Stmt:=top 31
theorem sc_Lcell_at:Ae ["_law_script", "_law_k"] ["_law_script", "_law_k"] (AS HN):=⟨rfl,rfl,rfl,by decide +kernel,rfl,by decide +kernel,by decide +kernel⟩
noncomputable abbrev Ir:Stmt:=top 32
theorem sc_Lstream:Ae ["_law_cell", "_law_many", "_law_found", "_law_number", "_law_k"] ["_law_cell", "_law_many"] (AS Ir):=⟨rfl,rfl,rfl,by decide +kernel,rfl,by decide +kernel,by decide +kernel⟩
noncomputable abbrev Iu:Stmt:=top 33
theorem sc_Lmaking:Ae ["_law_x", "_law_kind", "_law_size", "_law_names", "_law_readers", "_law_hands"] ["_law_x", "_law_kind"] (AS Iu):=⟨rfl,rfl,rfl,by decide +kernel,rfl,by decide +kernel,by decide +kernel⟩
noncomputable abbrev K7:Stmt:=top 34
theorem sc_Lworth:Ae ["_law_making_here", "_law_written", "_law_x", "_law_some"] ["_law_making_here", "_law_written", "_law_x"] (AS K7):=⟨rfl,rfl,rfl,by decide +kernel,rfl,by decide +kernel,by decide +kernel⟩
noncomputable abbrev Iw:Stmt:=top 35
theorem sc_Levents:Ae ["_law_making_here", "_law_cells", "_law_busy", "_law_events_here", "_law_written", "_law_names", "_law_cell", "_law_x", "_law_name", "_law_worth_here", "_law_event"] ["_law_making_here", "_law_cells"] (AS Iw):=⟨rfl,rfl,rfl,by decide +kernel,rfl,by decide +kernel,by decide +kernel⟩
noncomputable abbrev K9:Stmt:=top 36
theorem sc_Lkinds:Ae ["_law_making_here", "_law_events_here"] ["_law_making_here", "_law_events_here"] (AS K9):=⟨rfl,rfl,rfl,by decide +kernel,rfl,by decide +kernel,by decide +kernel⟩
noncomputable abbrev K8:Stmt:=top 37
theorem sc_Llater:Ae ["_law_events_here", "_law_at"] ["_law_events_here", "_law_at"] (AS K8):=⟨rfl,rfl,rfl,by decide +kernel,rfl,by decide +kernel,by decide +kernel⟩
noncomputable abbrev Uq:Stmt:=top 38
theorem sc_law:Ae ["_law_script", "_law_making_here", "_law_events_here", "_law_ahead", "_law_many", "_law_found", "_law_at", "_law_later_here"] ["_law_script"] (AS Uq):=⟨rfl,rfl,rfl,by decide +kernel,rfl,by decide +kernel,by decide +kernel⟩
end
noncomputable def DH:List D->M D:=Au .drop 1 1 (Q4 CN)
noncomputable def Bc:List D->M D:=Au .drop 4 3 (BH BB DH B9)
noncomputable def BQ:List D->M D:=Au .drop 2 2 (BA BD DH)
noncomputable def Bq:List D->M D:=Au .drop 4 3 (BU BB DH B9 AZ)
noncomputable def Bn:List D->M D:=Au .drop 5 4 (Bj BD DH AZ)
noncomputable def Ac:List D->M D:=Au .drop 5 3 (An Bc BQ Bq Bn)
noncomputable def Dd:List D->M D:=Au .drop 4 2 (DD Ap BF Ac)
noncomputable def Et:List D->M D:=Au .drop 2 2 (Q6 Dd)
noncomputable def F4:List D->M D:=Au .drop 2 2 (Q5)
noncomputable def Rk:List D->M D:=Au .drop 8 1 (Xz B3 CP CQ Et F4)
end K15
namespace L2
open PySem PySem.Spec PyProof.Rows Sem
end L2
namespace L2
open PySem PySem.Spec PyProof.Rows
end L2
namespace Mi
open PySem L2
end Mi
namespace Pk
open PySem PySem.Spec PyProof.Rows L2 Mi PySem.MeetsSeq PySem.SeqAt
end Pk
namespace Mi
open PySem L2 Pk
end Mi
namespace Mi
open PySem L2
section
variable{x6 Y':Nat->Addr}{k k2 k':Nat}
variable(ag:∀n,n<k->Y' n=x6 n)(am:∀m,m<k'->∃n,n<k2/\Y' m=x6 n)(hk:k<=k')
include ag am hk
end
end Mi
local macro_rules | `(tactic| wtm_at "r")=>`(tactic| simp only[Mi.mSlotR_eq,Mi.mOpR_eq,Mi.mDispR_eq,Mi.aConsR_eq,Mi.sSeqR_eq,Mi.sSetR_eq,Mi.sIfR_eq,Mi.mAndR_eq,Mi.mOrR_eq,Mi.mTestR_eq,Mi.sRetR_eq])
namespace Mi
section
variable{α:Type}{P:List α->Prop}
theorem lq1(h:∀a,P [a]):∀us:List α,us.length=1->P us:=λus e=>by
 rcases us with _|⟨a,us⟩
 ·cases e
 ·cases List.eq_nil_of_length_eq_zero (Nat.succ.inj e);exact h a
theorem lqs{n:Nat}{P:List α->Prop}(h:∀a,∀us:List α,us.length=n->P (a::us)):∀us:List α,us.length=n+1->P us:=λus e=>by
 rcases us with _|⟨a,us⟩
 ·cases e
 ·exact h a us (Nat.succ.inj e)
theorem lq2(h:∀a b,P [a,b]):∀us:List α,us.length=2->P us:=lqs λa=>lq1 (P:=λl=>P (a::l)) (h a)
theorem lq3(h:∀a b c,P [a,b,c]):∀us:List α,us.length=3->P us:=lqs λa=>lq2 (P:=λl=>P (a::l)) (h a)
theorem lq4(h:∀a b c d,P [a,b,c,d]):∀us:List α,us.length=4->P us:=lqs λa=>lq3 (P:=λl=>P (a::l)) (h a)
end
end Mi
namespace K15
open PySem L2 Mi Nk
open K13 (BV Em Bi CG CH C4 CI Da D1 D2 En D3 Ap B9 AZ Bm BW BF BJ B3 CO CP Ck CQ)
open K16 (Ce Cd B8 Dz By BH BA BU Bj DD An BB A6 BD CN A8 Bd BK F7 DS)
structure Al(w:World)(K:PySem.W.Frag)(mg:Str->Option Value)(h:Heap):Prop where
 X:K.In h
 G:h.Ns mainGlobals mg
 e0:∃f fd,Df K "_law_cell_at" HN f fd
 e1:∃f fd,Df K "_law_making" Iu f fd
 e2:∃f fd,Df K "_law_stream" Ir f fd
 e3:∃f fd,Df K "_law_worth" K7 f fd
 e4:∃f fd,Df K "_law_events" Iw f fd
 e5:∃f fd,Df K "claim_begun" FO f fd
 e6:∃f fd,Df K "is_tuple" HL f fd
 e7:∃f fd,Df K "is_whole" HK f fd
 e8:∃f fd,Df K "is_event" HM f fd
 e9:∃f fd,Df K "acts_of" Iq f fd
 e10:∃f fd,Df K "with_thing" Fj f fd
 e11:∃f fd,Df K "case_begun" Fo f fd
 e12:∃f fd,Df K "moments_from" Ec f fd
 e13:∃f fd,Df K "reached" Ip f fd
 e14:∃f fd,Df K "closed" K5 f fd
 e15:∃f fd,Df K "beside" K6 f fd
 e16:∃f fd,Df K "claim_writes" Ed f fd
 e17:∃f fd,Df K "case_ended" Fm f fd
 e18:∃f fd,Df K "cases_ended" FP f fd
 e19:∃f fd,Df K "claim_written" EU f fd
 e20:∃f fd,Df K "claim_reads" FN f fd
 e21:∃f fd,Df K "claim_told" Fk f fd
 e22:∃f fd,Df K "claim_behind" Ee f fd
 e23:∃f fd,Df K "judged" K4 f fd
 e24:∃f fd,Df K "_law_kinds" K9 f fd
 e25:∃f fd,Df K "_law_later" K8 f fd
 e26:∃f fd,Df K "law" Uq f fd
 y0:mg "bool" = none
 y1:mg "enumerate" = none
 y2:mg "int" = none
 y3:mg "isinstance" = none
 y4:mg "len" = none
 y5:mg "list" = none
 y6:mg "range" = none
 y7:mg "set" = none
 y8:mg "sorted" = none
 y9:mg "tuple" = none
 g0:Glo K mg "HAD" F7
 g1:Glo K mg "NONE" Bd
 g2:Glo K mg "NO_WORTH" BK
 g3:Glo K mg "WAITS" DS
section
variable{P:Program}{w:World}{K:PySem.W.Frag}{mg:Str->Option Value}{base h:Heap}(a:Al w K mg h)
include a
theorem M8:Fn P w K mg base "_law_cell_at" ["_law_script", "_law_k"] 1 (B3):=by
 obtain⟨f,fd,d⟩:=a.e0;exact As (k:=0) .drop d.F sc_Lcell_at (PySem.W.mg_of a.X a.G d.a) (d.F.binds λ_ _ _ _ _ _=>lq2 λ_ _=>rfl) (λ_ _ _ _ _ _ hr=>have nd:=sc_Lcell_at.nd;(AI (BG (Ah Xp (AB 1) (A3 EB a.y4 Mi.Be (AD (AB 0) AH))) (AO (Aa (AQ AX (AB 0) (AB 1)))) Aj) (AO (Aa AE))))
theorem PM:Fn P w K mg base "_law_making" ["_law_x", "_law_kind"] 1 (CP):=by
 obtain⟨f,fd,d⟩:=a.e1;exact As (k:=0) .drop d.F sc_Lmaking (PySem.W.mg_of a.X a.G d.a) (d.F.binds λ_ _ _ _ _ _=>lq2 λ_ _=>rfl) (λ_ _ _ _ _ _ hr=>have nd:=sc_Lmaking.nd;(AI (Ag 2 nd (AW A7 AE (AW Dl (AW Cz (AB 0) AE) AE))) (AI (Ag 3 nd (AQ AX (DY (AD (DY (AD Aq (AD Aq (AD Aq (AD Aq AH))))) (AD (DY (AD Aq (AD Aq (AD Aq (AD Aq AH))))) (AD (DY (AD Aq (AD Aq (AD Aq (AD Aq AH))))) AH)))) (AW Dl (AW Cz (AB 0) AE) AE))) (AI (Ag 4 nd (AW A7 AE (AW Dl (AW Cz (AB 0) AE) AE))) (AI (QM (co:=none) (tgs:=["_law_name"]) ⟨⟨rfl,by decide +kernel,by decide +kernel,trivial,rfl,by decide +kernel⟩,rfl,⟨_,CU,λ_ _ _ _=>BL (i:=0) (show List.Nodup (["_law_name"]:List Str) from by decide +kernel) rfl (Or.inl rfl)⟩,λ_ _ _ _=>CM,λ_ _ _ _=>(Aw (AD (AB 0) (AD AE (AD (Aw AH) AH))))⟩ (DK (Do (AB 3) DR (CZ (AW A7 AE (AB 4))))) Hy nd) (AO (Aa (Aw (AD (AB 1) (AD (AB 2) (AD (AW Dl (AW Cz (AB 0) AE) (AB 2)) (AD (Aw AH) (AD (Cy G9 a.y9 Mi.C7 (AD (AB 5) AH)) AH)))))))))))))
theorem PL:Fn P w K mg base "_law_stream" ["_law_cell", "_law_many"] 1 (CO):=by
 obtain⟨f,fd,d⟩:=a.e2;exact As (k:=0) .drop d.F sc_Lstream (PySem.W.mg_of a.X a.G d.a) (d.F.binds λ_ _ _ _ _ _=>lq2 λ_ _=>rfl) (λ_ _ _ _ _ _ hr=>have nd:=sc_Lstream.nd;(AI (Ag 2 nd (FB AH)) (AI (Ag 3 nd (AW Cz (AB 0) AE)) (AI (LD BE PassesOwn.never (RW.rt (Ef (Ah (Ca hr) (AW Dl (AB 0) AE) AE) (Ef (Ah Xs (AB 3) AE) (EG (Ah Xp (A3 EB a.y4 Mi.Be (AD (AB 2) AH)) (AB 1)))))) (AI (CY (Bw PySem.F.slot_list_append PySem.F.type_list_append Cf (AB 2) (AD (AW Dl (AB 3) (AW Ut AE AE)) AH))) (AO (Ag 3 nd (AW Cz (AB 3) (AW Ut AE AE)))))) (AI (Ag 3 nd (AW Dl (AW LM (AW A7 (AW Cz (AB 0) AE) AE) AE) AE)) (AI (Eg PassesOwn.never rfl (Dv a.y6 (AD (AB 1) AH)) (FA 4 nd) (AI (Ag 3 nd (AW Dl (AW LM (AB 3) (AW A7 (AW A7 (AW Cz (AB 3) AE) AE) (AB 4))) AE)) (AI (CY (Bw PySem.F.slot_list_append PySem.F.type_list_append Cf (AB 2) (AD (AW Dl (AW LM (AB 3) (AW A7 (AW Cz (AB 3) AE) AE)) AE) AH))) (AO (Ag 3 nd (AW A7 (AB 3) AE)))))) (AO (Aa (Do (AB 2) DR (CZ (AB 1)))))))))))
theorem SW:Fn P w K mg base "_law_worth" ["_law_making_here", "_law_written", "_law_x"] 1 (Ck):=by
 obtain⟨f,fd,d⟩:=a.e3;exact As (k:=0) .drop d.F sc_Lworth (PySem.W.mg_of a.X a.G d.a) (d.F.binds λ_ _ _ _ _ _=>lq3 λ_ _ _=>rfl) (λ_ _ _ _ _ _ hr=>have nd:=sc_Lworth.nd;(AI (Ag 3 nd (AW A7 (Do (AB 1) (CZ (XR Xo AE)) DR) (DY (AD (AW Dl (AW Cz (AB 2) AE) (AQ AX (AB 0) AE)) (AD (AQ AX (AB 0) AE) AH))))) (AO (Aa (AQ AX (AB 3) (AW Dl (AB 2) (A3 EB a.y4 Mi.Be (AD (AB 3) AH))))))))
theorem PN:Fn P w K mg base "_law_events" ["_law_making_here", "_law_cells"] 2 (CQ):=by
 obtain⟨f,fd,d⟩:=a.e4;exact As (k:=1) .frz d.F sc_Levents (PySem.W.mg_of a.X a.G d.a) (d.F.binds λ_ _ _ _ _ _=>lq2 λ_ _=>rfl) (λ_ _ _ _ _ _ hr=>have nd:=sc_Levents.nd;(AI (Ag 2 nd (FB AH)) (AI (Ag 3 nd (FB AH)) (AI (Ag 4 nd (FB (AD (AQ AX (AB 0) AE) AH))) (AI (QM (co:=none) (tgs:=["_law_hand"]) ⟨⟨rfl,by decide +kernel,by decide +kernel,trivial,rfl,by decide +kernel⟩,rfl,⟨_,CU,λ_ _ _ _=>BL (i:=0) (show List.Nodup (["_law_hand"]:List Str) from by decide +kernel) rfl (Or.inl rfl)⟩,λ_ _ _ _=>CM,λ_ _ _ _=>(AQ AX (AB 0) AE)⟩ (DK (AQ AX (AB 0) AE)) Hy nd) (AI (Eg PassesOwn.never rfl (DK (AB 1)) (FA 6 nd) (AI (Ag 7 nd (AQ AX (A2 (PL a) hr (AD (AB 6) (AD AE AH))) AE)) (AI (Ag 8 nd (AQ AX (AB 5) (AW Dl (AB 7) (A3 EB a.y4 Mi.Be (AD (AB 5) AH))))) (AI (BG (Ah (Ca hr) (AW Dl (AW Cz (AB 7) AE) AE) AE) (AO (Ag 8 nd (AQ AX (AB 5) AE))) Aj) (AI (Ag 9 nd (AW Dl (AW Cz (AB 7) AE) (AQ AX (AB 0) AE))) (AI (Ag 10 nd (Aw (AD (AQ AX (DY (AD Aq (AD Aq AH))) (Cy VA a.y2 Mi.IJ (AD (Eh Xr (AB 8) (AB 2)) AH))) (AD (AB 8) AH)))) (AI (BG (RW.rt (Ef (Ah (Ca hr) (AB 8) (AQ AX (AB 5) AE)) (EG (Ah (Ca hr) (AQ AX (AB 10) AE) Aq)))) (AI (Ag 10 nd (AW A7 (AB 10) (Aw (AD (AB 9) AH)))) (AO (CY (Bw PySem.F.slot_list_append PySem.F.type_list_append Cf (AB 4) (AD (AB 9) AH))))) Aj) (AI (BG (RW.rt (Ef (Ah (Qq hr) (AB 8) (AQ AX (AB 5) AE)) (EG (Ah (Ca hr) (AQ AX (AB 10) AE) Aq)))) (AO (Ag 10 nd (AW A7 (AB 10) (Aw (AD (A2 (SW a) hr (AD (AB 0) (AD (AB 4) (AD (AW Cz (AB 7) AE) AH)))) AH))))) Aj) (AI (CY (Bw PySem.F.slot_list_append PySem.F.type_list_append Cf (AB 3) (AD (AB 10) AH))) (AO (BG (Ah Xr (AB 8) (AB 2)) (AO (CY (Bw PySem.F.slot_list_remove PySem.F.type_list_remove Q2 (AB 2) (AD (AB 8) AH)))) (AO (CY (Bw PySem.F.slot_list_append PySem.F.type_list_append Cf (AB 2) (AD (AB 8) AH))))))))))))))) (AO (Aa (AB 3)))))))))
theorem Ih:Fn P w K mg base "claim_begun" ["making"] 1 (Ap):=by
 obtain⟨f,fd,d⟩:=a.e5;exact As (k:=0) .drop d.F sc_claim_begun (PySem.W.mg_of a.X a.G d.a) (d.F.binds λ_ _ _ _ _ _=>lq1 λ_=>rfl) (λ_ _ _ _ _ _ hr=>have nd:=sc_claim_begun.nd;(AI (Ag 1 nd (AW Hb (A3 EB a.y4 Mi.Be (AD (AQ AX (AB 0) AE) AH)) AE)) (AI (BG (Ah (Ca hr) (AQ AX (AB 0) AE) Aq) (AO (Aa (Aw (AD (Aw (AD (AQ AX (AB 0) AE) (AD (Dj a.g1) (AD (AW Qr (Aw (AD (Dj a.g1) AH)) (AB 1)) AH)))) AH)))) Aj) (AO (Aa (Aw (AD (AQ AX (AB 0) AE) (AD (Dj a.g1) (AD (AW Qr (Aw (AD Dp AH)) (AB 1)) AH)))))))))
theorem M6:Fn P w K mg base "is_tuple" ["thing", "least", "most"] 1 (BW):=by
 obtain⟨f,fd,d⟩:=a.e6;exact As (k:=0) .drop d.F sc_is_tuple (PySem.W.mg_of a.X a.G d.a) (d.F.binds λ_ _ _ _ _ _=>lq3 λ_ _ _=>rfl) (λ_ _ _ _ _ _ hr=>have nd:=sc_is_tuple.nd;(AO (Aa (J5 (A3 Ka a.y3 Mi.CD (AD (AB 0) (AD (Gv a.y9 Mi.C7) AH))) (MY (LH T8 T8 (AB 1) (A3 EB a.y4 Mi.Be (AD (AB 0) AH)) (AB 2)))))))
theorem M5:Fn P w K mg base "is_whole" ["thing", "least", "most"] 1 (Bm):=by
 obtain⟨f,fd,d⟩:=a.e7;exact As (k:=0) .drop d.F sc_is_whole (PySem.W.mg_of a.X a.G d.a) (d.F.binds λ_ _ _ _ _ _=>lq3 λ_ _ _=>rfl) (λ_ _ _ _ _ _ hr=>have nd:=sc_is_whole.nd;(AO (Aa (J5 (A3 Ka a.y3 Mi.CD (AD (AB 0) (AD (Gv a.y2 Mi.IJ) AH))) (J5 (Vi (A3 Ka a.y3 Mi.CD (AD (AB 0) (AD (Gv a.y0 Mi.PF) AH)))) (MY (LH T8 T8 (AB 1) (AB 0) (AB 2))))))))
theorem M7:Fn P w K mg base "is_event" ["thing", "names", "size"] 2 (BJ):=by
 obtain⟨f,fd,d⟩:=a.e8;exact As (k:=1) .drop d.F sc_is_event (PySem.W.mg_of a.X a.G d.a) (d.F.binds λ_ _ _ _ _ _=>lq3 λ_ _ _=>rfl) (λ_ _ _ _ _ _ hr=>have nd:=sc_is_event.nd;(AI (BG (RW.rt (LB (FY (Cw (A2 (M6 a) hr (AD (AB 0) (AD AE (AD AE AH)))))) (LB (Ah KD (AQ AX (AB 0) AE) (Aw (AD Aq (AD Aq AH)))) (MS (Ah KD (AQ AX (AB 0) AE) (AB 1)))))) (AO (Aa FQ)) Aj) (AI (BG (Ah (Ca hr) (Eh (Ca hr) (AQ AX (AB 0) AE) Aq) (Eh (Ca hr) (AQ AX (AB 0) AE) (AQ AX (AB 1) AE))) (AO (Aa (J5 (Eh (Ca hr) (A3 EB a.y4 Mi.Be (AD (AB 0) AH)) AE) (MY (A2 (M5 a) hr (AD (AQ AX (AB 0) AE) (AD AE (AD (AW Hb (AB 2) AE) AH)))))))) Aj) (AO (Aa (Eh (Ca hr) (A3 EB a.y4 Mi.Be (AD (AB 0) AH)) AE))))))
theorem PK:Fn P w K mg base "acts_of" ["making", "events"] 3 (BF):=by
 obtain⟨f,fd,d⟩:=a.e9;exact As (k:=2) .frz d.F sc_acts_of (PySem.W.mg_of a.X a.G d.a) (d.F.binds λ_ _ _ _ _ _=>lq2 λ_ _=>rfl) (λ_ _ _ _ _ _ hr=>have nd:=sc_acts_of.nd;(AI (BG (FY (Cw (A3 Ka a.y3 Mi.CD (AD (AB 1) (AD (Gv a.y5 Mi.Je) AH))))) (AO HQ) Aj) (AI (QM (co:=none) (tgs:=["hand"]) ⟨⟨rfl,by decide +kernel,by decide +kernel,trivial,rfl,by decide +kernel⟩,rfl,⟨_,CU,λ_ _ _ _=>BL (i:=0) (show List.Nodup (["hand"]:List Str) from by decide +kernel) rfl (Or.inl rfl)⟩,λ_ _ _ _=>CM,λ_ _ _ _=>(AQ AX (AB 0) AE)⟩ (DK (AQ AX (AB 0) AE)) Hy nd) (AI (Ag 3 nd Te) (AI (Ag 4 nd (FB AH)) (AI (Ag 5 nd AE) (AI (Eg PassesOwn.never rfl (QG a.y1 (AD (AB 1) AH)) (MV (is:=[6,7]) rfl (Dx (BL (i:=6) nd rfl (by first|exact Or.inl rfl|exact Or.inr rfl)) (Dx (BL (i:=7) nd rfl (by first|exact Or.inl rfl|exact Or.inr rfl)) KA))) (AI (BG (FY (Cw (A2 (M7 a) hr (AD (AB 7) (AD (AB 2) (AD (AQ AX (AB 0) AE) AH)))))) (AO HQ) Aj) (AI (Ag 8 nd (Bw PySem.F.slot_list_index PySem.F.type_list_index Q3 (AB 2) (AD (AQ AX (AB 7) AE) AH))) (AI (BG (Ah (Ca hr) (Eh (Ca hr) (AQ AX (AB 7) AE) Aq) (Vj hr (AB 8) (AB 3))) (AO HQ) Aj) (AI (BG (Ah (Ca hr) (AQ AX (AB 7) AE) Aq) (AI (TU hr (AB 3) (AB 8) (AB 5)) (AO (Vg 5 nd AE))) Aj) (AI (CY (Bw PySem.F.slot_list_append PySem.F.type_list_append Cf (AB 4) (AD (Aw (AD (AQ AX (AB 7) AE) (AD (AB 8) (AD (HV (Ah (Ca hr) (A3 EB a.y4 Mi.Be (AD (AB 7) AH)) AE) (AQ AX (AB 7) AE) (Dj a.g2)) (AD (Tf hr (AB 3) (AB 8)) AH))))) AH))) (AO (BG (Ah (Ca hr) (AQ AX (AB 7) AE) Aq) (AO (CY (Td (AB 3) (AB 8)))) Aj)))))))) (AO (Aa (AB 4))))))))))
theorem Cq:Fn P w K mg base "with_thing" ["things", "place", "thing"] 1 (AZ):=by
 obtain⟨f,fd,d⟩:=a.e10;exact As (k:=0) .drop d.F sc_with_thing (PySem.W.mg_of a.X a.G d.a) (d.F.binds λ_ _ _ _ _ _=>lq3 λ_ _ _=>rfl) (λ_ _ _ _ _ _ hr=>have nd:=sc_with_thing.nd;(AO (Aa (AW A7 (AW A7 (Do (AB 0) DR (CZ (AB 1))) (Aw (AD (AB 2) AH))) (Do (AB 0) (CZ (AW A7 (AB 1) AE)) DR)))))
theorem GH:Fn P w K mg base "case_begun" ["case", "hand", "worth"] 2 (BB):=by
 obtain⟨f,fd,d⟩:=a.e11;exact As (k:=1) .drop d.F sc_case_begun (PySem.W.mg_of a.X a.G d.a) (d.F.binds λ_ _ _ _ _ _=>lq3 λ_ _ _=>rfl) (λ_ _ _ _ _ _ hr=>have nd:=sc_case_begun.nd;(AI (BG (Ah (Ca hr) (AB 1) AE) (AO (Aa (Aw (AD (AQ AX (AB 0) AE) (AD (AB 2) (AD (AQ AX (AB 0) AE) AH)))))) Aj) (AO (Aa (Aw (AD (AQ AX (AB 0) AE) (AD (AQ AX (AB 0) AE) (AD (A2 (Cq a) hr (AD (AQ AX (AB 0) AE) (AD (AW Hb (AB 1) AE) (AD (Dj a.g3) AH)))) AH))))))))
theorem IQ:Fn P w K mg base "moments_from" ["case"] 2 (A8):=by
 obtain⟨f,fd,d⟩:=a.e12;exact As (k:=1) .all d.F sc_moments_from (PySem.W.mg_of a.X a.G d.a) (d.F.binds λ_ _ _ _ _ _=>lq1 λ_=>rfl) (λ_ _ _ _ _ _ hr=>have nd:=sc_moments_from.nd;(AI (Ag 1 nd (FB AH)) (AI (BG (Ah Xu (AQ AX (AB 0) AE) AE) (AO (CY (Bw PySem.F.slot_list_append PySem.F.type_list_append Cf (AB 1) (AD (Aw (AD AE (AD (Aw (AD (AQ AX (AB 0) AE) (AD (Dj a.g0) (AD (AQ AX (AB 0) AE) AH)))) AH))) AH)))) Aj) (AI (Eg PassesOwn.never rfl (QF a.y1 (AD (AQ AX (AB 0) AE) AH)) (MV (is:=[2,3]) rfl (Dx (BL (i:=2) nd rfl (by first|exact Or.inl rfl|exact Or.inr rfl)) (Dx (BL (i:=3) nd rfl (by first|exact Or.inl rfl|exact Or.inr rfl)) KA))) (AO (BG (Ah (Ca hr) (AB 3) (Dj a.g3)) (AO (CY (Bw PySem.F.slot_list_append PySem.F.type_list_append Cf (AB 1) (AD (Aw (AD (AW A7 (AB 2) AE) (AD (Aw (AD (AQ AX (AB 0) AE) (AD (AQ AX (AB 0) AE) (AD (A2 (Cq a) hr (AD (AQ AX (AB 0) AE) (AD (AB 2) (AD (AQ AX (AB 0) AE) AH)))) AH)))) AH))) AH)))) Aj))) (AO (Aa (AB 1)))))))
theorem PJ:Fn P w K mg base "reached" ["cases"] 3 (CN):=by
 obtain⟨f,fd,d⟩:=a.e13;exact As (k:=2) .all d.F sc_reached (PySem.W.mg_of a.X a.G d.a) (d.F.binds λ_ _ _ _ _ _=>lq1 λ_=>rfl) (λ_ _ _ _ _ _ hr=>have nd:=sc_reached.nd;(AI (Ag 1 nd QJ) (AI (Eg PassesOwn.never rfl (DK (AB 0)) (FA 2 nd) (AO (NR hr (AB 1) (AB 2) Dp))) (AI (Ag 3 nd (Cy (Ug rfl) a.y5 Mi.Je (AD (AB 1) AH))) (AI (LD BE PassesOwn.never (NQ (AB 3)) (AI (Ag 2 nd (OU PySem.F.slot_list_pop PySem.F.type_list_pop Xy (AB 3))) (AO (TR 1000 PassesOwn.never rfl (A2 (IQ a) hr (AD (AB 2) AH)) (MV (is:=[4,5]) rfl (Dx (BL (i:=4) nd rfl (by first|exact Or.inl rfl|exact Or.inr rfl)) (Dx (BL (i:=5) nd rfl (by first|exact Or.inl rfl|exact Or.inr rfl)) KA))) (AO (BG (Ah (Qs hr) (AB 5) (AB 1)) (AI (NR hr (AB 1) (AB 5) (Aw (AD (AB 4) (AD (AB 2) AH)))) (AO (CY (Bw PySem.F.slot_list_append PySem.F.type_list_append Cf (AB 3) (AD (AB 5) AH))))) Aj)))))) (AO (Aa (AB 1))))))))
theorem GG:Fn P w K mg base "closed" ["cases"] 4 (DH):=by
 obtain⟨f,fd,d⟩:=a.e14;exact As (k:=3) .drop d.F sc_closed (PySem.W.mg_of a.X a.G d.a) (d.F.binds λ_ _ _ _ _ _=>lq1 λ_=>rfl) (λ_ _ _ _ _ _ hr=>have nd:=sc_closed.nd;(AO (Aa (Cy G9 a.y9 Mi.C7 (AD (A3 (SF hr rfl) a.y8 PyProof.Rows.boot_sorted (AD (A2 (PJ a) hr (AD (AB 0) AH)) AH)) AH)))))
theorem L8:Fn P w K mg base "beside" ["kind", "size", "worths", "coming"] 1 (B9):=by
 obtain⟨f,fd,d⟩:=a.e15;exact As (k:=0) .drop d.F sc_beside (PySem.W.mg_of a.X a.G d.a) (d.F.binds λ_ _ _ _ _ _=>lq4 λ_ _ _ _=>rfl) (λ_ _ _ _ _ _ hr=>have nd:=sc_beside.nd;(AI (BG (Ah (Ca hr) (AB 0) Aq) (AO (Aa (OT a.y9 a.y6 (AB 1)))) Aj) (AO (Aa (Cy G9 a.y9 Mi.C7 (AD (MX a.y8 a.y7 (AW A7 (AB 2) (Aw (AD (AB 3) AH)))) AH))))))
theorem IR:Fn P w K mg base "claim_writes" ["making", "claim", "worth"] 5 (Bc):=by
 obtain⟨f,fd,d⟩:=a.e16;exact As (k:=4) .drop d.F sc_claim_writes (PySem.W.mg_of a.X a.G d.a) (d.F.binds λ_ _ _ _ _ _=>lq3 λ_ _ _=>rfl) (λ_ _ _ _ _ _ hr=>have nd:=sc_claim_writes.nd;(AI (BG (Ah (Ca hr) (AQ AX (AB 0) AE) Aq) (AO (Aa (A2 (GG a) hr (AD (OW (co:=none) (tgs:=["case"]) ⟨⟨rfl,by decide +kernel,by decide +kernel,⟨Or.inl rfl,trivial⟩,rfl,by decide +kernel⟩,rfl,⟨_,CU,λ_ _ _ _=>BL (i:=0) (show List.Nodup (["case", "worth"]:List Str) from by decide +kernel) rfl (Or.inl rfl)⟩,λ_ _ _ _=>CM,λ_ _ _ _=>(A2 (GH a) hr (AD (AB 0) (AD AE (AD (AB 1) AH))))⟩ (DK (AB 1)) Hy) AH)))) Aj) (AI (QM (co:=none) (tgs:=["told"]) ⟨⟨rfl,by decide +kernel,by decide +kernel,⟨Or.inl rfl,Or.inl rfl,trivial⟩,rfl,by decide +kernel⟩,rfl,⟨_,CU,λ_ _ _ _=>BL (i:=0) (show List.Nodup (["told", "making", "worth"]:List Str) from by decide +kernel) rfl (Or.inl rfl)⟩,λ_ _ _ _=>CM,λ_ _ _ _=>(HV (Ah Xq (AB 0) Dp) (AB 0) (A2 (L8 a) hr (AD (AQ AX (AB 1) AE) (AD (AQ AX (AB 1) AE) (AD (AB 0) (AD (AB 2) AH))))))⟩ (DK (AQ AX (AB 1) AE)) Hy nd) (AO (Aa (Aw (AD (AQ AX (AB 1) AE) (AD (AB 2) (AD (Cy G9 a.y9 Mi.C7 (AD (AB 3) AH)) AH)))))))))
theorem Ki:Fn P w K mg base "case_ended" ["case", "hand", "worth"] 2 (A6):=by
 obtain⟨f,fd,d⟩:=a.e17;exact As (k:=1) .drop d.F sc_case_ended (PySem.W.mg_of a.X a.G d.a) (d.F.binds λ_ _ _ _ _ _=>lq3 λ_ _ _=>rfl) (λ_ _ _ _ _ _ hr=>have nd:=sc_case_ended.nd;(AI (BG (Ah (Ca hr) (AB 1) AE) (AO (Aa (HV (Ah (Ca hr) (AQ AX (AB 0) AE) (Dj a.g0)) (Aw (AD (AQ AX (AB 0) AE) (AD (Dj a.g1) (AD (AQ AX (AB 0) AE) AH)))) Dp))) Aj) (AO (Aa (HV (Ah (Ca hr) (AQ AX (AQ AX (AB 0) AE) (AW Hb (AB 1) AE)) (AB 2)) (Aw (AD (AQ AX (AB 0) AE) (AD (AQ AX (AB 0) AE) (AD (A2 (Cq a) hr (AD (AQ AX (AB 0) AE) (AD (AW Hb (AB 1) AE) (AD (Dj a.g1) AH)))) AH)))) Dp)))))
theorem FT:Fn P w K mg base "cases_ended" ["cases", "hand", "worth"] 3 (BD):=by
 obtain⟨f,fd,d⟩:=a.e18;exact As (k:=2) .drop d.F sc_cases_ended (PySem.W.mg_of a.X a.G d.a) (d.F.binds λ_ _ _ _ _ _=>lq3 λ_ _ _=>rfl) (λ_ _ _ _ _ _ hr=>have nd:=sc_cases_ended.nd;(AI (QM (co:=none) (tgs:=["case"]) ⟨⟨rfl,by decide +kernel,by decide +kernel,⟨Or.inl rfl,Or.inl rfl,trivial⟩,rfl,by decide +kernel⟩,rfl,⟨_,CU,λ_ _ _ _=>BL (i:=0) (show List.Nodup (["case", "hand", "worth"]:List Str) from by decide +kernel) rfl (Or.inl rfl)⟩,λ_ _ _ _=>CM,λ_ _ _ _=>(A2 (Ki a) hr (AD (AB 0) (AD (AB 1) (AD (AB 2) AH))))⟩ (DK (AB 0)) Hy nd) (AO (Aa (OW (co:=(some _)) (tgs:=["case"]) ⟨⟨rfl,by decide +kernel,by decide +kernel,trivial,rfl,by decide +kernel⟩,rfl,⟨_,CU,λ_ _ _ _=>BL (i:=0) (show List.Nodup (["case"]:List Str) from by decide +kernel) rfl (Or.inl rfl)⟩,λ_ _ _ _=>HY (Ah T9 (AB 0) Dp),λ_ _ _ _=>(AB 0)⟩ (DK (AB 3)) Hy)))))
theorem Gq:Fn P w K mg base "claim_written" ["making", "claim"] 5 (BQ):=by
 obtain⟨f,fd,d⟩:=a.e19;exact As (k:=4) .drop d.F sc_claim_written (PySem.W.mg_of a.X a.G d.a) (d.F.binds λ_ _ _ _ _ _=>lq2 λ_ _=>rfl) (λ_ _ _ _ _ _ hr=>have nd:=sc_claim_written.nd;(AI (BG (Ah (Ca hr) (AQ AX (AB 0) AE) Aq) (AO (Aa (A2 (GG a) hr (AD (A2 (FT a) hr (AD (AB 1) (AD AE (AD (Dj a.g1) AH)))) AH)))) Aj) (AO (Aa (Aw (AD (AQ AX (AB 1) AE) (AD (Dj a.g1) (AD (AQ AX (AB 1) AE) AH))))))))
theorem Ig:Fn P w K mg base "claim_reads" ["making", "claim", "reader"] 5 (Bq):=by
 obtain⟨f,fd,d⟩:=a.e20;exact As (k:=4) .drop d.F sc_claim_reads (PySem.W.mg_of a.X a.G d.a) (d.F.binds λ_ _ _ _ _ _=>lq3 λ_ _ _=>rfl) (λ_ _ _ _ _ _ hr=>have nd:=sc_claim_reads.nd;(AI (BG (Ah (Ca hr) (AQ AX (AB 0) AE) Aq) (AO (Aa (A2 (GG a) hr (AD (OW (co:=none) (tgs:=["case"]) ⟨⟨rfl,by decide +kernel,by decide +kernel,⟨Or.inl rfl,trivial⟩,rfl,by decide +kernel⟩,rfl,⟨_,CU,λ_ _ _ _=>BL (i:=0) (show List.Nodup (["case", "reader"]:List Str) from by decide +kernel) rfl (Or.inl rfl)⟩,λ_ _ _ _=>CM,λ_ _ _ _=>(A2 (GH a) hr (AD (AB 0) (AD (AW A7 (AB 1) AE) (AD (Dj a.g1) AH))))⟩ (DK (AB 1)) Hy) AH)))) Aj) (AI (Ag 3 nd (Aw (AD (AQ AX (AB 1) AE) AH))) (AI (BG (Ah (Qq hr) (AQ AX (AB 1) AE) (Dj a.g1)) (AO (Ag 3 nd (A2 (L8 a) hr (AD (AQ AX (AB 0) AE) (AD (AQ AX (AB 0) AE) (AD (AB 3) (AD (AQ AX (AB 1) AE) AH))))))) Aj) (AO (Aa (Aw (AD (AQ AX (AB 1) AE) (AD (AQ AX (AB 1) AE) (AD (A2 (Cq a) hr (AD (AQ AX (AB 1) AE) (AD (AB 2) (AD (AB 3) AH)))) AH))))))))))
theorem Kh:Fn P w K mg base "claim_told" ["making", "claim", "reader", "worth"] 5 (Bn):=by
 obtain⟨f,fd,d⟩:=a.e21;exact As (k:=4) .drop d.F sc_claim_told (PySem.W.mg_of a.X a.G d.a) (d.F.binds λ_ _ _ _ _ _=>lq4 λ_ _ _ _=>rfl) (λ_ _ _ _ _ _ hr=>have nd:=sc_claim_told.nd;(AI (BG (Ah (Ca hr) (AQ AX (AB 0) AE) Aq) (AI (Ag 4 nd (A2 (FT a) hr (AD (AB 1) (AD (AW A7 (AB 2) AE) (AD (AB 3) AH))))) (AO (Aa (HV (NQ (AB 4)) (A2 (GG a) hr (AD (AB 4) AH)) Dp)))) Aj) (AI (BG (Ah KD (AB 3) (AQ AX (AQ AX (AB 1) AE) (AB 2))) (AO (Aa Dp)) Aj) (AO (Aa (Aw (AD (AQ AX (AB 1) AE) (AD (AQ AX (AB 1) AE) (AD (A2 (Cq a) hr (AD (AQ AX (AB 1) AE) (AD (AB 2) (AD Dp AH)))) AH)))))))))
theorem IS:Fn P w K mg base "claim_behind" ["making", "claim", "act"] 6 (Ac):=by
 obtain⟨f,fd,d⟩:=a.e22;exact As (k:=5) .drop d.F sc_claim_behind (PySem.W.mg_of a.X a.G d.a) (d.F.binds λ_ _ _ _ _ _=>lq3 λ_ _ _=>rfl) (λ_ _ _ _ _ _ hr=>have nd:=sc_claim_behind.nd;(AI (Ag 3 nd (Eh (Ca hr) (AQ AX (AB 2) AE) Aq)) (AI (BG (Ah (Ca hr) (AQ AX (AB 2) AE) AE) (AO (Aa (HV (Cw (AB 3)) (A2 (IR a) hr (AD (AB 0) (AD (AB 1) (AD (AQ AX (AB 2) AE) AH)))) (A2 (Gq a) hr (AD (AB 0) (AD (AB 1) AH)))))) Aj) (AI (Ag 4 nd (AW Hb (AQ AX (AB 2) AE) AE)) (AO (Aa (HV (Cw (AB 3)) (A2 (Ig a) hr (AD (AB 0) (AD (AB 1) (AD (AB 4) AH)))) (A2 (Kh a) hr (AD (AB 0) (AD (AB 1) (AD (AB 4) (AD (AQ AX (AB 2) AE) AH))))))))))))
theorem SV:Fn P w K mg base "judged" ["making", "events"] 7 (Dd):=by
 obtain⟨f,fd,d⟩:=a.e23;exact As (k:=6) .drop d.F sc_judged (PySem.W.mg_of a.X a.G d.a) (d.F.binds λ_ _ _ _ _ _=>lq2 λ_ _=>rfl) (λ_ _ _ _ _ _ hr=>have nd:=sc_judged.nd;(AI (Ag 2 nd (A2 (Ih a) hr (AD (AB 0) AH))) (AI (Eg PassesOwn.never rfl (DK (A2 (PK a) hr (AD (AB 0) (AD (AB 1) AH)))) (FA 3 nd) (AI (Ag 2 nd (A2 (IS a) hr (AD (AB 0) (AD (AB 2) (AD (AB 3) AH))))) (AO (BG (Ah Xq (AB 2) Dp) (AO (Aa FQ)) Aj)))) (AO (Aa FQ)))))
theorem L9:Fn P w K mg base "_law_kinds" ["_law_making_here", "_law_events_here"] 8 (Et):=by
 obtain⟨f,fd,d⟩:=a.e24;exact As (k:=7) .drop d.F sc_Lkinds (PySem.W.mg_of a.X a.G d.a) (d.F.binds λ_ _ _ _ _ _=>lq2 λ_ _=>rfl) (λ_ _ _ _ _ _ hr=>have nd:=sc_Lkinds.nd;(AO (Aa (OW (co:=none) (tgs:=["_law_kind"]) ⟨⟨rfl,by decide +kernel,by decide +kernel,⟨Or.inl rfl,Or.inl rfl,trivial⟩,rfl,by decide +kernel⟩,rfl,⟨_,CU,λ_ _ _ _=>BL (i:=0) (show List.Nodup (["_law_kind", "_law_events_here", "_law_making_here"]:List Str) from by decide +kernel) rfl (Or.inl rfl)⟩,λ_ _ _ _=>CM,λ_ _ _ _=>(A2 (SV a) hr (AD (AW A7 (Aw (AD (AB 0) AH)) (Do (AB 2) (CZ AE) DR)) (AD (AB 1) AH)))⟩ (DK (DY (AD Aq (AD Aq (AD Aq AH))))) Hy))))
theorem SX:Fn P w K mg base "_law_later" ["_law_events_here", "_law_at"] 1 (F4):=by
 obtain⟨f,fd,d⟩:=a.e25;exact As (k:=0) .drop d.F sc_Llater (PySem.W.mg_of a.X a.G d.a) (d.F.binds λ_ _ _ _ _ _=>lq2 λ_ _=>rfl) (λ_ _ _ _ _ _ hr=>have nd:=sc_Llater.nd;(AI (BG (RW.rt (LB (Ah (Qq hr) (AQ AX (AQ AX (AB 0) (AB 1)) AE) Aq) (LB (Ah Xu (AW A7 (AB 1) AE) (A3 EB a.y4 Mi.Be (AD (AB 0) AH))) (MS (Ah (Ca hr) (AQ AX (AQ AX (AB 0) (AW A7 (AB 1) AE)) AE) (AQ AX (AQ AX (AB 0) (AB 1)) AE)))))) (AO (Aa (AB 0))) Aj) (AO (Aa (AW A7 (AW A7 (Do (AB 0) DR (CZ (AB 1))) (DY (AD (AQ AX (AB 0) (AW A7 (AB 1) AE)) (AD (AQ AX (AB 0) (AB 1)) AH)))) (Do (AB 0) (CZ (AW A7 (AB 1) AE)) DR))))))
end
theorem all_mk{l:PySem.W.OpenLaw}{w:World}{K:PySem.W.Frag}{h:Heap}{mg:Str->Option Value}{fa:Addr}(hφ:∀ns:List Int,ns.length<=63->∃Z',Rk [.scr ns] []=some (.bl true,Z'))(a:Al w K mg h)(hfa:mg "law" = some (.ref fa)):
  ∃fd:FuncData,(∀(s:Shared) (v:Value),BindsTo s fd ⟨[v],[]⟩ [("_law_script",v)])/\∀base:Heap,K.In base->base.Ns mainGlobals mg->FnOk l.prog w K mg base CX0 9 fa fd ["_law_script"] (NN K):=by
 obtain⟨fa_law,fd_law,d⟩:=a.e26;have e:=hfa.symm.trans (PySem.W.mg_of a.X a.G d.a);cases e;refine⟨fd_law,λs v=>?_,λbase _ _=>?_⟩
 ·obtain⟨oc,od,kV,doc,pm,an,cdv,ct,osl,rfl,lk,hcd⟩:=d.F.ex;exact .of_eq rfl
 exact VR (φ:=Rk) (Rh (k:=8) .drop d.F sc_law (λ_ _ _ _ _ _ hr=>have nd:=sc_law.nd;(AI (Ag 1 nd (A2 (PM a) hr (AD (A2 (M8 a) hr (AD (AB 0) (AD AE AH))) (AD Aq AH)))) (AI (Ag 2 nd (A2 (PN a) hr (AD (AB 1) (AD (Do (AB 0) (CZ AE) (CZ (AW Hb AE (AW LM AE (Cy VA a.y2 Mi.IJ (AD (Eh Xs (A3 EB a.y4 Mi.Be (AD (AQ AX (AB 1) AE) AH)) AE) AH)))))) AH)))) (AI (Ag 3 nd (DY (AD FQ (AD FQ (AD FQ AH))))) (AI (Eg PassesOwn.never rfl (Dv a.y6 (AD (AW A7 (A3 EB a.y4 Mi.Be (AD (AB 2) AH)) AE) AH)) (FA 4 nd) (AI (Ag 5 nd (A2 (L9 a) hr (AD (AB 1) (AD (Do (AB 2) DR (CZ (AB 4))) AH)))) (AI (BG (RW.rt (LB (RW.rt (Ef (Cw (AQ AX (AB 5) AE)) (EG (FY (Cw (AQ AX (AB 5) AE)))))) (MS (RW.rt (Ef (Cw (AQ AX (AB 5) AE)) (EG (FY (Cw (AQ AX (AB 5) AE))))))))) (AO (Aa FQ)) Aj) (AI (BG (Ah (Qq hr) (OW (co:=(some _)) (tgs:=["_law_k"]) ⟨⟨rfl,by decide +kernel,by decide +kernel,⟨Or.inl rfl,Or.inl rfl,trivial⟩,rfl,by decide +kernel⟩,rfl,⟨_,CU,λ_ _ _ _=>BL (i:=0) (show List.Nodup (["_law_k", "_law_ahead", "_law_found"]:List Str) from by decide +kernel) rfl (Or.inl rfl)⟩,λ_ _ _ _=>HY (RW.rt (Ef (Cw (AQ AX (AB 2) (AB 0))) (EG (FY (Cw (AQ AX (AB 1) (AB 0))))))),λ_ _ _ _=>(AB 0)⟩ (Dv a.y6 (AD AE AH)) Hy) (DY AH)) (AO (Aa FQ)) Aj) (AO (Ag 3 nd (AB 5))))))) (AI (Eg PassesOwn.never rfl (Dv a.y6 (AD (A3 EB a.y4 Mi.Be (AD (AB 2) AH)) AH)) (FA 6 nd) (AI (Ag 7 nd (A2 (L9 a) hr (AD (AB 1) (AD (A2 (SX a) hr (AD (AB 2) (AD (AB 6) AH))) AH)))) (AO (BG (Ah (Qq hr) (OW (co:=(some _)) (tgs:=["_law_k"]) ⟨⟨rfl,by decide +kernel,by decide +kernel,⟨Or.inl rfl,Or.inl rfl,trivial⟩,rfl,by decide +kernel⟩,rfl,⟨_,CU,λ_ _ _ _=>BL (i:=0) (show List.Nodup (["_law_k", "_law_ahead", "_law_later_here"]:List Str) from by decide +kernel) rfl (Or.inl rfl)⟩,λ_ _ _ _=>HY (RW.rt (Ef (Cw (AQ AX (AB 1) (AB 0))) (EG (FY (Cw (AQ AX (AB 2) (AB 0))))))),λ_ _ _ _=>(AB 0)⟩ (Dv a.y6 (AD AE AH)) Hy) (DY AH)) (AO (Aa FQ)) Aj)))) (AO (Aa FQ))))))))) hφ
end K15
namespace Hs
open PySem PySem.SetTable
end Hs
namespace Hs
open PySem PySem.SetTable Ht
end Hs
set_option maxHeartbeats 4000000
namespace Hs
open PySem PySem.Spec PyProof.Rows Nk
end Hs
set_option maxHeartbeats 4000000
namespace Hs
open PySem PySem.Spec PyProof.Rows Nk PySem.SetTable Ht
end Hs
set_option maxHeartbeats 4000000
namespace Hs
open PySem PySem.Spec PyProof.Rows Nk PySem.SetTable Ht
end Hs
set_option maxHeartbeats 4000000
namespace Hs
open PySem PySem.Spec PyProof.Rows Nk PySem.SetTable Ht
end Hs
set_option maxHeartbeats 4000000
namespace Hs
open PySem PySem.Spec PyProof.Rows Nk PySem.SetTable Ht
end Hs
set_option maxHeartbeats 4000000
namespace Hs
open PySem PySem.Spec PyProof.Rows Nk PySem.SetTable Ht
end Hs
set_option maxHeartbeats 4000000
namespace Hs
open PySem PySem.Spec PyProof.Rows Sem L2 Nk PySem.SetTable Ht
section
variable{α:Type}[DecidableEq α]
end
end Hs
namespace Hs
open PySem PySem.Spec PyProof.Rows Sem L2 Nk Ht
end Hs
set_option maxHeartbeats 4000000
namespace Hs
open PySem PySem.Spec PyProof.Rows PySem.SeqAt Nk Ht
end Hs
set_option maxHeartbeats 4000000
namespace Hs
open PySem PySem.Spec PyProof.Rows Nk PySem.SetTable Ht L2
end Hs
set_option maxHeartbeats 4000000
namespace Hs
open PySem PySem.Spec PyProof.Rows Nk PySem.SetTable Ht L2
end Hs
set_option maxHeartbeats 4000000
namespace Hs
open PySem PySem.Spec PyProof.Rows Nk PySem.SetTable Ht L2
end Hs
namespace Mi
open PySem L2 Ht Nk PySem.SeqAt
end Mi
set_option maxHeartbeats 2000000
namespace Mi
open PySem PySem.Spec PyProof.Rows L2 Ht Nk Hs
end Mi
set_option maxHeartbeats 2000000
namespace Mi
open PySem PySem.Spec PyProof.Rows L2 Ht Nk Hs
end Mi
namespace K12
open PySem L2 Mi
end K12
namespace Mi
open PySem L2
section
variable{B w9:Sl}{Z w5 w6 x8 u4:Mh}{d x y z:D}{ds:List D}{ma mb mc:Sl->M D}{tc tb:Sl->M Bool}{b:Bool}{m1 m2:Sl->M (Fl×Sl)}{g g':D->D->M D}{r:Fl×Sl}
theorem Ar{i:Nat}(h:B[i]?=some (some d)):AA i B Z=some (d,Z):=by unfold AA;rw[h]
theorem Lg(h1:ma B Z=some (x,w5))(h2:mb B w5=some (y,w6))(h3:g x y w6=some (d,x8)):mOp g ma mb B Z=some (d,x8):=by unfold mOp;rw[AM h1,AM h2,h3]
theorem Nq{u:D->M D}(h1:ma B Z=some (x,w5))(h3:u x w5=some (d,x8)):mUn u ma B Z=some (d,x8):=by unfold mUn;rw[AM h1,h3]
theorem Ew{as:Sl->M (List D)}(h1:ma B Z=some (x,w5))(h2:as B w5=some (ds,w6)):AC ma as B Z=some (x::ds,w6):=by unfold AC;rw[AM h1,AM h2];rfl
theorem Bu{f:List D->M D}{as:Sl->M (List D)}(h1:as B Z=some (ds,w5))(h2:f ds w5=some (d,w6)):AG f as B Z=some (d,w6):=by unfold AG;rw[AM h1,h2]
theorem Cm{f:D->List D->M D}{as:Sl->M (List D)}{u:Unit}(h1:ma B Z=some (x,w5))(h0:EO x w5=some (u,w6))(h2:as B w6=some (ds,x8))(h3:f x ds x8=some (d,u4)):Ai f ma as B Z=some (d,u4):=by unfold Ai;rw[AM h1,AM h0,AM h2,h3]
theorem AR(h:ma B Z=some (.bl b,w5)):AK ma B Z=some (b,w5):=by unfold AK;rw[AM h];rfl
theorem Fb(h:tc B Z=some (b,w5)):Dh tc B Z=some (!b,w5):=by unfold Dh;rw[AM h];rfl
theorem B6(h1:tc B Z=some (true,w5))(h2:tb B w5=some (b,w6)):C5 tc tb B Z=some (b,w6):=by unfold C5;rw[AM h1,if_pos rfl,h2]
theorem DA(h1:tc B Z=some (false,w5)):C5 tc tb B Z=some (false,w5):=by unfold C5;rw[AM h1];rfl
theorem Mt(h1:tc B Z=some (true,w5)):mOr tc tb B Z=some (true,w5):=by unfold mOr;rw[AM h1];rfl
theorem EQ(h1:tc B Z=some (false,w5))(h2:tb B w5=some (b,w6)):mOr tc tb B Z=some (b,w6):=by unfold mOr;rw[AM h1,if_neg (by decide),h2]
theorem Ex(h1:ma B Z=some (.bl true,w5))(h2:mb B w5=some (d,w6)):Ep ma mb B Z=some (d,w6):=by
 unfold Ep;rw[AM h1,AM (show asB (.bl true) w5=some (true,w5) from rfl),if_pos rfl,h2]
theorem UZ(h:ma B Z=some (.bl b,w5)):LS ma B Z=some (.bl (!b),w5):=by
 unfold LS;rw[AM h,AM (show asB (.bl b) w5=some (b,w5) from rfl)];rfl
theorem GW(h1:ma B Z=some (x,w5))(h2:mb B w5=some (y,w6))(h3:g x y w6=some (.bl true,x8))(h4:mc B x8=some (z,u4))(h5:g' y z u4=some (d,u4)):Eo g g' ma mb mc B Z=some (d,u4):=by
 unfold Eo;rw[AM h1,AM h2,AM h3,AM (show asB (.bl true) x8=some (true,x8) from rfl),if_pos rfl,AM h4,h5]
theorem Nr{i:Int}(h:ma B Z=some (.int i,w5)):Ch ma B Z=some (some i,w5):=by unfold Ch;rw[AM h];rfl
theorem AV(h1:m1 B Z=some ((.next,w9),w5))(h2:m2 w9 w5=some (r,w6)):AT m1 m2 B Z=some (r,w6):=by unfold AT;rw[AM h1];exact h2
theorem CC(h1:m1 B Z=some ((.rt d,w9),w5)):AT m1 m2 B Z=some ((.rt d,w9),w5):=by unfold AT;rw[AM h1];rfl
theorem Cn(h1:ma B Z=some (d,w5)):A5 ma B Z=some ((.next,B),w5):=by unfold A5;rw[AM h1];rfl
theorem Dr(h1:ma B Z=some (d,w5)):Av ma B Z=some ((.rt d,B),w5):=by unfold Av;rw[AM h1];rfl
theorem De(h1:tc B Z=some (true,w5))(h2:m1 B w5=some (r,w6)):sIf tc m1 m2 B Z=some (r,w6):=by unfold sIf;rw[AM h1,if_pos rfl,h2]
theorem CK(h1:tc B Z=some (false,w5))(h2:m2 B w5=some (r,w6)):sIf tc m1 m2 B Z=some (r,w6):=by unfold sIf;rw[AM h1,if_neg (by decide),h2]
theorem Ds{bf:D->Sl->M Sl}(h1:ma B Z=some (d,w5))(h2:bf d B w5=some (w9,w6)):Af ma bf B Z=some ((.next,w9),w6):=by unfold Af;rw[AM h1,AM h2];rfl
theorem Eu{src:Sl->M (List D)}{bf:D->Sl->M Sl}(h1:src B Z=some (ds,w5))(h2:DE bf m1 ds B w5=some (r,w6)):Fp src bf m1 B Z=some (r,w6):=by unfold Fp;rw[AM h1,h2]
theorem RK{i j:Int}(h:i<=j):IW (.int i) (.int j) Z=some (.bl true,Z):=by show some (D.bl (decide (i<=j)),Z)=_;rw[AAO h]
theorem Dc{i j:Int}(h:0<j):Ba (.int i) (.int j) Z=some (.int (i % j),Z):=by show (if 0<j then some (D.int (i % j),Z) else none)=_;rw[if_pos h]
theorem Cj{i j:Int}(h:0<j)(h2:j<1073741824):BO (.int i) (.int j) Z=some (.int (i / j),Z):=by show (if 0<j/\j<1073741824 then some (D.int (i / j),Z) else none)=_;rw[if_pos ⟨h,h2⟩]
theorem Ng{i j:Int}(h:(-(2 ^ 64)<i/\i<2 ^ 64)∨(-(2 ^ 64)<j/\j<2 ^ 64)):GZ (.int i) (.int j) Z=some (.int (i * j),Z):=by show (if (-(2 ^ 64)<i/\i<2 ^ 64)∨(-(2 ^ 64)<j/\j<2 ^ 64) then some (D.int (i * j),Z) else none)=_;rw[if_pos h]
theorem JG{i:Int}:D5 [.int i,.ty "int"] Z=some (.bl true,Z):=by
 show (EV "int" "int").map (λb=>(D.bl b,Z))=_;rw[show EV "int" "int" = some true from by decide];rfl
theorem JH{i:Int}:D5 [.int i,.ty "bool"] Z=some (.bl false,Z):=by
 show (EV "int" "bool").map (λb=>(D.bl b,Z))=_;rw[show EV "int" "bool" = some false from by decide];rfl
theorem JF{ds:List D}:D5 [.tup ds,.ty "tuple"] Z=some (.bl true,Z):=by
 show (EV "tuple" "tuple").map (λb=>(D.bl b,Z))=_;rw[show EV "tuple" "tuple" = some true from by decide];rfl
theorem LU{ds:List D}{i:Int}(h2:atI ds i=some d):AL (.tup ds) (.int i) Z=some (d,Z):=by
 show bnd (BP (.tup ds)) (λds=>ixD ds i) Z=_;rw[AM (show BP (.tup ds) Z=some (ds,Z) from rfl)];unfold ixD;rw[h2];rfl
theorem Gb{ds:List D}{i:Int}(h2:atI ds i=some d):AL (.lst ds) (.int i) Z=some (d,Z):=by
 show bnd (BP (.lst ds)) (λds=>ixD ds i) Z=_;rw[AM (show BP (.lst ds) Z=some (ds,Z) from rfl)];unfold ixD;rw[h2];rfl
end
end Mi
local macro_rules | `(tactic| wtm_at "i")=>`(tactic| first|rfl|assumption)
local macro_rules | `(tactic| wtm_at "a")=>`(tactic| first
 |(with_reducible apply Mi.ev_nil)|(with_reducible apply Mi.ev_nilA)|(with_reducible apply Mi.ev_c)|(with_reducible apply Mi.ev_noPart)|(with_reducible apply Mi.ev_retN)
 |((with_reducible apply Mi.Ar);first|rfl|assumption)
 |((with_reducible apply Mi.CC);wtm_at "a")
 |((with_reducible apply Mi.AV);(wtm_at "a");(wtm_at "a"))
 |((with_reducible apply Mi.Ds);(wtm_at "a");(wtm_at "a"))
 |((with_reducible apply Mi.ev_name);rfl)
 |((with_reducible apply Mi.ev_sub);(wtm_at "a");(wtm_at "a");(wtm_at "a"))
 |((with_reducible apply Mi.Cn);wtm_at "a")
 |((with_reducible apply Mi.Dr);wtm_at "a")
 |((with_reducible apply Mi.De);(wtm_at "a");(wtm_at "a"))
 |((with_reducible apply Mi.CK);(wtm_at "a");(wtm_at "a"))
 |((with_reducible apply Mi.Lg);(wtm_at "a");(wtm_at "a");(wtm_at "a"))
 |((with_reducible apply Mi.Nq);(wtm_at "a");(wtm_at "a"))
 |((with_reducible apply Mi.Bu);(wtm_at "a");(wtm_at "a"))
 |((with_reducible apply Mi.Ew);(wtm_at "a");(wtm_at "a"))
 |((with_reducible apply Mi.Cm);(wtm_at "a");(wtm_at "a");(wtm_at "a");(wtm_at "a"))
 |((with_reducible apply Mi.AR);wtm_at "a")
 |((with_reducible apply Mi.ev_notT);wtm_at "a")
 |((with_reducible apply Mi.ev_notF);wtm_at "a")
 |((with_reducible apply Mi.B6);(wtm_at "a");(wtm_at "a"))
 |((with_reducible apply Mi.DA);wtm_at "a")
 |((with_reducible apply Mi.EQ);(wtm_at "a");(wtm_at "a"))
 |((with_reducible apply Mi.Mt);wtm_at "a")
 |((with_reducible apply Mi.Ex);(wtm_at "a");(wtm_at "a"))
 |((with_reducible apply Mi.ev_andVF);wtm_at "a")
 |((with_reducible apply Mi.ev_orVF);(wtm_at "a");(wtm_at "a"))
 |((with_reducible apply Mi.ev_orVT);wtm_at "a")
 |((with_reducible apply Mi.ev_notVT);wtm_at "a")
 |((with_reducible apply Mi.ev_notVF);wtm_at "a")
 |((with_reducible apply Mi.GW);(wtm_at "a");(wtm_at "a");(wtm_at "a");(wtm_at "a");(wtm_at "a"))
 |((with_reducible apply Mi.ev_chainF);(wtm_at "a");(wtm_at "a");(wtm_at "a"))
 |((with_reducible apply Mi.Nr);wtm_at "a")
 |((with_reducible apply Mi.ev_sl);(wtm_at "a");(wtm_at "a");(wtm_at "a");(wtm_at "a"))
 |wtm_at "i")
local macro_rules | `(tactic| wtm_at "g")=>`(tactic| first|assumption|decide|omega)
local macro_rules | `(tactic| wtm_at "i")=>`(tactic| first
 |((with_reducible apply Mi.RK);wtm_at "g")|((with_reducible apply Mi.l_leF);wtm_at "g")|((with_reducible apply Mi.l_lt);wtm_at "g")|((with_reducible apply Mi.l_ltF);wtm_at "g")|((with_reducible apply Mi.l_gt);wtm_at "g")|((with_reducible apply Mi.l_gtF);wtm_at "g")
 |(with_reducible apply Mi.JG)|(with_reducible apply Mi.JH)|(with_reducible apply Mi.l_inst_ss)|(with_reducible apply Mi.JF)|(with_reducible apply Mi.l_add)|(with_reducible apply Mi.l_sub)|((with_reducible apply Mi.Dc);wtm_at "g")|((with_reducible apply Mi.Cj);(wtm_at "g");(wtm_at "g"))|((with_reducible apply Mi.Ng);first|(left;omega)|(right;omega))
 |((with_reducible apply Mi.LU);rfl)|((with_reducible apply Mi.Gb);rfl)|((with_reducible apply Mi.l_ixRef);(first|assumption|rfl);(rfl))|((with_reducible apply Mi.l_set);(first|assumption|rfl);(rfl)))
set_option maxHeartbeats 4000000
namespace K13
open PySem L2 Mi Ht
noncomputable def kdS:Bool->Str
 |true => "safe"
 |false => "steady"
noncomputable def hdD(n:Str):D:=.tup [.str n,.int 0,.tup []]
noncomputable def mkD(sf:Bool)(sz bg:Int)(ns:List Str):D:=.tup [.str (kdS sf),.int sz,.int bg,.tup [],.tup (ns.map hdD)]
noncomputable def tD:Option (List Int)->D
 |none=>.non
 |some l=>.tup (l.map D.int)
noncomputable def clD(w c:Int)(ts:List (Option (List Int))):D:=.tup [.int w,.int c,.tup (ts.map tD)]
noncomputable def KG(n:Nat):List Int:=(List.range n).map Int.ofNat
noncomputable def bsd(sf:Bool)(sz:Int)(l:List Int)(v:Int):List Int:=if sf then KG sz.toNat else srt (l++[v])
theorem Ak{α:Type}{f:α->D}{k:Nat}(h:∀a,Cl k (f a)):∀xs:List α,ClL k (xs.map f)
 |[]=>by unfold ClL;trivial
 |x::xs=>by
  rw[AAW];unfold ClL;exact⟨h x,Ak h xs⟩
theorem BC(k:Nat)(i:Int):Cl k (.int i):=by unfold Cl;trivial
theorem Ja(k:Nat):∀t,Cl k (tD t)
 |none=>by unfold tD Cl;trivial
 |some l=>by unfold tD Cl;exact Ak (BC k) l
theorem Fc(k:Nat)(w c:Int)(ts:List (Option (List Int))):Cl k (clD w c ts):=by
 unfold clD Cl ClL;refine⟨BC _ _,?_⟩;unfold ClL;refine⟨BC _ _,?_⟩;unfold ClL;refine⟨by unfold Cl;exact Ak (Ja k) ts,by unfold ClL;trivial⟩
section
variable{Z w5 w6 x8 u4:Mh}{B w9:Sl}{x0 d:D}{ds es:List D}
theorem Ad(h:ds.length<=sizeLine):Ax ds Z=some (.tup ds,Z):=by
 unfold Ax;rw[AM (show lim ds.length Z=some ((),Z) from by unfold lim;rw[if_pos h])];rfl
theorem Am(h:ds.length<=sizeLine):BT ds Z=some (.lst ds,Z):=by
 unfold BT;rw[AM (show lim ds.length Z=some ((),Z) from by unfold lim;rw[if_pos h])];rfl
theorem Rn{ma:Sl->M D}{l h:Sl->M (Option Int)}{a b:Option Int}(h1:ma B Z=some (x0,w5))(h2:l B w5=some (a,w6))(h3:h B w6=some (b,x8))(h4:NT a b x0 x8=some (d,u4)):EZ ma l h B Z=some (d,u4):=by unfold EZ;rw[AM h1,AM h2,AM h3,h4]
theorem EK(h:ds.length+es.length<=sizeLine):Ab (.tup ds) (.tup es) Z=some (.tup (ds++es),Z):=by
 cases ds with
 |nil=>rfl
 |cons a as=>exact Ad (by simp at h ⊢;omega)
theorem Gz(h:ds.length+es.length<=sizeLine):Ab (.lst ds) (.lst es) Z=some (.lst (ds++es),Z):=Am (by simpa using h)
theorem EF{x:Str}(h:PyData.strOk x=true):SeqAt.shaped (.str x)=true:=by
 show (PyData.strOk x&&decide ((PyData.str x).depth<=64))=true;rw[h];rfl
theorem Hj{x y:Str}(h1:PyData.strOk x=true)(h2:PyData.strOk y=true):AY (.str x) (.str y) Z=some (.bl (x==y),Z):=by
 show (if SeqAt.shaped (.str x)=true/\SeqAt.shaped (.str y)=true then some (D.bl (x==y),Z) else none)=_;rw[if_pos ⟨EF h1,EF h2⟩]
theorem U2:∀sf,PyData.strOk (kdS sf)=true:=by decide +kernel
theorem RP:∀sf,(kdS sf==("whole" : Str))=false:=by decide +kernel
theorem UM:∀sf,(kdS sf==("safe" : Str))=sf:=by decide +kernel
theorem UI{sf:Bool}:AY (.str (kdS sf)) (.str "whole") Z=some (.bl false,Z):=by rw[Hj (U2 sf) (by decide +kernel),RP]
theorem RH{sf:Bool}:AY (.str (kdS sf)) (.str "safe") Z=some (.bl sf,Z):=by rw[Hj (U2 sf) (by decide +kernel),UM]
theorem BN:sizeLine=16777216:=by decide
theorem UJ{l:List Int}(h:(BS l).length<=18):Fi (.tup (l.map D.int)) Z=some (.lst ((srt l).map D.int),Z):=by
 unfold Fi;rw[AM (show BP (.tup (l.map D.int)) Z=some (l.map D.int,Z) from rfl)];simp only[JM];rw[if_pos h]
theorem Kq{sf:Bool}{sz v:Int}{l:List Int}(h0:0<=sz)(h1:sz<=1000)(hl:l.length<=1000)(hr:(BS (l++[v])).length<=18):
  B9 [.str (kdS sf),.int sz,.tup (l.map D.int),.int v] Z=some (.tup ((bsd sf sz l v).map D.int),Z):=by
 have hz:=BN;refine AU (g:=[]) (x5:=CV 4 [.str (kdS sf),.int sz,.tup (l.map D.int),.int v]) ?_ rfl (by unfold Cl;exact Ak (BC _) _);rw[AAa];cases sf with
 |true=>
  refine CC (De (AR (Lg (x:=.str (kdS true)) (y:=.str "safe") rfl rfl RH)) (Dr (Nq (x:=.int sz) rfl ?_)));show (if 0<=sz/\sz<=1000 then some (D.tup (Qy sz.toNat),Z) else none)=_;rw[if_pos ⟨h0,h1⟩];rfl
 |false=>
  refine AV (CK (AR (Lg (x:=.str (kdS false)) (y:=.str "safe") rfl rfl RH)) rfl) (Dr (Bu (ds:=[.lst ((srt (l++[v])).map D.int)]) (Ew (ds:=[]) (Nq (x:=.tup ((l++[v]).map D.int)) (Lg (x:=.tup (l.map D.int)) (y:=.tup [.int v]) rfl rfl ?_) (UJ hr)) rfl) rfl));rw[EK (by simp;omega),AAX];rfl
section
variable{ma mb:Sl->M D}{x y:D}{g:D->D->M D}{as:Sl->M (List D)}{tc:Sl->M Bool}{b:Bool}{m1 m2:Sl->M (Fl×Sl)}{r:Fl×Sl}
theorem po(h1:ma B Z=some (x,Z))(h2:mb B Z=some (y,Z))(h3:g x y Z=some (d,Z)):mOp g ma mb B Z=some (d,Z):=Lg h1 h2 h3
theorem pn{u:D->M D}(h1:ma B Z=some (x,Z))(h3:u x Z=some (d,Z)):mUn u ma B Z=some (d,Z):=Nq h1 h3
theorem pc(h1:ma B Z=some (x,Z))(h2:as B Z=some (ds,Z)):AC ma as B Z=some (x::ds,Z):=Ew h1 h2
theorem pd{f:List D->M D}(h1:as B Z=some (ds,Z))(h2:f ds Z=some (d,Z)):AG f as B Z=some (d,Z):=Bu h1 h2
theorem p2{l h:Sl->M (Option Int)}{a b:Option Int}(h1:ma B Z=some (x,Z))(h2:l B Z=some (a,Z))(h3:h B Z=some (b,Z))(h4:NT a b x Z=some (d,Z)):EZ ma l h B Z=some (d,Z):=Rn h1 h2 h3 h4
theorem pq(h1:m1 B Z=some ((.next,w9),Z))(h2:m2 w9 Z=some (r,Z)):AT m1 m2 B Z=some (r,Z):=AV h1 h2
theorem pa{bf:D->Sl->M Sl}(h1:ma B Z=some (d,Z))(h2:bf d B Z=some (w9,Z)):Af ma bf B Z=some ((.next,w9),Z):=Ds h1 h2
theorem piT(h1:tc B Z=some (true,Z))(h2:m1 B Z=some (r,Z)):sIf tc m1 m2 B Z=some (r,Z):=De h1 h2
theorem piF(h1:tc B Z=some (false,Z))(h2:m2 B Z=some (r,Z)):sIf tc m1 m2 B Z=some (r,Z):=CK h1 h2
theorem pr(h1:ma B Z=some (d,Z)):Av ma B Z=some ((.rt d,B),Z):=Dr h1
theorem peT(h1:tc B Z=some (true,Z))(h2:ma B Z=some (d,Z)):mIf tc ma mb B Z=some (d,Z):=by unfold mIf;rw[AM h1,if_pos rfl,h2]
theorem peF(h1:tc B Z=some (false,Z))(h2:mb B Z=some (d,Z)):mIf tc ma mb B Z=some (d,Z):=by unfold mIf;rw[AM h1,if_neg (by decide),h2]
end
theorem GX{α:D}{j:Nat}(h:j<=ds.length):Cr ds none (some (j:Int))=ds.take j:=by
 unfold Cr;rw[HT.LA,HT.Gu,Nat.min_eq_left h];simp
theorem IE{j:Nat}(h:j<=ds.length):Cr ds (some (j:Int)) none=ds.drop j:=by
 unfold Cr;rw[HT.LA,HT.Gu,Nat.min_eq_left h];exact List.take_of_length_le (by simp)
theorem Eb{j:Nat}{x:D}(hj:j<ds.length)(hl:ds.length<=1000)(hc:∀k,ClL k ds)(hx:∀k,Cl k x):AZ [.tup ds,.int j,x] Z=some (.tup (ds.set j x),Z):=by
 have hz:=BN;have hcs:∀(k j:Nat) (ds:List D),ClL k ds->ClL k (ds.set j x):=by
  intro k j ds
  induction ds generalizing j with
  |nil=>intro h;exact h
  |cons a as ih=>
   intro h;unfold ClL at h;cases j with
   |zero=>show ClL k (x::as);unfold ClL;exact⟨hx k,h.2⟩
   |succ j=>show ClL k (a::as.set j x);unfold ClL;exact⟨h.1,ih j h.2⟩
 refine AU (g:=[]) (x5:=CV 3 [.tup ds,.int j,x]) ?_ rfl (by unfold Cl;exact hcs _ _ _ (hc _));rw[AAa];refine pr (po (x:=.tup (ds.take j++[x])) (y:=.tup (ds.drop (j+1))) (po (x:=.tup (ds.take j)) (y:=.tup [x]) (p2 (x:=.tup ds) (a:=none) (b:=some (j:Int)) rfl rfl rfl ?_) rfl (EK (by simp;omega))) (p2 (x:=.tup ds) (a:=some ((j:Int)+1)) (b:=none) rfl rfl rfl ?_) ?_)
 ·show some (D.tup (Cr ds none (some (j:Int))),Z)=_;rw[GX (α:=x) (by omega)]
 ·show some (D.tup (Cr ds (some ((j:Int)+1)) none),Z)=_;rw[show ((j:Int)+1)=((j+1:Nat):Int) by omega,IE (by omega)]
 ·rw[EK (by simp;omega),AAn];rw[List.set_eq_take_append_cons_drop,if_pos hj];rfl
end
end K13
set_option maxHeartbeats 4000000
namespace K13
open PySem L2 Mi Ht
section
variable{Z Z':Mh}{B:Sl}{d:D}{ds es:List D}
theorem Bs{α:Type}{me:Sl->M D}{mc:Sl->M Bool}{u5:Sl}{f F:α->D}{p:α->Bool}:∀{xs:List α} {ys:List D},(∀a∈xs,mc (u5.set 0 (some (f a))) Z=some (p a,Z))->(∀a∈xs,p a=true->me (u5.set 0 (some (f a))) Z=some (F a,Z))->ER (AN 0) mc me u5 (xs.map f) ys Z=some (ys++(xs.filter p).map F,Z)
 |[],ys,_,_=>by show some (ys,Z)=_;simp
 |z::xs,ys,hc,h=>by
  show bnd (AN 0 (f z) u5) _ Z=_;rw[AM (show AN 0 (f z) u5 Z=some (u5.set 0 (some (f z)),Z) from rfl),AM (hc z (by simp))];cases q:p z with
  |true=>
   rw[if_pos rfl,AM (h z (by simp) q),Bs (λw hw=>hc w (by simp[hw])) (λw hw=>h w (by simp[hw]))];simp[q]
  |false=>
   rw[if_neg (by decide),Bs (λw hw=>hc w (by simp[hw])) (λw hw=>h w (by simp[hw]))];simp[q]
theorem BY{N:Nat}{ix:List Nat}{src:Sl->M (List D)}{bf:D->Sl->M Sl}{mc:Sl->M Bool}{me:Sl->M D}{fin:List D->M D}(h1:src B Z=some (ds,Z))(hl:ds.length<=sizeLine)(h2:ER bf mc me (CW N ix B) ds [] Z=some (es,Z))(h3:fin es Z=some (d,Z')):Bf N ix src bf mc me fin B Z=some (d,Z'):=by
 unfold Bf;rw[AM h1,AM (show lim ds.length Z=some ((),Z) from by unfold lim;rw[if_pos hl]),AM h2,h3]
theorem Bp{α:Type}(xs:List α):xs.filter (λ_=>true)=xs:=by simp
theorem C9{ma:Sl->M D}(h:ma B Z=some (.tup ds,Z)):Db ma B Z=some (ds,Z):=by unfold Db;rw[AM h];rfl
theorem B4{ma:Sl->M D}(h:ma B Z=some (.lst ds,Z)):Db ma B Z=some (ds,Z):=by unfold Db;rw[AM h];rfl
theorem Dy{sf:Bool}{sz bg:Int}{ns:List Str}{m1:Sl->M (Fl×Sl)}(h:B[0]?=some (some (mkD sf sz bg ns))):sIf (AK (mOp AY (mOp AL (AA 0) (mC (.int 0))) (mC (.str "whole")))) m1 Ay B Z=some ((.next,B),Z):=
 piF (AR (po (x:=.str (kdS sf)) (y:=.str "whole") (po (x:=mkD sf sz bg ns) (y:=.int 0) (Ar h) rfl rfl) rfl UI)) rfl
theorem F1{α:Type}(a:α):∀k:Nat,(List.replicate k [a]).flatten=List.replicate k a
 |0=>rfl
 |k+1=>by rw[AAm,List.flatten_cons,F1 a k];rfl
variable{sf:Bool}{sz bg:Int}{ns:List Str}
theorem TB(h:ns.length<=1000)(h2:2<=ns.length):Ap [mkD sf sz bg ns] Z=some (clD bg (-1) (List.replicate (ns.length-1) none),Z):=by
 have hz:=BN;refine AU (g:=[]) (x5:=[some (mkD sf sz bg ns),some (.int ((ns.length:Int)-1))]) ?_ rfl (Fc _ _ _ _);rw[AAa];refine pq (pa (d:=.int ((ns.length:Int)-1)) (po (x:=.int ns.length) (y:=.int 1) (pd (ds:=[.tup (ns.map hdD)]) rfl ?_) rfl rfl) rfl) (pq (Dy rfl) (pr (pd (ds:=[.int bg,.int (-1),.tup ((List.replicate (ns.length-1) none).map tD)]) (pc (x:=.int bg) rfl (pc (x:=.int (-1)) rfl (pc (po (x:=.tup [.non]) (y:=.int ((ns.length:Int)-1)) rfl rfl ?_) rfl))) (Ad (by simp;omega)))))
 ·show some (D.int (((ns.map hdD).length:Nat):Int),Z)=_;rw[AAF]
 ·show (if [D.non]≠[]/\[D.non].length<=1000/\1<=((ns.length:Int)-1)/\((ns.length:Int)-1)<=1000 then some (D.tup (List.replicate ((ns.length:Int)-1).toNat [D.non]).flatten,Z) else none)=_;rw[if_pos ⟨by simp,by simp,by omega,by omega⟩,F1,List.map_replicate,show ((ns.length:Int)-1).toNat=ns.length-1 by omega];rfl
def Gm(l:List Int):Prop:=l.length<=100/\∀x∈l,0<=x/\x<10
theorem FX{l:List Int}(h:∀x∈l,0<=x/\x<10):(BS l).length<=18:=by
 have h1:=Fw (r:=(List.range 10).map Int.ofNat) (Hc l) λx hx=>by
  obtain⟨a,b⟩:=h x ((LN l x).mp hx);exact AAL.mpr ⟨x.toNat,List.mem_range.mpr (by omega),by show ((x.toNat:Nat):Int)=x;omega⟩
 simp at h1;omega
noncomputable def DI(sf:Bool)(sz w c:Int):List Int:=if c=-1 then [w] else bsd sf sz [w] c
theorem MJ{ts:List (Option (List Int))}{r:Nat}{t:Option (List Int)}:(ts.map tD).set r (tD t)=(ts.set r t).map tD:=by rw[List.map_set]
theorem Uy{i j:Int}:EY (.int i) (.int j) Z=some (.bl (!(i==j)),Z):=rfl
theorem JT:∀xs:List Int,DL (xs.map D.int)=some (xs.map V.int)
 |[]=>rfl
 |x::r=>by show (FR (.int x)).bind _=_;rw[JT r];rfl
theorem Lb{x:Int}:∀xs:List Int,inV (.int x) (xs.map V.int)=decide (x∈xs)
 |[]=>rfl
 |y::r=>by
  have h:=Lb (x:=x) r;unfold inV at h ⊢;rw[AAW,List.any_cons,h];show ((y==x)||decide (x∈r))=_;by_cases e:x=y
  ·subst e;simp
  ·have:(y==x)=false:=AAf.mpr λz=>e z.symm;rw[this,Bool.false_or];simp[e]
theorem Uz{neg:Bool}{c:D}{x:Int}{xs:List Int}(h:BP c Z=some (xs.map D.int,Z)):Dq neg (.int x) c Z=some (.bl (if neg then !decide (x∈xs) else decide (x∈xs)),Z):=by
 show Fz neg (.int x) c Z=_;unfold Fz;rw[AM h];simp only[JT];show some (D.bl (if neg then !inV (.int x) (xs.map V.int) else inV (.int x) (xs.map V.int)),Z)=_;rw[Lb]
theorem B7{ds:List D}{r:Nat}{x:D}(h:ds[r]?=some x):atI ds (r:Int)=some x:=by
 have hr:r<ds.length:=(AAT.mp h).1;unfold atI ixN;rw[if_pos (by omega),if_pos (by omega)];simpa using h
end
end K13
set_option maxHeartbeats 4000000
namespace K13
open PySem L2 Mi Ht
inductive Ev where
 |wb (v:Int)|we|rb (r:Nat)|re (r:Nat) (v:Int)
deriving DecidableEq
noncomputable def Ev.beg:Ev->Bool
 | .wb _=>true
 | .we=>false
 | .rb _=>true
 | .re _ _=>false
noncomputable def Ev.hand:Ev->Nat
 | .wb _=>0
 | .we=>0
 | .rb r=>r+1
 | .re r _=>r+1
noncomputable def Ev.val:Ev->Option Int
 | .wb v=>some v
 | .re _ v=>some v
 |_=>none
noncomputable abbrev nm(ns:List Str)(h:Nat):Str:=ns.getD h "w"
noncomputable def bS:Bool->Str
 |true => "begin"
 |false => "end"
noncomputable def evD(ns:List Str)(e:Ev):D:=.tup (D.str (bS e.beg)::.str (nm ns e.hand)::(match e.val with|some v=>[.int v]|none=>[]))
noncomputable def BX(e:Ev)(g:Int):D:=.tup [.str (bS e.beg),.int e.hand,.int (e.val.getD (-1)),.int g]
structure Ns(ns:List Str):Prop where
 ok:∀n∈ns,PyData.strOk n=true
 nd:ns.Nodup
 lo:2<=ns.length
 hi:ns.length<=4
structure Ev.Ok(ns:List Str)(sz:Int)(e:Ev):Prop where
 h:e.hand<ns.length
 v:∀v,e.val=some v->0<=v/\v<sz
theorem Ns.nok{ns:List Str}(N:Ns ns){h:Nat}(hh:h<ns.length):PyData.strOk (nm ns h)=true:=N.ok _ (by simp[nm,hh])
theorem Ns.mem{ns:List Str}{h:Nat}(hh:h<ns.length):nm ns h∈ns:=by simp[nm,hh]
theorem Ns.inj{ns:List Str}(N:Ns ns){h k:Nat}(hh:h<ns.length)(hk:k<ns.length)(e:nm ns h=nm ns k):h=k:=by
 have e':ns[h]=ns[k]:=by simpa[nm,hh,hk] using e
 exact(List.getElem_inj N.nd).mp e'
section
variable{Z w5 w6 x8:Mh}{ds:List D}{n:Nat}
variable{sf:Bool}{sz:Int}{ns:List Str}
theorem N7:∀b,PyData.strOk (bS b)=true:=by decide +kernel
theorem Ws:∀b,(bS b==("begin" : Str))=b:=by decide +kernel
theorem M0:∀b,(bS b==("end" : Str))=!b:=by decide +kernel
theorem JI{b:Bool}:AY (.str (bS b)) (.str "begin") Z=some (.bl b,Z):=by rw[Hj (N7 b) (by decide +kernel),Ws]
theorem U1{b:Bool}:AY (.str (bS b)) (.str "end") Z=some (.bl (!b),Z):=by rw[Hj (N7 b) (by decide +kernel),M0]
theorem U0{a b:Bool}:AY (.bl a) (.bl b) Z=some (.bl (a==b),Z):=by cases a<;>cases b<;>rfl
theorem DO{i j:Int}:AY (.int i) (.int j) Z=some (.bl (i==j),Z):=rfl
theorem KK(N:Ns ns){h k:Nat}(hh:h<ns.length)(hk:k<ns.length):AY (.str (nm ns h)) (.str (nm ns k)) Z=some (.bl (h==k),Z):=by
 rw[Hj (N.nok hh) (N.nok hk)];by_cases e:h=k
 ·subst e;simp
 ·rw[AAf.mpr e,AAf.mpr λz=>e (N.inj hh hk z)]
theorem FE:∀xs:List Str,DL (xs.map D.str)=some (xs.map V.str)
 |[]=>rfl
 |x::r=>by show (FR (.str x)).bind _=_;rw[FE r];rfl
theorem La{x:Str}:∀xs:List Str,inV (.str x) (xs.map V.str)=decide (x∈xs)
 |[]=>rfl
 |y::r=>by
  have h:=La (x:=x) r;unfold inV at h ⊢;rw[AAW,List.any_cons,h];show ((y==x)||decide (x∈r))=_;by_cases e:x=y
  ·subst e;simp
  ·have:(y==x)=false:=AAf.mpr λz=>e z.symm;rw[this,Bool.false_or];simp[e]
theorem RL{neg:Bool}{c:D}{x:Str}{xs:List Str}(h:BP c Z=some (xs.map D.str,Z)):Fz neg (.str x) c Z=some (.bl (if neg then !decide (x∈xs) else decide (x∈xs)),Z):=by
 unfold Fz;rw[AM h];simp only[FE];show some (D.bl (if neg then !inV (.str x) (xs.map V.str) else inV (.str x) (xs.map V.str)),Z)=_;rw[La]
theorem S5{v lo hi:Int}(h0:lo<=v)(h1:v<=hi):Bm [.int v,.int lo,.int hi] Z=some (.bl true,Z):=by
 refine AU (g:=[]) (x5:=[some (.int v),some (.int lo),some (.int hi)]) ?_ rfl (by unfold Cl;trivial);rw[AAa];exact pr (Ex (w5:=Z) (pd (ds:=[.int v,.ty "int"]) rfl JG) (Ex (w5:=Z) (UZ (b:=false) (pd (ds:=[.int v,.ty "bool"]) rfl JH)) (GW (w5:=Z) (w6:=Z) (x8:=Z) (x:=.int lo) (y:=.int v) (z:=.int hi) rfl rfl (RK h0) rfl (RK h1))))
theorem S6{lo hi:Int}(h0:lo<=ds.length)(h1:ds.length<=hi):BW [.tup ds,.int lo,.int hi] Z=some (.bl true,Z):=by
 refine AU (g:=[]) (x5:=[some (.tup ds),some (.int lo),some (.int hi)]) ?_ rfl (by unfold Cl;trivial);rw[AAa];exact pr (Ex (w5:=Z) (pd (ds:=[.tup ds,.ty "tuple"]) rfl JF) (GW (w5:=Z) (w6:=Z) (x8:=Z) (x:=.int lo) (y:=.int ds.length) (z:=.int hi) rfl (pd (ds:=[.tup ds]) rfl rfl) (RK h0) rfl (RK h1)))
noncomputable def evL(ns:List Str)(e:Ev):List D:=D.str (bS e.beg)::.str (nm ns e.hand)::(match e.val with|some v=>[.int v]|none=>[])
theorem Wh{e:Ev}:evD ns e=.tup (evL ns e):=rfl
theorem Nu{e:Ev}:(evL ns e).length=if e.val.isSome then 3 else 2:=by cases e<;>rfl
theorem S9(N:Ns ns){e:Ev}(h:e.Ok ns sz):BJ [evD ns e,.lst (ns.map D.str),.int sz] Z=some (.bl true,Z):=by
 have hz:=BN;have hlo:=N.lo;refine AU (g:=[]) (x5:=[some (evD ns e),some (.lst (ns.map D.str)),some (.int sz)]) ?_ rfl (by unfold Cl;trivial);rw[AAa];have len:=Nu (ns:=ns) (e:=e);have i0:mOp AL (AA 0) (mC (.int 0)) [some (evD ns e),some (.lst (ns.map D.str)),some (.int sz)] Z=some (.str (bS e.beg),Z):=by cases e<;>rfl
 have i1:mOp AL (AA 0) (mC (.int 1)) [some (evD ns e),some (.lst (ns.map D.str)),some (.int sz)] Z=some (.str (nm ns e.hand),Z):=by cases e<;>rfl
 have t1:Dh (AK (AG BW (AC (AA 0) (AC (mC (.int 2)) (AC (mC (.int 3)) AJ))))) [some (evD ns e),some (.lst (ns.map D.str)),some (.int sz)] Z=some (false,Z):=
  Fb (b:=true) (AR (pd (ds:=[evD ns e,.int 2,.int 3]) rfl (by rw[Wh];exact S6 (by rw[len];split<;>decide) (by rw[len];split<;>decide))))
 have t2:AK (mOp (Dq true) (mOp AL (AA 0) (mC (.int 0))) (AG Ax (AC (mC (.str "begin")) (AC (mC (.str "end")) AJ)))) [some (evD ns e),some (.lst (ns.map D.str)),some (.int sz)] Z=some (false,Z):=by
  refine AR (po (x:=.str (bS e.beg)) (y:=.tup [.str "begin",.str "end"]) i0 (pd (ds:=[.str "begin",.str "end"]) rfl (Ad (by simp;omega))) ?_);show Fz true (.str (bS e.beg)) (.tup ((["begin", "end"]:List Str).map D.str)) Z=_;rw[RL rfl];cases e.beg<;>rfl
 have t3:AK (mOp (Dq true) (mOp AL (AA 0) (mC (.int 1))) (AA 1)) [some (evD ns e),some (.lst (ns.map D.str)),some (.int sz)] Z=some (false,Z):=by
  refine AR (po (x:=.str (nm ns e.hand)) (y:=.lst (ns.map D.str)) i1 rfl ?_);show Fz true (.str (nm ns e.hand)) (.lst (ns.map D.str)) Z=_;rw[RL rfl,AAO (Ns.mem h.h)];rfl
 have t4:AK (mOp AY (mOp AY (mOp AL (AA 0) (mC (.int 0))) (mC (.str "begin"))) (mOp AY (mOp AL (AA 0) (mC (.int 1))) (mOp AL (AA 1) (mC (.int 0))))) [some (evD ns e),some (.lst (ns.map D.str)),some (.int sz)] Z=some (e.val.isSome,Z):=by
  refine AR ?_;have n0:(ns.map D.str)[0]?=some (D.str (nm ns 0)):=by
   rw[AAV,AAu (by omega)];simp[nm,show 0<ns.length by omega]
  refine po (x:=.bl e.beg) (y:=.bl (e.hand==0)) (po (x:=.str (bS e.beg)) (y:=.str "begin") i0 rfl JI) (po (x:=.str (nm ns e.hand)) (y:=.str (nm ns 0)) i1 (po (x:=.lst (ns.map D.str)) (y:=.int 0) rfl rfl (Gb (B7 (r:=0) n0))) (KK N h.h (by omega))) ?_;rw[U0];cases e<;>rfl
 refine pq (piF (EQ t1 (EQ t2 t3)) rfl) ?_;cases hv:e.val with
 |none=>
  rw[hv] at t4 len;refine pq (piF t4 rfl) (pr (po (x:=.int 2) (y:=.int 2) (pd (ds:=[.tup (evL ns e)]) rfl ?_) rfl rfl));show some (D.int (((evL ns e).length:Nat):Int),Z)=_;rw[len];rfl
 |some v=>
  rw[hv] at t4 len;obtain⟨v0,v1⟩:=h.v v hv;have i2:mOp AL (AA 0) (mC (.int 2)) [some (evD ns e),some (.lst (ns.map D.str)),some (.int sz)] Z=some (.int v,Z):=by cases e<;>cases hv<;>rfl
  refine CC (piT t4 (pr (Ex (w5:=Z) (po (x:=.int 3) (y:=.int 3) (pd (ds:=[.tup (evL ns e)]) rfl ?_) rfl rfl) (pd (ds:=[.int v,.int 0,.int (sz-1)]) (pc i2 rfl) (S5 v0 (by omega))))));show some (D.int (((evL ns e).length:Nat):Int),Z)=_;rw[len];rfl
structure C3 where
 w:Int
 c:Int
 ts:List (Option (List Int))
noncomputable def C3.toD(k:C3):D:=clD k.w k.c k.ts
noncomputable def C3.step(sf:Bool)(sz:Int)(k:C3):Ev->Option C3
 | .wb v=>some ⟨k.w,v,k.ts.map (Option.map λl=>bsd sf sz l v)⟩
 | .we=>some ⟨k.c,-1,k.ts⟩
 | .rb r=>some ⟨k.w,k.c,k.ts.set r (some (DI sf sz k.w k.c))⟩
 | .re r v=>match k.ts[r]? with
  |some (some l)=>if v∈l then some ⟨k.w,k.c,k.ts.set r none⟩ else none
  |_=>none
noncomputable def oD:Option C3->D
 |some k=>k.toD
 |none=>.non
structure C3.Ok(k:C3)(rs:Nat):Prop where
 w:0<=k.w/\k.w<10
 c:k.c≠-1->0<=k.c/\k.c<10
 ts:∀l,some l∈k.ts->Gm l
 n:k.ts.length=rs
 m:rs<=3
noncomputable def C3.fits(k:C3):Ev->Prop
 | .wb v=>0<=v/\v<10
 | .we=>k.c≠-1
 | .rb r=>r<k.ts.length
 | .re r _=>∃l,k.ts[r]?=some (some l)
end
end K13
set_option maxHeartbeats 4000000
namespace K13
open PySem L2 Mi Ht
noncomputable def wfG:(Nat->Bool)->List Ev->Prop
 |_,[]=>True
 |G,e::es=>G e.hand=!e.beg/\wfG (λh=>if h=e.hand then e.beg else G h) es
def DG(L:List (Key×D))(G:Nat->Bool):Prop:=∀h:Nat,(DC L (.inl (h:Int))=none/\G h=false)∨∃g:Int,DC L (.inl (h:Int))=some (.int g)/\G h=true
theorem NG(L:List (Key×D))(k k':Key)(d:D):DC (Dw L k d) k'=if k'=k then some d else DC L k':=by
 unfold Dw;split
 ·rename_i h
  induction L with
  |nil=>simp at h
  |cons a L ih=>
   unfold DC at ih ⊢;rw[AAW,List.find?_cons,List.find?_cons];by_cases ha:a.1=k
   ·rw[if_pos ha];by_cases hk:k'=k
    ·subst hk;simp[ha]
    ·have:¬a.1=k':=λz=>hk (z.symm.trans ha);simp only[this,decide_false,hk,if_false];by_cases hany:(L.any λkv=>decide (kv.1=k))=true
     ·have:=ih hany;simpa[hk] using this
     ·have hm:L.map (λkv=>if kv.1=k then (kv.1,d) else kv)=L:=by
       conv=>rhs;rw[←List.map_id L]
       refine List.map_congr_left λb hb=>?_;rw[if_neg λz=>hany (List.any_eq_true.mpr ⟨b,hb,by simpa using z⟩)];rfl
      rw[hm]
   ·rw[if_neg ha];have hany:(L.any λkv=>decide (kv.1=k))=true:=by simpa[ha] using h
    have:=ih hany;by_cases hk:a.1=k'
    ·have hne:¬k'=k:=λz=>ha (hk.trans z);simp[hk,hne]
    ·simp only[hk,decide_false];exact this
 ·rename_i h;unfold DC;rw[List.find?_append];by_cases hk:k'=k
  ·subst hk;have:L.find? (λkv=>decide (kv.1=k'))=none:=by
    rw[List.find?_eq_none];intro b hb z;exact h (List.any_eq_true.mpr ⟨b,hb,z⟩)
   rw[this];simp
  ·rw[if_neg hk];have:¬k=k':=λz=>hk z.symm;cases L.find? (λkv=>decide (kv.1=k'))<;>simp[this]
theorem Pi(L:List (Key×D))(k k':Key):DC (D8 L k) k'=if k'=k then none else DC L k':=by
 unfold D8 DC
 induction L with
 |nil=>simp
 |cons a L ih=>
  by_cases ha:a.1=k
  ·rw[List.filter_cons_of_neg (by simp[ha]),ih];by_cases hk:k'=k
   ·simp[hk]
   ·have:¬a.1=k':=λz=>hk (z.symm.trans ha);simp[hk,List.find?_cons,this]
  ·rw[List.filter_cons_of_pos (by simp[ha]),List.find?_cons,List.find?_cons];by_cases hk:a.1=k'
   ·have:¬k'=k:=λz=>ha (hk.trans z);simp[hk,this]
   ·simp only[hk,decide_false];exact ih
theorem Tk(L:List (Key×D))(k:Key)(d:D):(Dw L k d).length<=L.length+1:=by unfold Dw;split<;>simp
theorem Rv(L:List (Key×D))(k:Key):(D8 L k).length<=L.length:=List.length_filter_le _ _
theorem DG.put{L:List (Key×D)}{G:Nat->Bool}(h:DG L G)(k:Nat)(g:Int):DG (Dw L (.inl (k:Int)) (.int g)) (λh=>if h=k then true else G h):=λj=>by
 rw[NG];by_cases e:j=k
 ·subst e;exact .inr ⟨g,by simp,by simp⟩
 ·have:¬(Sum.inl (j:Int):Key)=.inl (k:Int):=λz=>e (by have:=Sum.inl.inj z;omega);simp only[this,if_false,e];exact h j
theorem DG.drop{L:List (Key×D)}{G:Nat->Bool}(h:DG L G)(k:Nat):DG (D8 L (.inl (k:Int))) (λh=>if h=k then false else G h):=λj=>by
 rw[Pi];by_cases e:j=k
 ·subst e;exact .inl ⟨by simp,by simp⟩
 ·have:¬(Sum.inl (j:Int):Key)=.inl (k:Int):=λz=>e (by have:=Sum.inl.inj z;omega);simp only[this,if_false,e];exact h j
section
variable{Z w5 w6 x8:Mh}{B w9:Sl}{d:D}{ds:List D}{n:Nat}
variable{sz:Int}{ns:List Str}
theorem g2a{a b:MO}:(Z++[a,b])[Z.length]?=some a:=by rw[AAR (AAE _)];simp
theorem g2b{a b:MO}:(Z++[a,b])[Z.length+1]?=some b:=by rw[AAR (by omega)];simp
theorem s2a{a b c:MO}:(Z++[a,b]).set Z.length c=Z++[c,b]:=by rw[AAg _ _ (AAE _)];simp
theorem s2b{a b c:MO}:(Z++[a,b]).set (Z.length+1) c=Z++[a,c]:=by rw[AAg _ _ (by omega)];simp
theorem GC{L:List (Key×D)}(h:Z[n]?=some (.dK L)):ET (.ref n) Z=some ((n,L),Z):=by unfold ET;dsimp only;rw[h]
theorem WM{L:List (Key×D)}{k:Int}(h:Z[n]?=some (.dK L)):Lk false (.int k) (.ref n) Z=some (.bl (DC L (.inl k)).isSome,Z):=by
 unfold Lk;rw[AM (GC h)];rfl
theorem Nh{L:List (Key×D)}{k:Int}(h:Z[n]?=some (.dK L))(hv:DC L (.inl k)=some d):Gh (.ref n) (.int k) Z=some (d,Z):=by
 unfold Gh;rw[AM (GC h)];show (DC L (.inl k)).map (λv=>(v,Z))=_;rw[hv];rfl
theorem Ro{mo mi mv:Sl->M D}{v:D}{k:Int}{L:List (Key×D)}(h1:mv B Z=some (v,Z))(h2:mo B Z=some (.ref n,Z))(h3:mi B Z=some (.int k,Z))(h:Z[n]?=some (.dK L))(hl:L.length<sizeLine):Ix mo mi mv B Z=some ((.next,B),Z.set n (.dK (Dw L (.inl k) v))):=by
 unfold Ix;rw[AM h1,AM h2,AM h3,AM (GC h)];show (if L.length<sizeLine then some ((Fl.next,B),Z.set n (.dK (Dw L (.inl k) v))) else none)=_;rw[if_pos hl]
theorem Ua{mo mi:Sl->M D}{k:Int}{L:List (Key×D)}(h2:mo B Z=some (.ref n,Z))(h3:mi B Z=some (.int k,Z))(h:Z[n]?=some (.dK L))(hv:DC L (.inl k)=some d):JD mo mi B Z=some (d,Z.set n (.dK (D8 L (.inl k)))):=by
 unfold JD;rw[AM h2,AM (show KR (.ref n) Z=some ((),Z) from by unfold KR;rw[AM (GC h)];rfl),AM h3];unfold U6;rw[AM (GC h)];show (DC L (.inl k)).map (λv=>(v,Z.set n (MO.dK (D8 L (.inl k)))))=_;rw[hv];rfl
theorem A9(h:Z[n]?=some (.lst ds)):EO (.ref n) Z=some ((),Z):=by
 unfold EO;rw[AM (show CL (.ref n) Z=some (ds,Z) from by unfold CL;dsimp only;rw[h])];rfl
theorem CB(h:Z[n]?=some (.lst ds))(hl:ds.length<sizeLine):Co (.ref n) [d] Z=some (.non,Z.set n (.lst (ds++[d]))):=by
 show HD n _ Z=_;unfold HD;rw[h];show Option.map _ (if ds.length<sizeLine then some (D.non,ds++[d]) else none)=_;rw[if_pos hl];rfl
theorem No:∀{ns:List Str} {h:Nat},ns.Nodup->h<ns.length->(ns.map V.str).findIdx? (λz=>eqV z (V.str (nm ns h)))=some h
 |[],h,_,hh=>absurd hh (by simp)
 |n::ns,0,_,_=>by
  rw[AAW,List.findIdx?_cons];show (if (n==n)=true then some 0 else _)=_;simp
 |n::ns,h+1,nd,hh=>by
  obtain⟨h1,h2⟩:=List.nodup_cons.mp nd;have hh':h<ns.length:=by simpa using hh
  have e:nm (n::ns) (h+1)=nm ns h:=by simp[nm]
  rw[AAW,List.findIdx?_cons,e];have:eqV (V.str n) (V.str (nm ns h))=false:=by
   show (n==nm ns h)=false;exact AAf.mpr λz=>h1 (z ▸ Ns.mem hh')
  rw[this,No h2 hh'];rfl
theorem X1(N:Ns ns){h:Nat}(hh:h<ns.length):Hu (.lst (ns.map D.str)) [.str (nm ns h)] Z=some (.int h,Z):=by
 unfold Hu;rw[AM (show EO (.lst (ns.map D.str)) Z=some ((),Z) from rfl)];show bnd (BP (.lst (ns.map D.str))) (λds=>λZ=>match FR (.str (nm ns h)),DL ds with
  |some y,some xs=>(xs.findIdx? λz=>eqV z y).map λ(j:Nat)=>(D.int (j:Int),Z)
  |_,_=>none) Z=_
 rw[AM (show BP (.lst (ns.map D.str)) Z=some (ns.map D.str,Z) from rfl)];simp only[FE];show Option.map _ ((ns.map V.str).findIdx? λz=>eqV z (V.str (nm ns h)))=_;rw[No N.nd hh];rfl
noncomputable abbrev Y4:Sl->M (Fl×Sl):=(AT (sIf (Dh (AK (AG BJ (AC (AA 7) (AC (AA 2) (AC (mOp AL (AA 0) (mC (.int 1))) AJ)))))) DW Ay)
  (AT (Af (Ai Hu (AA 2) (AC (mOp AL (AA 7) (mC (.int 1))) AJ)) (AN 8))
  (AT (sIf (AK (mOp AY (mOp AY (mOp AL (AA 7) (mC (.int 0))) (mC (.str "begin"))) (mOp (Lk false) (AA 8) (AA 3)))) DW Ay)
  (AT (sIf (AK (mOp AY (mOp AL (AA 7) (mC (.int 0))) (mC (.str "begin")))) (AT (Ix (AA 3) (AA 8) (AA 5))
  (Af (mOp J7 (AA 5) (mC (.int 1))) (AN 5))) Ay)
  (AT (A5 (Ai Co (AA 4) (AC (AG Ax (AC (mOp AL (AA 7) (mC (.int 0))) (AC (AA 8) (AC (mIf (AK (mOp AY (AG Bo (AC (AA 7) AJ)) (mC (.int 3)))) (mOp AL (AA 7) (mC (.int 2))) (mC BK)) (AC (mOp Gh (AA 3) (AA 8)) AJ))))) AJ)))
  (sIf (AK (mOp AY (mOp AL (AA 7) (mC (.int 0))) (mC (.str "end")))) (A5 (JD (AA 3) (AA 8))) Ay))))))
theorem Ao{bf:D->Sl->M Sl}{m1:Sl->M (Fl×Sl)}{x:D}{x5:Sl}{r:Fl×Sl}(h1:bf x B Z=some (w9,w5))(h2:m1 w9 w5=some ((.next,x5),w6))(h3:DE bf m1 ds x5 w6=some (r,x8)):DE bf m1 (x::ds) B Z=some (r,x8):=by
 show bnd (bf x B) _ Z=_;rw[AM h1,AM h2];exact h3
theorem SR{e:Ev}{S:Sl}{M:Mh}{o:D}{g:Int}(he:e.Ok ns sz)(h7:S[7]?=some (some (evD ns e)))(h8:S[8]?=some (some (.int e.hand)))(h3:S[3]?=some (some o))(hg:Gh o (.int e.hand) M=some (.int g,M)):
  AG Ax (AC (mOp AL (AA 7) (mC (.int 0))) (AC (AA 8) (AC (mIf (AK (mOp AY (AG Bo (AC (AA 7) AJ)) (mC (.int 3)))) (mOp AL (AA 7) (mC (.int 2))) (mC BK)) (AC (mOp Gh (AA 3) (AA 8)) AJ)))) S M=some (BX e g,M):=by
 have hz:=BN;have s7:=Ar (Z:=M) h7;have len:=Nu (ns:=ns) (e:=e);have tl:AK (mOp AY (AG Bo (AC (AA 7) AJ)) (mC (.int 3))) S M=some (e.val.isSome,M):=by
  refine AR (po (x:=.int ((evL ns e).length:Nat)) (y:=.int 3) (pd (ds:=[.tup (evL ns e)]) (pc s7 rfl) rfl) rfl ?_);rw[DO,len];cases e<;>rfl
 have iv:mIf (AK (mOp AY (AG Bo (AC (AA 7) AJ)) (mC (.int 3)))) (mOp AL (AA 7) (mC (.int 2))) (mC BK) S M=some (.int (e.val.getD (-1)),M):=by
  cases hv:e.val with
  |none=>rw[hv] at tl;exact peF tl rfl
  |some v=>
   rw[hv] at tl;refine peT tl (po (x:=evD ns e) (y:=.int 2) s7 rfl ?_);cases e<;>cases hv<;>rfl
 exact pd (ds:=[.str (bS e.beg),.int e.hand,.int (e.val.getD (-1)),.int g]) (pc (po (x:=evD ns e) (y:=.int 0) s7 rfl (by cases e<;>rfl)) (pc (Ar h8) (pc iv (pc (po (x:=o) (y:=.int e.hand) (Ar h3) (Ar h8) hg) rfl)))) (Ad (by simp;omega))
end
end K13
set_option maxHeartbeats 4000000
namespace K13
open PySem L2 Mi Ht
noncomputable def A4(sf:Bool)(sz:Int):C3->List Ev->Bool
 |_,[]=>true
 |k,e::es=>match k.step sf sz e with
  |none=>false
  |some k'=>A4 sf sz k' es
noncomputable def F3(sf:Bool)(sz:Int)(m:Nat):C3->List Ev->Prop
 |_,[]=>True
 |k,e::es=>k.fits e/\∀k',k.step sf sz e=some k'->k'.Ok m/\F3 sf sz m k' es
section
variable{Z w5 w6:Mh}{B w9:Sl}{d:D}{ds:List D}{n:Nat}
variable{sf:Bool}{sz bg:Int}{ns:List Str}
theorem Wo{k:Nat}(p:Ev×Int):Cl k (BX p.1 p.2):=by simp[BX,Cl,ClL]
theorem EI{S:Sl}(h:S[0]?=some (some (mkD sf sz bg ns)))(hl:ns.length<=1000):Bf 1 [] (Db (mOp AL (AA 0) (mC (.int 4)))) (AN 0) Cg (mOp AL (AA 0) (mC (.int 0))) BT S Z=some (.lst (ns.map D.str),Z):=by
 have hz:=BN;refine BY (ds:=ns.map hdD) (es:=ns.map D.str) (C9 (po (x:=mkD sf sz bg ns) (y:=.int 4) (Ar h) rfl rfl)) (by rw[AAF];omega) ?_ (Am (by rw[AAF];omega));have:=Bs (Z:=Z) (mc:=Cg) (me:=mOp AL (AA 0) (mC (.int 0))) (u5:=[none]) (f:=hdD) (F:=D.str) (p:=λ_=>true) (xs:=ns) (ys:=[]) (λ_ _=>rfl) (λt _ _=>po (x:=hdD t) (y:=.int 0) rfl rfl rfl);rw[Bp,List.nil_append] at this;exact this
theorem JV{bf:D->Sl->M Sl}{m1:Sl->M (Fl×Sl)}{x:D}{x5:Sl}(h1:bf x B Z=some (w9,w5))(h2:m1 w9 w5=some ((.rt d,x5),w6)):DE bf m1 (x::ds) B Z=some ((.rt d,x5),w6):=by
 show bnd (bf x B) _ Z=_;rw[AM h1,AM h2];rfl
def C3.start(bg:Int)(n:Nat):C3:=⟨bg,-1,List.replicate n none⟩
theorem HH{n:Nat}(hn:n<=3)(h0:0<=bg)(h1:bg<10):(C3.start bg n).Ok n:=⟨⟨h0,h1⟩,λz=>absurd rfl z,λl hl=>(by
  have hl:some l∈List.replicate n (none:Option (List Int)):=hl;have:=List.eq_of_mem_replicate hl;cases this),(by simp[C3.start]),hn⟩
theorem E7:∀{es:List Ev} {gs:List Int},gs.length=es.length->(es.zip gs).map (·.1)=es
 |[],[],_=>rfl
 |e::es,g::gs,h=>by rw[List.zip_cons_cons,AAW,E7 (by simpa using h)]
 |[],_::_,h=>by simp at h
 |_::_,[],h=>by simp at h
end
end K13
set_option maxHeartbeats 4000000
namespace K13
open PySem L2 Mi Ht
noncomputable def KY(es:List Ev)(k:Nat):List Nat:=((List.range (es.length-k)).filter λj=>decide (es[k+j]?=some .we)).map (k+·)
noncomputable def Bg(es:List Ev)(b k:Nat):Bool:=match KY es k with
 |[]=>false
 |j::_=>decide (j<b)
noncomputable def Du(c:Nat->Bool)(k:Nat)(e:Ev)(p:Int×List Int):Int×List Int:=match e with
 | .wb v=>if c k=true then (v,p.2) else (p.1,p.2++[v])
 |_=>p
noncomputable def Bv(c:Nat->Bool):Nat->List Ev->Int×List Int->Int×List Int
 |_,[],p=>p
 |k,e::es,p=>Bv c (k+1) es (Du c k e p)
noncomputable def Ik(sf:Bool)(sz:Int)(p:Int×List Int):List Int:=if (sf&&!p.2.isEmpty)=true then KG sz.toNat else srt (p.1::p.2)
structure First(es:List Ev)(at_ r b:Nat):Prop where
 lt:b<at_
 is:es[b]?=some (.rb r)
 mx:∀j,b<j->j<at_->es[j]?≠some (.rb r)
section
variable{Z:Mh}{c:D}
variable{ns:List Str}
theorem Qx(N:Ns ns){h k:Nat}(hh:h<ns.length)(hk:k<ns.length):(nm ns h==nm ns k)=(h==k):=by
 by_cases e:h=k
 ·subst e;simp
 ·rw[AAf.mpr e,AAf.mpr λz=>e (N.inj hh hk z)]
theorem TX(k:Nat):MT 0 (k:Int)=(List.range k).map λj:Nat=>D.int j:=by
 unfold MT;simp
theorem L1{es:List Ev}{j:Nat}{e:Ev}(h:es[j]?=some e):AL (.lst (es.map (evD ns))) (.int (j:Int)) Z=some (evD ns e,Z):=Gb (B7 (by rw[AAV,h];rfl))
theorem g1{b:MO}:(Z++[b])[Z.length]?=some b:=by rw[AAR (AAE _)];simp
theorem s1{b c:MO}:(Z++[b]).set Z.length c=Z++[c]:=by rw[AAg _ _ (AAE _)];simp
end
end K13
set_option maxHeartbeats 4000000
namespace K13
open PySem L2 Mi Ht
end K13
set_option maxHeartbeats 4000000
namespace K13
open PySem L2 Mi Ht
noncomputable def gS(G:Nat->Bool)(e:Ev):Nat->Bool:=λh=>if h=e.hand then e.beg else G h
noncomputable def gA(G:Nat->Bool)(es:List Ev):Nat->Bool:=es.foldl gS G
theorem wf_app:∀{G:Nat->Bool} {es fs:List Ev},wfG G (es++fs)↔wfG G es/\wfG (gA G es) fs
 |G,[],fs=>by simp[wfG,gA]
 |G,e::es,fs=>by
  show (G e.hand=!e.beg/\wfG (gS G e) (es++fs))↔((G e.hand=!e.beg/\wfG (gS G e) es)/\wfG (gA (gS G e) es) fs);rw[wf_app,and_assoc]
theorem Bl{G:Nat->Bool}{es:List Ev}{e:Ev}:gA G (es++[e])=gS (gA G es) e:=by unfold gA;rw[List.foldl_append];rfl
noncomputable abbrev G0:Nat->Bool:=λ_=>false
theorem D6{es:List Ev}{e:Ev}{j:Nat}(h:j<es.length):(es++[e])[j]?=es[j]?:=AAS h
theorem G5{es:List Ev}{e:Ev}:(es++[e])[es.length]?=some e:=by simp
theorem First.more{es:List Ev}{e:Ev}{r b:Nat}(F:First es es.length r b)(h:e≠.rb r):First (es++[e]) (es++[e]).length r b:=by
 have hl:=F.lt;refine⟨by simp;omega,by rw[D6 hl];exact F.is,λj h1 h2=>?_⟩;rcases Nat.lt_or_ge j es.length with z|z
 ·rw[D6 z];exact F.mx j h1 z
 ·have:j=es.length:=by simp at h2;omega
  subst this;rw[G5];exact λz=>h (Option.some.inj z)
theorem First.new{es:List Ev}{r:Nat}:First (es++[Ev.rb r]) (es++[Ev.rb r]).length r es.length:=⟨by simp,G5,λj h1 h2=>by simp at h2;omega⟩
theorem B5{c:Nat->Bool}:∀(es:List Ev) (k:Nat) (e:Ev) (p:Int×List Int),Bv c k (es++[e]) p=Du c (k+es.length) e (Bv c k es p)
 |[],k,e,p=>rfl
 |x::es,k,e,p=>by
  show Bv c (k+1) (es++[e]) (Du c k x p)=_;rw[B5 es (k+1) e];rw[show k+1+es.length=k+(x::es).length by simp;omega];rfl
theorem K3{c c':Nat->Bool}{k:Nat}{e:Ev}{p:Int×List Int}(h:c k=c' k):Du c k e p=Du c' k e p:=by
 cases e with
 |wb v=>unfold Du;dsimp only;rw[h]
 |_=>rfl
theorem Cv{c c':Nat->Bool}:∀(es:List Ev) (k:Nat) (p:Int×List Int),(∀j,k<=j->j<k+es.length->c j=c' j)->Bv c k es p=Bv c' k es p
 |[],_,_,_=>rfl
 |e::es,k,p,h=>by
  show Bv c (k+1) es (Du c k e p)=Bv c' (k+1) es (Du c' k e p);rw[K3 (h k (AAE _) (by simp)),Cv es (k+1) _ λj h1 h2=>h j (by omega) (by simp;omega)]
theorem Io:∀(es:List Ev) (k:Nat) (p:Int×List Int),(Bv (λ_=>true) k es p).2=p.2
 |[],_,_=>rfl
 |e::es,k,p=>by
  show (Bv (λ_=>true) (k+1) es (Du (λ_=>true) k e p)).2=_;rw[Io es];cases e<;>rfl
theorem O2(es:List Ev)(k:Nat):(KY es k).Pairwise (· < ·):=by
 unfold KY;rw[List.pairwise_map];exact(List.Pairwise.sublist List.filter_sublist List.pairwise_lt_range).imp λh=>by omega
theorem endL_mem{es:List Ev}{k j:Nat}:j∈KY es k↔k<=j/\es[j]?=some .we:=by
 unfold KY;constructor
 ·intro h;obtain⟨i,hi,rfl⟩:=AAL.mp h;obtain⟨_,h2⟩:=List.mem_filter.mp hi;exact⟨by omega,of_decide_eq_true h2⟩
 ·rintro⟨h1,h2⟩;have hl:j<es.length:=(AAT.mp h2).1;have ej:k+(j-k)=j:=by omega
  exact AAL.mpr ⟨j-k,List.mem_filter.mpr ⟨List.mem_range.mpr (by omega),by rw[ej];exact AAO h2⟩,ej⟩
theorem cond_iff{es:List Ev}{b k:Nat}:Bg es b k=true↔∃j,k<=j/\j<b/\es[j]?=some .we:=by
 unfold Bg;have hr:=O2 es k;constructor
 ·intro h;cases hq:KY es k with
  |nil=>rw[hq] at h;cases h
  |cons j js=>
   rw[hq] at h;have hj:j∈KY es k:=by rw[hq];simp
   obtain⟨h1,h2⟩:=endL_mem.mp hj;exact⟨j,h1,of_decide_eq_true h,h2⟩
 ·rintro⟨j,h1,h2,h3⟩;have hj:j∈KY es k:=endL_mem.mpr ⟨h1,h3⟩;cases hq:KY es k with
  |nil=>rw[hq] at hj;cases hj
  |cons i is=>
   rw[hq] at hj hr;refine AAO ?_;rcases AAI.mp hj with z|z
   ·omega
   ·have:=(AAz.mp hr).1 j z;omega
theorem Nz{es fs:List Ev}{b c k:Nat}(h:(∃j,k<=j/\j<b/\es[j]?=some .we)↔∃j,k<=j/\j<c/\fs[j]?=some .we):Bg es b k=Bg fs c k:=by
 have h1:=cond_iff (es:=es) (b:=b) (k:=k);have h2:=cond_iff (es:=fs) (b:=c) (k:=k);cases q1:Bg es b k<;>cases q2:Bg fs c k
 ·rfl
 ·rw[q1] at h1;rw[q2] at h2;exact absurd (h1.mpr (h.mpr (h2.mp rfl))) (by decide)
 ·rw[q1] at h1;rw[q2] at h2;exact absurd (h2.mpr (h.mp (h1.mp rfl))) (by decide)
 ·rfl
theorem SB{es:List Ev}{e:Ev}{b k:Nat}(hb:b<=es.length):Bg (es++[e]) b k=Bg es b k:=Nz ⟨λ⟨j,h1,h2,h3⟩=>⟨j,h1,h2,by rw[←h3,D6 (by omega)]⟩,λ⟨j,h1,h2,h3⟩=>⟨j,h1,h2,by rw[←h3,D6 (by omega)]⟩⟩
theorem FH{es:List Ev}{e:Ev}{k:Nat}(he:e≠.we):Bg (es++[e]) (es.length+1) k=Bg es es.length k:=Nz ⟨λ⟨j,h1,h2,h3⟩=>by
  rcases Nat.lt_or_ge j es.length with z|z
  ·exact⟨j,h1,z,by rw[←h3,D6 z]⟩
  ·have:j=es.length:=by omega
   subst this;rw[G5] at h3;exact absurd (Option.some.inj h3) he,λ⟨j,h1,h2,h3⟩=>⟨j,h1,by omega,by rw[←h3,D6 h2]⟩⟩
theorem Ud{es:List Ev}{k:Nat}(hk:k<=es.length):Bg (es++[.we]) (es.length+1) k=true:=cond_iff.mpr ⟨es.length,hk,by omega,G5⟩
theorem JZ{es:List Ev}{b k:Nat}(h:b<=k):Bg es b k=false:=by
 cases q:Bg es b k with
 |false=>rfl
 |true=>obtain⟨j,h1,h2,_⟩:=cond_iff.mp q;omega
structure Inv(sf:Bool)(sz bg:Int)(m:Nat)(es:List Ev)(k:C3):Prop where
 ok:k.Ok m
 now:Bv (Bg es es.length) 0 es (bg,[])=(k.w,if k.c=-1 then [] else [k.c])
 com:k.c≠-1->Bv (λ_=>true) 0 es (bg,[])=(k.c,[])
 g0:gA G0 es 0=decide (k.c≠-1)
 no:∀r:Nat,k.ts[r]?=some none->gA G0 es (r+1)=false
 yes:∀(r:Nat) l,k.ts[r]?=some (some l)->gA G0 es (r+1)=true/\∃b,First es es.length r b/\l=Ik sf sz (Bv (Bg es b) 0 es (bg,[]))
theorem MQ{sz:Int}(h:sz<=10):Gm (KG sz.toNat):=by
 refine⟨by unfold KG;simp;omega,λx hx=>?_⟩;obtain⟨i,hi,rfl⟩:=AAL.mp hx;have:=List.mem_range.mp hi;show 0<=((i:Nat):Int)/\((i:Nat):Int)<10;omega
theorem OL{l:List Int}(h:∀x∈l,0<=x/\x<10):Gm (srt l):=by
 have hm:∀x∈srt l,0<=x/\x<10:=λx hx=>h x ((Gs l x).mp hx);refine⟨?_,hm⟩;have nd:(srt l).Nodup:=(Fh l).imp λh=>by omega
 have:=Fw (r:=(List.range 10).map Int.ofNat) nd λx hx=>by
  obtain⟨a,b⟩:=hm x hx;exact AAL.mpr ⟨x.toNat,List.mem_range.mpr (by omega),by show ((x.toNat:Nat):Int)=x;omega⟩
 simp at this;omega
theorem Im{sf:Bool}{sz v:Int}{l:List Int}(h:sz<=10)(hl:Gm l)(hv:0<=v/\v<10):Gm (bsd sf sz l v):=by
 unfold bsd;cases sf with
 |true=>exact MQ h
 |false=>
  refine OL λx hx=>?_;rcases AAJ.mp hx with z|z
  ·exact hl.2 x z
  ·rw[AAK] at z;subst z;exact hv
theorem SI{sf:Bool}{sz v:Int}{p:Int×List Int}:bsd sf sz (Ik sf sz p) v=Ik sf sz (p.1,p.2++[v]):=by
 unfold bsd Ik;cases sf with
 |true=>simp
 |false=>
  simp only[Bool.false_and,Bool.false_eq_true,if_false];refine J4 (Fh _) (Fh _) λx=>?_;simp only[Gs,AAJ,AAI,AAK,List.not_mem_nil,or_false];constructor
  ·rintro((z|z)|z)<;>simp[z]
  ·rintro(z|z|z)<;>simp[z]
theorem SM{sf:Bool}{sz w c:Int}:DI sf sz w c=Ik sf sz (w,if c=-1 then [] else [c]):=by
 unfold DI Ik;by_cases h:c=-1
 ·simp only[h,if_true];simp;rfl
 ·simp only[h,if_false];unfold bsd;cases sf<;>simp
theorem FD{sf:Bool}{sz bg:Int}{m:Nat}(hm:m<=3)(b0:0<=bg)(b1:bg<10):Inv sf sz bg m [] (C3.start bg m) where
 ok:=HH hm b0 b1
 now:=rfl
 com:=λh=>absurd rfl h
 g0:=by show false=decide ((-1:Int)≠-1);simp
 no:=λ_ _=>rfl
 yes:=λr l h=>by
  have h:(List.replicate m (none:Option (List Int)))[r]?=some (some l):=h;rw[List.getElem?_replicate] at h;split at h<;>cases h
theorem RX{sf:Bool}{sz bg:Int}{m:Nat}{es:List Ev}{k k':C3}{e:Ev}(h1:sz<=10)(I:Inv sf sz bg m es k)(wf:gA G0 es e.hand=!e.beg)(hv:∀v,e.val=some v->0<=v/\v<sz)(hh:e.hand<=m)(hs:k.step sf sz e=some k'):Inv sf sz bg m (es++[e]) k':=by
 have len:(es++[e]).length=es.length+1:=by simp
 have old:∀b,b<=es.length->Bv (Bg (es++[e]) b) 0 (es++[e]) (bg,[])=Du (Bg (es++[e]) b) es.length e (Bv (Bg es b) 0 es (bg,[])):=λb hb=>by
  rw[B5,Nat.zero_add,Cv es 0 (bg,[]) λj _ _=>SB (k:=j) hb]
 have kept:∀(r:Nat) b,First es es.length r b->gA G0 es (r+1)=true->First (es++[e]) (es++[e]).length r b:=λr b F hg=>F.more λz=>by
  subst z;have wf:gA G0 es (r+1)=!true:=wf;rw[hg] at wf;cases wf
 cases e with
 |wb v=>
  obtain⟨v0,v1⟩:=hv v rfl;cases hs;have c1:k.c=-1:=by
   have:=I.g0;have wf:gA G0 es 0=!true:=wf;rw[wf] at this;simpa using this.symm
  have nx:Bv (Bg (es++[.wb v]) (es.length+1)) 0 es (bg,[])=Bv (Bg es es.length) 0 es (bg,[]):=Cv es 0 _ λj _ _=>FH (by simp);refine⟨⟨I.ok.w,λ_=>⟨v0,by show v<10;omega⟩,λl hl=>?_,by show (k.ts.map _).length=m;rw[AAF];exact I.ok.n,I.ok.m⟩,?_,λ_=>?_,?_,λr hr=>?_,λr l hr=>?_⟩
  ·obtain⟨t,ht,e⟩:=AAL.mp hl;cases t with
   |none=>cases e
   |some l0=>cases e;exact Im h1 (I.ok.ts l0 ht) ⟨v0,by omega⟩
  ·rw[len,B5,nx,I.now,if_pos c1,Nat.zero_add];unfold Du;dsimp only;have:Bg (es++[.wb v]) (es.length+1) es.length=false:=by rw[FH (by simp)];exact JZ (AAE _)
   rw[this,if_neg (by decide),if_neg (by omega)];rfl
  ·rw[B5];have h2:=Io es 0 (bg,[]);unfold Du;dsimp only;rw[if_pos rfl,h2]
  ·rw[Bl];show gS _ _ 0=decide (v≠-1);unfold gS;rw[if_pos (show 0=(Ev.wb v).hand from rfl),AAO (by omega)];rfl
  ·rw[Bl];show gS _ _ (r+1)=false;unfold gS;rw[if_neg (by simp[Ev.hand])];refine I.no r ?_;have hr:(k.ts.map (Option.map λl=>bsd sf sz l v))[r]?=some none:=hr;rw[AAV] at hr;cases q:k.ts[r]? with
   |none=>rw[q] at hr;cases hr
   |some t=>
    rw[q] at hr;cases t with
    |none=>rfl
    |some l=>cases hr
  ·have hr:(k.ts.map (Option.map λl=>bsd sf sz l v))[r]?=some (some l):=hr;rw[AAV] at hr;cases q:k.ts[r]? with
   |none=>rw[q] at hr;cases hr
   |some t=>
    rw[q] at hr;cases t with
    |none=>cases hr
    |some l0=>
     cases hr;obtain⟨hg,b,F,hl⟩:=I.yes r l0 q;have hb:=F.lt;refine⟨?_,b,kept r b F hg,?_⟩
     ·rw[Bl];unfold gS;rw[if_neg (by simp[Ev.hand])];exact hg
     ·show bsd sf sz l0 v=_;rw[hl,SI,old b (by omega)];unfold Du;dsimp only;rw[JZ (by omega),if_neg (by decide)]
 |we=>
  cases hs;have c1:k.c≠-1:=by
   have:=I.g0;have wf:gA G0 es 0=!false:=wf;rw[wf] at this;simpa using this.symm
  have nx:Bv (Bg (es++[.we]) (es.length+1)) 0 es (bg,[])=Bv (λ_=>true) 0 es (bg,[]):=Cv es 0 _ λj _ hj=>Ud (by omega);refine⟨⟨I.ok.c c1,λz=>absurd rfl z,I.ok.ts,I.ok.n,I.ok.m⟩,?_,λz=>absurd rfl z,?_,λr hr=>?_,λr l hr=>?_⟩
  ·rw[len,B5,nx,I.com c1];rfl
  ·rw[Bl];show gS _ _ 0=decide ((-1:Int)≠-1);unfold gS;rw[if_pos (show 0=Ev.we.hand from rfl)];rfl
  ·rw[Bl];unfold gS;rw[if_neg (by simp[Ev.hand])];exact I.no r hr
  ·obtain⟨hg,b,F,hl⟩:=I.yes r l hr;have hb:=F.lt;refine⟨?_,b,kept r b F hg,by rw[hl,old b (by omega)];rfl⟩;rw[Bl];unfold gS;rw[if_neg (by simp[Ev.hand])];exact hg
 |rb r0=>
  cases hs;have hr0:r0<k.ts.length:=by rw[I.ok.n];have:r0+1<=m:=hh;omega
  have nx:Bv (Bg (es++[.rb r0]) (es.length+1)) 0 es (bg,[])=Bv (Bg es es.length) 0 es (bg,[]):=Cv es 0 _ λj _ _=>FH (by simp);have sb:Gm (DI sf sz k.w k.c):=by
   unfold DI;split
   ·exact⟨by simp,λx hx=>by rw[AAK] at hx;subst hx;exact I.ok.w⟩
   ·rename_i hc;exact Im h1 ⟨by simp,λx hx=>by rw[AAK] at hx;subst hx;exact I.ok.w⟩ (I.ok.c hc)
  refine⟨⟨I.ok.w,I.ok.c,λl hl=>?_,by show (k.ts.set r0 _).length=m;rw[AAx];exact I.ok.n,I.ok.m⟩,?_,λz=>?_,?_,λr hr=>?_,λr l hr=>?_⟩
  ·rcases List.mem_or_eq_of_mem_set hl with z|z
   ·exact I.ok.ts l z
   ·cases z;exact sb
  ·rw[len,B5,nx,I.now];rfl
  ·rw[B5,I.com z];rfl
  ·rw[Bl];unfold gS;rw[if_neg (by simp[Ev.hand])];exact I.g0
  ·have hr:(k.ts.set r0 (some (DI sf sz k.w k.c)))[r]?=some none:=hr;by_cases e0:r0=r
   ·subst e0;rw[List.getElem?_set_self hr0] at hr;cases hr
   ·rw[AAp e0] at hr;rw[Bl];unfold gS;rw[if_neg (by show ¬r+1=r0+1;omega)];exact I.no r hr
  ·have hr:(k.ts.set r0 (some (DI sf sz k.w k.c)))[r]?=some (some l):=hr;by_cases e0:r0=r
   ·subst e0;rw[List.getElem?_set_self hr0] at hr;cases hr;refine⟨?_,es.length,First.new,?_⟩
    ·rw[Bl];unfold gS;rw[if_pos (show r0+1=(Ev.rb r0).hand from rfl)];rfl
    ·rw[old es.length (AAE _),I.now,SM];rfl
   ·rw[AAp e0] at hr;obtain⟨hg,b,F,hl⟩:=I.yes r l hr;have hb:=F.lt;refine⟨?_,b,kept r b F hg,by rw[hl,old b (by omega)];rfl⟩;rw[Bl];unfold gS;rw[if_neg (by show ¬r+1=r0+1;omega)];exact hg
 |re r0 v=>
  have nx:Bv (Bg (es++[.re r0 v]) (es.length+1)) 0 es (bg,[])=Bv (Bg es es.length) 0 es (bg,[]):=Cv es 0 _ λj _ _=>FH (by simp);have hk:k'=⟨k.w,k.c,k.ts.set r0 none⟩:=by
   unfold C3.step at hs;dsimp only at hs;split at hs
   ·split at hs
    ·exact(Option.some.inj hs).symm
    ·cases hs
   ·cases hs
  subst hk;have hr0:r0<k.ts.length:=by rw[I.ok.n];have:r0+1<=m:=hh;omega
  refine⟨⟨I.ok.w,I.ok.c,λl hl=>?_,by show (k.ts.set r0 _).length=m;rw[AAx];exact I.ok.n,I.ok.m⟩,?_,λz=>?_,?_,λr hr=>?_,λr l hr=>?_⟩
  ·rcases List.mem_or_eq_of_mem_set hl with z|z
   ·exact I.ok.ts l z
   ·cases z
  ·rw[len,B5,nx,I.now];rfl
  ·rw[B5,I.com z];rfl
  ·rw[Bl];unfold gS;rw[if_neg (by simp[Ev.hand])];exact I.g0
  ·have hr:(k.ts.set r0 none)[r]?=some none:=hr;rw[Bl];unfold gS;by_cases e0:r0=r
   ·subst e0;rw[if_pos (show r0+1=(Ev.re r0 v).hand from rfl)];rfl
   ·rw[AAp e0] at hr;rw[if_neg (by show ¬r+1=r0+1;omega)];exact I.no r hr
  ·have hr:(k.ts.set r0 none)[r]?=some (some l):=hr;by_cases e0:r0=r
   ·subst e0;rw[List.getElem?_set_self hr0] at hr;cases hr
   ·rw[AAp e0] at hr;obtain⟨hg,b,F,hl⟩:=I.yes r l hr;have hb:=F.lt;refine⟨?_,b,kept r b F hg,by rw[hl,old b (by omega)];rfl⟩;rw[Bl];unfold gS;rw[if_neg (by show ¬r+1=r0+1;omega)];exact hg
end K13
set_option maxHeartbeats 4000000
namespace K13
open PySem L2 Mi Ht
structure Ev.In(m:Nat)(sz:Int)(e:Ev):Prop where
 h:e.hand<=m
 v:∀v,e.val=some v->0<=v/\v<sz
theorem RY{sf:Bool}{sz bg:Int}{m:Nat}{es:List Ev}{k:C3}{e:Ev}(h1:sz<=10)(I:Inv sf sz bg m es k)(wf:gA G0 es e.hand=!e.beg)(ei:e.In m sz):k.fits e:=by
 cases e with
 |wb v=>have:=ei.v v rfl;show 0<=v/\v<10;omega
 |we=>
  have h2:=I.g0;have wf:gA G0 es 0=!false:=wf;rw[wf] at h2;show k.c≠-1;simpa using h2.symm
 |rb r=>have:=ei.h;show r<k.ts.length;rw[I.ok.n];have:r+1<=m:=this;omega
 |re r v=>
  have hr:r<k.ts.length:=by rw[I.ok.n];have:r+1<=m:=ei.h;omega
  have wf:gA G0 es (r+1)=!false:=wf;cases q:k.ts[r] with
  |none=>
   have:=I.no r (by rw[AAu hr,q]);rw[wf] at this;cases this
  |some l=>exact⟨l,by rw[AAu hr,q]⟩
theorem H9{sf:Bool}{sz bg:Int}{m:Nat}(h1:sz<=10):∀(es pre:List Ev) (k:C3),wfG G0 (pre++es)->(∀e∈es,e.In m sz)->Inv sf sz bg m pre k->F3 sf sz m k es
 |[],_,_,_,_,_=>trivial
 |e::es,pre,k,wf,ei,I=>by
  obtain⟨w1,w2,_⟩:=wf_app.mp wf;have e0:=ei e (by simp);refine⟨RY h1 I w2 e0,λk' hs=>?_⟩;have I':=RX h1 I w2 e0.v e0.h hs;exact⟨I'.ok,H9 h1 es (pre++[e]) k' (by simpa using wf) (λx hx=>ei x (by simp[hx])) I'⟩
end K13
set_option maxHeartbeats 4000000
namespace K13
open PySem L2 Mi Ht
section
variable{Z w5 w6 x8:Mh}{B w9:Sl}{x0 d:D}{ds:List D}{n:Nat}
theorem Ux:Iz (.int 10) (.int 9) Z=some (.int 1000000000,Z):=by
 show (if (0:Int)<=9/\(9:Int)<=1000000/\(10:Int).natAbs<2 ^ 64 then some (D.int ((10:Int) ^ (9:Int).toNat),Z) else none)=_;rw[if_pos (by decide)];rfl
theorem WL(h:Z[n]?=some (.lst ds)):Bo [.ref n] Z=some (.int ds.length,Z):=by
 unfold Bo;simp only[h]
theorem Rm{mc:Sl->M Bool}{mb:Sl->M (Fl×Sl)}{r:Fl×Sl}{x5:Sl}{k:Nat}(h1:mc B Z=some (true,Z))(h2:mb B Z=some ((.next,x5),w6))(h3:Gn mc mb k x5 w6=some (r,x8)):Gn mc mb (k+1) B Z=some (r,x8):=by
 unfold Gn;rw[AM h1,if_pos rfl,AM h2];exact h3
theorem IB{mc:Sl->M Bool}{mb:Sl->M (Fl×Sl)}{k:Nat}(h1:mc B Z=some (false,Z)):Gn mc mb (k+1) B Z=some ((.next,B),Z):=by
 unfold Gn;rw[AM h1];rfl
noncomputable abbrev XM:Sl->M Bool:=(C5 (AK (mOp AY (mOp Ba (AA 0) (mC (.int 2))) (mC (.int 0)))) (C5 (AK (mOp OY (AA 3) (mC (.int 0)))) (AK (mOp OX (AG Bo (AC (AA 2) AJ)) (AA 1)))))
noncomputable abbrev XN:Sl->M (Fl×Sl):=(AT (A5 (Ai Co (AA 2) (AC (mOp Ba (AA 3) (mOp Iz (mC (.int 10)) (mC (.int 9)))) AJ)))
  (Af (mOp BO (AA 3) (mOp Iz (mC (.int 10)) (mC (.int 9)))) (AN 3)))
theorem SQ{x:D}{S:Sl}{k:Nat}{me:Sl->M D}(h:S[k]?=some (some (.ref Z.length)))(hl:ds.length<=1000)(he:me S (Z++[.lst ds])=some (x,Z++[.lst ds])):A5 (Ai Co (AA k) (AC me AJ)) S (Z++[.lst ds])=some ((.next,S),Z++[.lst (ds++[x])]):=by
 have hz:=BN;refine Cn (d:=.non) (Cm (x:=.ref Z.length) (ds:=[x]) (w5:=Z++[.lst ds]) (w6:=Z++[.lst ds]) (x8:=Z++[.lst ds]) (Ar h) (A9 g1) (pc he rfl) ?_);rw[CB g1 (by omega),s1]
theorem OK{c:Int}:∃(m:Int) (fs:List Int),fs.length<=1/\(∀x∈fs,0<=x)/\J3 BE XM XN [some (.int c),some (.int 1),some (.ref Z.length),some (.int (c / 2)),none] (Z++[.lst []])=some ((.next,[some (.int c),some (.int 1),some (.ref Z.length),some (.int m),none]),Z++[.lst (fs.map D.int)]):=by
 have hf:BE=1048574+1+1:=rfl;have ta:∀(m:Int) (M:Mh),AK (mOp AY (mOp Ba (AA 0) (mC (.int 2))) (mC (.int 0))) [some (.int c),some (.int 1),some (.ref Z.length),some (.int m),none] M=some (c % 2==0,M):=λm M=>AR (po (x:=.int (c % 2)) (y:=.int 0) (po (x:=.int c) (y:=.int 2) rfl rfl (Dc (by decide))) rfl DO);have tb:∀(m:Int) (M:Mh),AK (mOp OY (AA 3) (mC (.int 0))) [some (.int c),some (.int 1),some (.ref Z.length),some (.int m),none] M=some (decide (0<m),M):=λm M=>AR (po (x:=.int m) (y:=.int 0) rfl rfl rfl);have tc:∀(m:Int) (fs:List D),AK (mOp OX (AG Bo (AC (AA 2) AJ)) (AA 1)) [some (.int c),some (.int 1),some (.ref Z.length),some (.int m),none] (Z++[.lst fs])=some (decide ((fs.length:Int)<1),Z++[.lst fs]):=λm fs=>AR (po (x:=.int fs.length) (y:=.int 1) (pd (ds:=[.ref Z.length]) rfl (WL g1)) rfl rfl);show ∃m fs,_/\_/\Gn XM XN BE _ _=_;rw[hf];by_cases h2:c % 2=0
 ·have ta':∀(m:Int) (M:Mh),AK (mOp AY (mOp Ba (AA 0) (mC (.int 2))) (mC (.int 0))) [some (.int c),some (.int 1),some (.ref Z.length),some (.int m),none] M=some (true,M):=λm M=>(ta m M).trans (by rw[h2];rfl);by_cases h3:0<c / 2
  ·refine⟨c / 2 / 1000000000,[c / 2 % 1000000000],by simp,λx hx=>by rw[AAK] at hx;subst hx;exact AAY _ (by decide),?_⟩;refine Rm (w6:=Z++[.lst [.int (c / 2 % 1000000000)]]) (x5:=[some (.int c),some (.int 1),some (.ref Z.length),some (.int (c / 2 / 1000000000)),none]) (B6 (ta' _ _) (B6 ((tb _ _).trans (by rw[AAO h3])) (tc _ _))) (AV (SQ (ds:=[]) (x:=.int (c / 2 % 1000000000)) rfl (by simp) (po (x:=.int (c / 2)) (y:=.int 1000000000) rfl (po (x:=.int 10) (y:=.int 9) rfl rfl Ux) (Dc (by decide)))) (pa (po (x:=.int (c / 2)) (y:=.int 1000000000) rfl (po (x:=.int 10) (y:=.int 9) rfl rfl Ux) (Cj (by decide) (by decide))) rfl)) ?_;by_cases h4:0<c / 2 / 1000000000
   ·exact IB (B6 (ta' _ _) (B6 ((tb _ _).trans (by rw[AAO h4])) (tc _ _)))
   ·exact IB (B6 (ta' _ _) (DA ((tb _ _).trans (by rw[AAN h4]))))
  ·exact⟨c / 2,[],by simp,by simp,IB (B6 (ta' _ _) (DA ((tb _ _).trans (by rw[AAN h3]))))⟩
 ·exact⟨c / 2,[],by simp,by simp,IB (DA ((ta _ _).trans (by rw[AAf.mpr h2])))⟩
theorem Pl{c:Int}:∃x:Int,0<=x/\CO [.int c,.int 1] Z=some (.lst [.int x],Z):=by
 have hz:=BN;obtain⟨m,fs,h1,h2,wh⟩:=OK (Z:=Z) (c:=c)
 let s0:Int:=(c / 2+7919) * 48271 % 2147483647
 have q0:s0=(c / 2+7919) * 48271 % 2147483647:=rfl;have p0:0<=s0:=AAY _ (by decide);have p1:s0<2147483647:=AAZ _ (by decide);generalize s0=s0 at q0 p0 p1
 let s1':Int:=s0 * (s0 / 1009+69621+0) % 2147483647
 have q1:s1'=s0 * (s0 / 1009+69621+0) % 2147483647:=rfl;have r0:0<=s1':=AAY _ (by decide);have r1:s1'<2147483647:=AAZ _ (by decide);generalize s1'=s1' at q1 r0 r1
 let x1:Int:=s1' * (s1' / 127+40009) % 2147483629
 have q2:x1=s1' * (s1' / 127+40009) % 2147483629:=rfl;have x0:0<=x1:=AAY _ (by decide);generalize x1=x1 at q2 x0;have hx:∃x:Int,0<=x/\Cr ((fs++[x1]).map D.int) none (some 1)=[.int x]:=by
  cases fs with
  |nil=>exact⟨x1,x0,rfl⟩
  |cons y ys=>
   have hl:ys.length=0:=by rw[AAH] at h1;omega
   have:ys=[]:=List.length_eq_zero_iff.mp hl;subst this;exact⟨y,h2 y (by simp),rfl⟩
 obtain⟨x,hx0,hcut⟩:=hx;refine⟨x,hx0,AU (g:=[.lst ((fs++[x1]).map D.int)]) (x5:=[some (.int c),some (.int 1),some (.ref Z.length),some (.int (s1'+1)),some (.int 0)]) ?_ rfl (by simp[Cl,ClL])⟩;refine AV (w5:=Z++[.lst []]) (w9:=[some (.int c),some (.int 1),some (.ref Z.length),none,none]) (Ds (d:=.ref Z.length) (w5:=Z++[.lst []]) (Bu (ds:=[]) (w5:=Z) rfl ?_) rfl) ?_
 ·unfold FZ;rw[AM (show lim ([]:List D).length Z=some ((),Z) from by unfold lim;rw[if_pos (by simp)])]
 refine AV (w9:=[some (.int c),some (.int 1),some (.ref Z.length),some (.int (c / 2)),none]) (pa (po (x:=.int c) (y:=.int 2) rfl rfl (Cj (by decide) (by decide))) rfl) (AV wh ?_);refine AV (w9:=[some (.int c),some (.int 1),some (.ref Z.length),some (.int s0),none]) (pa (d:=.int s0) (po (x:=.int ((c / 2+7919) * 48271)) (y:=.int 2147483647) (po (x:=.int (c / 2+7919)) (y:=.int 48271) (po (x:=.int (c / 2)) (y:=.int 7919) (po (x:=.int c) (y:=.int 2) rfl rfl (Cj (by decide) (by decide))) rfl rfl) rfl (Ng (.inr (by decide)))) rfl ?_) rfl) ?_
 ·rw[Dc (by decide),q0]
 have fr:DN (AC (AA 1) AJ) [some (.int c),some (.int 1),some (.ref Z.length),some (.int s0),none] (Z++[.lst (fs.map D.int)])=some ([.int 0],Z++[.lst (fs.map D.int)]):=by
  unfold DN;rw[AM (show AC (AA 1) AJ [some (.int c),some (.int 1),some (.ref Z.length),some (.int s0),none] (Z++[.lst (fs.map D.int)])=some ([.int 1],Z++[.lst (fs.map D.int)]) from rfl)];unfold LG;dsimp only;rw[if_pos (by decide)];rfl
 refine AV (w5:=Z++[.lst ((fs++[x1]).map D.int)]) (w9:=[some (.int c),some (.int 1),some (.ref Z.length),some (.int (s1'+1)),some (.int 0)]) (Eu fr (Ao (w9:=[some (.int c),some (.int 1),some (.ref Z.length),some (.int s0),some (.int 0)]) (w5:=Z++[.lst (fs.map D.int)]) rfl ?_ rfl)) ?_
 ·refine AV (w5:=Z++[.lst (fs.map D.int)]) (w9:=[some (.int c),some (.int 1),some (.ref Z.length),some (.int s1'),some (.int 0)]) (pa (d:=.int s1') (po (x:=.int (s0 * (s0 / 1009+69621+0))) (y:=.int 2147483647) (po (x:=.int s0) (y:=.int (s0 / 1009+69621+0)) rfl (po (x:=.int (s0 / 1009+69621)) (y:=.int 0) (po (x:=.int (s0 / 1009)) (y:=.int 69621) (po (x:=.int s0) (y:=.int 1009) rfl rfl (Cj (by decide) (by decide))) rfl rfl) rfl rfl) (Ng (.inl ⟨by omega,by omega⟩))) rfl ?_) rfl) (AV (w5:=Z++[.lst ((fs++[x1]).map D.int)]) (w9:=[some (.int c),some (.int 1),some (.ref Z.length),some (.int s1'),some (.int 0)]) ?_ (pa (po (x:=.int s1') (y:=.int 1) rfl rfl rfl) rfl))
  ·rw[Dc (by decide),q1]
  ·rw[AAX];refine SQ (ds:=fs.map D.int) (x:=.int x1) rfl (by rw[AAF];omega) (po (x:=.int (s1' * (s1' / 127+40009))) (y:=.int 2147483629) (po (x:=.int s1') (y:=.int (s1' / 127+40009)) rfl (po (x:=.int (s1' / 127)) (y:=.int 40009) (po (x:=.int s1') (y:=.int 127) rfl rfl (Cj (by decide) (by decide))) rfl rfl) (Ng (.inl ⟨by omega,by omega⟩))) rfl ?_);rw[Dc (by decide),q2]
 ·refine Dr (Rn (x0:=.ref Z.length) (a:=none) (b:=some 1) (w5:=Z++[.lst ((fs++[x1]).map D.int)]) (w6:=Z++[.lst ((fs++[x1]).map D.int)]) (x8:=Z++[.lst ((fs++[x1]).map D.int)]) rfl rfl rfl ?_);show bnd (CL (.ref Z.length)) (λds=>Mi.ret (D.lst (Cr ds none (some 1)))) (Z++[MO.lst ((fs++[x1]).map D.int)])=_;rw[AM (show CL (.ref Z.length) (Z++[.lst ((fs++[x1]).map D.int)])=some ((fs++[x1]).map D.int,Z++[.lst ((fs++[x1]).map D.int)]) from by unfold CL;dsimp only;rw[g1])];show some (D.lst (Cr ((fs++[x1]).map D.int) none (some 1)),_)=_;rw[hcut]
end
end K13
set_option maxHeartbeats 4000000
namespace K13
open PySem L2 Mi Ht
section
variable{Z:Mh}{w9:Sl}{d:D}{ds es:List D}{n:Nat}
variable{sf:Bool}{sz bg:Int}{ns:List Str}
noncomputable abbrev nL0:List Str:=["w", "r", "s", "t"]
noncomputable abbrev nL1:List Str:=["writer", "a", "ab", "b"]
noncomputable abbrev nL2:List Str:=["z", "zz", "zzzzzzzz", "begin"]
theorem UA{L:List Str}(h1:∀n∈L,PyData.strOk n=true)(h2:L.Nodup)(h3:L.length=4){j:Nat}(a:2<=j)(b:j<=4):Ns (L.take j):=
 ⟨λn hn=>h1 n (List.mem_of_mem_take hn),h2.sublist (List.take_sublist _ _),by rw[List.length_take];omega,by rw[List.length_take];omega⟩
theorem W6{x:Int}:∃L:List Str,L.length=4/\(∀n∈L,PyData.strOk n=true)/\L.Nodup/\∀M:Mh,AL (.lst [.lst (nL0.map D.str),.lst (nL1.map D.str),.lst (nL2.map D.str)]) (.int (x % 3)) M=some (.lst (L.map D.str),M):=by
 have h0:0<=x % 3:=AAY _ (by decide);have h1:x % 3<3:=AAZ _ (by decide);rcases(show x % 3=0∨x % 3=1∨x % 3=2 by omega) with h|h|h<;>rw[h]
 ·exact⟨nL0,rfl,by decide +kernel,by decide +kernel,λM=>rfl⟩
 ·exact⟨nL1,rfl,by decide +kernel,by decide +kernel,λM=>rfl⟩
 ·exact⟨nL2,rfl,by decide +kernel,by decide +kernel,λM=>rfl⟩
theorem YK{k:Nat}:Cl k (mkD sf sz bg ns):=by
 have:=Ak (k:=k) (f:=hdD) (λn=>by simp[hdD,Cl,ClL]) ns;simp[mkD,Cl,ClL,this]
theorem Kp{x:Int}:∃(sz bg:Int) (ns:List Str),2<=sz/\sz<=10/\0<=bg/\bg<sz/\Ns ns/\CP [.int x,.str (kdS sf)] Z=some (mkD sf sz bg ns,Z):=by
 have hz:=BN
 let s:Int:=2+x / 4 % 9
 have qs:s=2+x / 4 % 9:=rfl;have s0:2<=s:=by have:=AAY (x / 4) (show (9:Int)≠0 by decide);omega
 have s1:s<=10:=by have:=AAZ (x / 4) (show (0:Int)<9 by decide);omega
 generalize s=s at qs s0 s1;have b0:0<=x / 324 % s:=AAY _ (by omega);have b1:x / 324 % s<s:=AAZ _ (by omega);obtain⟨L,l4,lok,lnd,lix⟩:=W6 (x:=x / 36);have t0:0<=x / 108 % 3:=AAY _ (by decide);have t1:x / 108 % 3<3:=AAZ _ (by decide)
 let j:Nat:=(1+(1+x / 108 % 3)).toNat
 have qj:(j:Int)=1+(1+x / 108 % 3):=by show (((1+(1+x / 108 % 3)).toNat:Nat):Int)=_;omega
 generalize j=j at qj;refine⟨s,x / 324 % s,L.take j,s0,s1,b0,b1,UA lok lnd l4 (by omega) (by omega),?_⟩;refine AU (g:=[]) (x5:=[some (.int x),some (.str (kdS sf)),some (.int s),some (.lst (L.map D.str)),some (.int (1+x / 108 % 3)),some (.lst ((L.take j).map hdD))]) ?_ rfl YK;rw[AAa];refine pq (w9:=[some (.int x),some (.str (kdS sf)),some (.int s),none,none,none]) (pa (d:=.int s) (po (x:=.int 2) (y:=.int (x / 4 % 9)) rfl (po (x:=.int (x / 4)) (y:=.int 9) (po (x:=.int x) (y:=.int 4) rfl rfl (Cj (by decide) (by decide))) rfl (Dc (by decide))) (by rw[qs];rfl)) rfl) ?_;refine pq (w9:=[some (.int x),some (.str (kdS sf)),some (.int s),some (.lst (L.map D.str)),none,none]) (pa (po (x:=.lst [.lst (nL0.map D.str),.lst (nL1.map D.str),.lst (nL2.map D.str)]) (y:=.int (x / 36 % 3)) ?_ (po (x:=.int (x / 36)) (y:=.int 3) (po (x:=.int x) (y:=.int 36) rfl rfl (Cj (by decide) (by decide))) rfl (Dc (by decide))) (lix Z)) rfl) ?_
 ·exact pd (ds:=[.lst (nL0.map D.str),.lst (nL1.map D.str),.lst (nL2.map D.str)]) (pc (pd (ds:=nL0.map D.str) rfl (Am (by simp;omega))) (pc (pd (ds:=nL1.map D.str) rfl (Am (by simp;omega))) (pc (pd (ds:=nL2.map D.str) rfl (Am (by simp;omega))) rfl))) (Am (by simp;omega))
 refine pq (w9:=[some (.int x),some (.str (kdS sf)),some (.int s),some (.lst (L.map D.str)),some (.int (1+x / 108 % 3)),none]) (pa (po (x:=.int 1) (y:=.int (x / 108 % 3)) rfl (po (x:=.int (x / 108)) (y:=.int 3) (po (x:=.int x) (y:=.int 108) rfl rfl (Cj (by decide) (by decide))) rfl (Dc (by decide))) rfl) rfl) ?_;refine pq (w9:=[some (.int x),some (.str (kdS sf)),some (.int s),some (.lst (L.map D.str)),some (.int (1+x / 108 % 3)),some (.lst ((L.take j).map hdD))]) (pa (BY (ds:=(L.take j).map D.str) (es:=(L.take j).map hdD) (B4 (p2 (x:=.lst (L.map D.str)) (a:=none) (b:=some (1+(1+x / 108 % 3))) rfl rfl rfl ?_)) (by simp;omega) ?_ (Am (by simp;omega))) rfl) ?_
 ·show some (D.lst (Cr (L.map D.str) none (some (1+(1+x / 108 % 3)))),Z)=_;rw[←qj,GX (α:=.non) (by rw[AAF];omega),List.map_take]
 ·have:=Bs (Z:=Z) (mc:=Cg) (me:=(AG Ax (AC (AA 0) (AC (mC (.int 0)) (AC (AG Ax AJ) AJ))))) (u5:=[none]) (f:=D.str) (F:=hdD) (p:=λ_=>true) (xs:=L.take j) (ys:=[]) (λ_ _=>rfl) (λt _ _=>pd (ds:=[.str t,.int 0,.tup []]) (pc rfl (pc rfl (pc (pd (ds:=[]) rfl (Ad (by simp))) rfl))) (Ad (by simp;omega)));rw[Bp,List.nil_append] at this;exact this
 ·exact pr (pd (ds:=[.str (kdS sf),.int s,.int (x / 324 % s),.tup [],.tup ((L.take j).map hdD)]) (pc rfl (pc rfl (pc (po (x:=.int (x / 324)) (y:=.int s) (po (x:=.int x) (y:=.int 324) rfl rfl (Cj (by decide) (by decide))) rfl (Dc (by omega))) (pc (pd (ds:=[]) rfl (Ad (by simp))) (pc rfl rfl))))) (Ad (by simp;omega)))
theorem Sz{w:Nat}{ws:List Int}{y:Int}(hw:Z[w]?=some (.lst (ws.map D.int)))(hl:ws.length<=1000)(h0:0<sz)(b0:0<=bg)(b1:bg<sz)(hin:∀x∈ws,0<=x/\x<sz):∃v:Int,0<=v/\v<sz/\Ck [mkD sf sz bg ns,.ref w,.int y] Z=some (.int v,Z):=by
 have hz:=BN;obtain⟨zs,hzs,hmem,hlen⟩:∃zs:List Int,Cr (ws.map D.int) (some (-3)) none=zs.map D.int/\(∀x∈zs,x∈ws)/\zs.length<=ws.length:=by
  unfold Cr;refine⟨(ws.drop (HT.sIx (ws.map D.int).length 0 (some (-3)))).take (HT.sIx (ws.map D.int).length (ws.map D.int).length none-HT.sIx (ws.map D.int).length 0 (some (-3))),by rw[List.map_take,List.map_drop],λx hx=>List.mem_of_mem_drop (List.mem_of_mem_take hx),?_⟩;rw[List.length_take,List.length_drop];omega
 have y0:0<=y / 5 % sz:=AAY _ (by omega);have y1:y / 5 % sz<sz:=AAZ _ h0;have all:∀x∈zs++[y / 5 % sz,bg],0<=x/\x<sz:=λx hx=>by
  rcases AAJ.mp hx with z|z
  ·exact hin x (hmem x z)
  ·simp at z;rcases z with z|z
   ·rw[z];exact⟨y0,y1⟩
   ·rw[z];exact⟨b0,b1⟩
 have hne:0<(zs++[y / 5 % sz,bg]).length:=by simp
 generalize hal:zs++[y / 5 % sz,bg]=al at all hne;have i0:0<=y % (al.length:Int):=AAY _ (by omega);have i1:y % (al.length:Int)<al.length:=AAZ _ (by omega);have hall:al.length<=1002:=by rw[←hal];simp;omega
 obtain⟨i,hi⟩:∃i:Nat,y % (al.length:Int)=i:=⟨(y % (al.length:Int)).toNat,by omega⟩;have hi':i<al.length:=by omega
 refine⟨al[i],(all _ (List.getElem_mem hi')).1,(all _ (List.getElem_mem hi')).2,?_⟩;refine AU (g:=[]) (x5:=[some (mkD sf sz bg ns),some (.ref w),some (.int y),some (.lst (al.map D.int))]) ?_ rfl (BC _ _);rw[AAa];refine pq (w9:=[some (mkD sf sz bg ns),some (.ref w),some (.int y),some (.lst (al.map D.int))]) (pa (d:=.lst (al.map D.int)) (po (x:=.lst (zs.map D.int)) (y:=.lst [.int (y / 5 % sz),.int bg]) (p2 (x:=.ref w) (a:=some (-3)) (b:=none) rfl (by exact Nr (pn (x:=.int 3) rfl rfl)) rfl ?_) (pd (ds:=[.int (y / 5 % sz),.int bg]) (pc (po (x:=.int (y / 5)) (y:=.int sz) (po (x:=.int y) (y:=.int 5) rfl rfl (Cj (by decide) (by decide))) (po (x:=mkD sf sz bg ns) (y:=.int 1) rfl rfl rfl) (Dc h0)) rfl) (Am (by simp;omega))) ?_) rfl) (pr (po (x:=.lst (al.map D.int)) (y:=.int (y % (al.length:Int))) rfl (po (x:=.int y) (y:=.int al.length) rfl (pd (ds:=[.lst (al.map D.int)]) rfl ?_) (Dc (by omega))) ?_))
 ·show bnd (CL (.ref w)) (λds=>Mi.ret (D.lst (Cr ds (some (-3)) none))) Z=_;rw[AM (show CL (.ref w) Z=some (ws.map D.int,Z) from by unfold CL;dsimp only;rw[hw])];show some (D.lst (Cr (ws.map D.int) (some (-3)) none),Z)=_;rw[hzs]
 ·rw[Gz (by simp;omega),←hal,AAX];rfl
 ·show some (D.int (((al.map D.int).length:Nat):Int),Z)=_;rw[AAF]
 ·rw[hi];exact Gb (B7 (by rw[AAV,AAu hi'];rfl))
end
end K13
namespace K11
open PySem L2 Mi K13
end K11
set_option maxHeartbeats 4000000
namespace K11
open PySem L2 Mi Ht K13
end K11
set_option maxHeartbeats 4000000
namespace K11
open PySem L2 Mi Ht K13
end K11
set_option maxHeartbeats 4000000
namespace K11
open PySem L2 Mi Ht K13
end K11
set_option maxHeartbeats 4000000
namespace K11
open PySem L2 Mi Ht K13
end K11
set_option maxHeartbeats 4000000
namespace K11
open PySem L2 Mi Ht K13
section
variable{Z w5 w6:Mh}{B w9 x5:Sl}{n:Nat}{ds:List D}
theorem Oy{bf:D->Sl->M Sl}{mb:Sl->M (Fl×Sl)}{y:D}{i k:Nat}{r:(Fl×Sl)×Mh}(hn:Z[n]?=some (.lst ds))(hx:ds[i]?=some y)(h1:bf y B Z=some (w9,w5))(h2:mb w9 w5=some ((.next,x5),w6))(h3:GU n bf mb k (i+1) x5 w6=some r):GU n bf mb (k+1) i B Z=some r:=by
 unfold GU;simp only[hn,hx];rw[AM h1,AM h2];exact h3
theorem Oz{bf:D->Sl->M Sl}{mb:Sl->M (Fl×Sl)}{i k:Nat}(hn:Z[n]?=some (.lst ds))(hx:ds[i]?=none):GU n bf mb (k+1) i B Z=some ((.next,B),Z):=by
 unfold GU;simp only[hn,hx]
end
end K11
namespace Wb
open PySem Nk
noncomputable def mvR(c:Cs)(i:Nat):Cs:=(c.1,c.2.1,c.2.2.set i c.1)
noncomputable def rdF:Nat->List Int->List Nat
 |_,[]=>[]
 |k,t::r=>if t=-2 then k::rdF (k+1) r else rdF (k+1) r
noncomputable def QK(c:Cs):List Nat:=rdF 0 c.2.2
theorem Na{i:Nat}:∀{ts:List Int} {k:Nat},i∈rdF k ts↔k<=i/\ts[i-k]?=some (-2)
 |[],k=>by simp[rdF]
 |t::r,k=>by
  have ih:=Na (i:=i) (ts:=r) (k:=k+1);unfold rdF;by_cases hk:i=k
  ·subst hk;split
   ·rename_i h;subst h;simp
   ·rename_i h;rw[ih];constructor
    ·intro z;omega
    ·intro z;simp at z;exact absurd z h
  ·have e:k<=i/\(t::r)[i-k]?=some (-2)↔k+1<=i/\r[i-(k+1)]?=some (-2):=by
    constructor
    ·rintro⟨a,b⟩;have:i-k=(i-(k+1))+1:=by omega
     rw[this] at b;exact⟨by omega,by simpa using b⟩
    ·rintro⟨a,b⟩;have:i-k=(i-(k+1))+1:=by omega
     rw[this];exact⟨by omega,by simpa using b⟩
   rw[e,←ih];split
   ·simp[hk]
   ·rfl
theorem NS:∀(ts:List Int) (k:Nat),(rdF k ts).length<=ts.length
 |[],k=>by simp[rdF]
 |t::r,k=>by
  have:=NS r (k+1);unfold rdF;split<;>simp<;>omega
noncomputable def El(c:Cs):List (Nat×Cs):=(if 0<=c.2.1 then [(0,(c.2.1,-2,c.2.2))] else [])++(QK c).map λi=>(i+1,mvR c i)
noncomputable def nxt(c:Cs):List Cs:=(El c).map (·.2)
noncomputable def Ej(v:Int):List Int->List (List Int)
 |[]=>[[]]
 |t::r=>if t=-2 then (Ej v r).map (-2::·)++(Ej v r).map (v::·) else (Ej v r).map (t::·)
noncomputable def rch(c:Cs):List Cs:=(Ej c.1 c.2.2).map (λt=>(c.1,c.2.1,t))++if 0<=c.2.1 then ((Ej c.1 c.2.2).flatMap (Ej c.2.1)).map (λt=>(c.2.1,-2,t)) else []
theorem GM(v:Int):∀ts,ts∈Ej v ts
 |[]=>by simp[Ej]
 |t::r=>by
  unfold Ej;have:=GM v r;split
  ·rename_i e;subst e;simp[this]
  ·simp[this]
theorem Ei{v:Int}:∀{ts us:List Int} {i:Nat},us∈Ej v ts->us[i]?=some (-2)->us.set i v∈Ej v ts
 |[],us,i,h,e=>by simp[Ej] at h;subst h;simp at e
 |t::r,us,i,h,e=>by
  unfold Ej at h ⊢;split at h
  ·rename_i ht;rw[if_pos ht];rcases AAJ.mp h with h|h
   ·obtain⟨x,hx,rfl⟩:=AAL.mp h;cases i with
    |zero=>exact AAb _ (AAL.mpr ⟨x,hx,rfl⟩)
    |succ i=>exact AAc _ (AAL.mpr ⟨x.set i v,Ei hx (by simpa using e),rfl⟩)
   ·obtain⟨x,hx,rfl⟩:=AAL.mp h;cases i with
    |zero=>exact AAb _ (AAL.mpr ⟨x,hx,rfl⟩)
    |succ i=>exact AAb _ (AAL.mpr ⟨x.set i v,Ei hx (by simpa using e),rfl⟩)
  ·rename_i ht;rw[if_neg ht];obtain⟨x,hx,rfl⟩:=AAL.mp h;cases i with
   |zero=>simp at e;exact absurd e ht
   |succ i=>exact AAL.mpr ⟨x.set i v,Ei hx (by simpa using e),rfl⟩
theorem mem_rdrs{c:Cs}{i:Nat}:i∈QK c↔c.2.2[i]?=some (-2):=by
 unfold QK;rw[Na];simp
theorem mem_nxt{c x:Cs}:x∈nxt c↔(0<=c.2.1/\x=(c.2.1,-2,c.2.2))∨∃i,c.2.2[i]?=some (-2)/\x=mvR c i:=by
 unfold nxt El;rw[AAX,AAJ,List.map_map];constructor
 ·rintro(h|h)
  ·split at h
   ·rename_i h0;simp at h;exact .inl ⟨h0,h⟩
   ·simp at h
  ·obtain⟨i,hi,rfl⟩:=AAL.mp h;exact .inr ⟨i,mem_rdrs.mp hi,rfl⟩
 ·rintro(⟨h0,rfl⟩|⟨i,hi,rfl⟩)
  ·left;rw[if_pos h0];simp
  ·right;exact AAL.mpr ⟨i,mem_rdrs.mpr hi,rfl⟩
theorem Fs(c:Cs):c∈rch c:=AAc _ (AAL.mpr ⟨_,GM _ _,rfl⟩)
theorem J6{c x y:Cs}(h:x∈rch c)(hy:y∈nxt x):y∈rch c:=by
 unfold rch at h ⊢;rcases AAJ.mp h with h|h
 ·obtain⟨ts,ht,rfl⟩:=AAL.mp h;rcases mem_nxt.mp hy with ⟨h0,rfl⟩|⟨i,hi,rfl⟩
  ·refine AAb _ ?_;rw[if_pos h0];exact AAL.mpr ⟨ts,List.mem_flatMap.mpr ⟨ts,ht,GM _ _⟩,rfl⟩
  ·exact AAc _ (AAL.mpr ⟨_,Ei ht hi,rfl⟩)
 ·split at h
  ·rename_i h0;obtain⟨ts,ht,rfl⟩:=AAL.mp h;obtain⟨us,hu,hv⟩:=List.mem_flatMap.mp ht;rcases mem_nxt.mp hy with ⟨h1,rfl⟩|⟨i,hi,rfl⟩
   ·exact absurd h1 (show ¬(0:Int)<=-2 by decide)
   ·refine AAb _ ?_;rw[if_pos h0];exact AAL.mpr ⟨_,List.mem_flatMap.mpr ⟨us,hu,Ei hv hi⟩,rfl⟩
  ·cases h
inductive Rch:Cs->Cs->Prop
 |refl (c:Cs):Rch c c
 |step {a b c:Cs}:Rch a b->c∈nxt b->Rch a c
theorem Rch.trans{a b c:Cs}(h:Rch a b)(g:Rch b c):Rch a c:=by
 induction g with
 |refl=>exact h
 |step _ s ih=>exact .step ih s
theorem Ft{v c:Int}:∀{ts us:List Int} (pre:List Int),us∈Ej v ts->Rch (v,c,pre++ts) (v,c,pre++us)
 |[],us,pre,h=>by simp[Ej] at h;subst h;exact .refl _
 |t::r,us,pre,h=>by
  unfold Ej at h;have go:∀(a:Int) {x:List Int},x∈Ej v r->Rch (v,c,pre++a::r) (v,c,pre++a::x):=λa x hx=>by
   have:=Ft (c:=c) (pre++[a]) hx;simpa using this
  split at h
  ·rename_i ht;subst ht;rcases AAJ.mp h with h|h
   ·obtain⟨x,hx,rfl⟩:=AAL.mp h;exact go _ hx
   ·obtain⟨x,hx,rfl⟩:=AAL.mp h;refine Rch.trans (.step (.refl _) (mem_nxt.mpr (.inr ⟨pre.length,by simp,rfl⟩))) ?_;have:mvR (v,c,pre++-2::r) pre.length=(v,c,pre++v::r):=by simp[mvR]
    rw[this];exact go v hx
  ·obtain⟨x,hx,rfl⟩:=AAL.mp h;exact go _ hx
theorem rch_iff{c x:Cs}:x∈rch c↔Rch c x:=by
 constructor
 ·intro h;unfold rch at h;rcases AAJ.mp h with h|h
  ·obtain⟨ts,ht,rfl⟩:=AAL.mp h;exact Ft [] ht
  ·split at h
   ·rename_i h0;obtain⟨ts,ht,rfl⟩:=AAL.mp h;obtain⟨us,hu,hv⟩:=List.mem_flatMap.mp ht;exact(Rch.step (Ft (c:=c.2.1) [] hu) (mem_nxt.mpr (.inl ⟨h0,rfl⟩))).trans (Ft [] hv)
   ·cases h
 ·intro h
  induction h with
  |refl=>exact Fs _
  |step _ s ih=>exact J6 ih s
noncomputable def clo(cs:List Cs):List Cs:=cs.flatMap rch
theorem mem_clo{cs:List Cs}{x:Cs}:x∈clo cs↔∃c∈cs,x∈rch c:=List.mem_flatMap
noncomputable def vis(s:List Cs×List Cs)(c:Cs):List Cs×List Cs:=if c∈s.1 then s else (s.1++[c],s.2++[c])
noncomputable def hop(s:List Cs×List Cs)(c:Cs):List Cs×List Cs:=(nxt c).foldl vis (s.1,s.2.dropLast)
structure Wk(cs:List Cs)(ways wait:List Cs):Prop where
 nd:ways.Nodup
 sub:∀x∈wait,x∈ways
 don:∀x∈ways,x∈wait∨∀y∈nxt x,y∈ways
 frm:∀x∈ways,x∈clo cs
 all:∀x∈cs,x∈ways
theorem Wk.done{cs ways:List Cs}(w:Wk cs ways []){x:Cs}:x∈ways↔x∈clo cs:=by
 refine⟨w.frm x,λh=>?_⟩;obtain⟨c,hc,hx⟩:=mem_clo.mp h;have:=rch_iff.mp hx
 induction this with
 |refl=>exact w.all _ hc
 |step g s ih=>
  rcases w.don _ (ih (mem_clo.mpr ⟨c,hc,rch_iff.mpr g⟩) (rch_iff.mpr g)) with z|z
  ·cases z
  ·exact z _ s
structure Wm(cs:List Cs)(c:Cs)(ys:List Cs)(s:List Cs×List Cs):Prop where
 nd:s.1.Nodup
 sub:∀x∈s.2,x∈s.1
 don:∀x∈s.1,x∈s.2∨x=c∨∀y∈nxt x,y∈s.1
 ths:∀y∈nxt c,y∈ys∨y∈s.1
 frm:∀x∈s.1,x∈clo cs
 all:∀x∈cs,x∈s.1
 me:c∈s.1
theorem Wm.vis{cs:List Cs}{c y:Cs}{ys:List Cs}{s:List Cs×List Cs}(w:Wm cs c (y::ys) s)(hy:y∈nxt c):Wm cs c ys (vis s y):=by
 unfold Wb.vis;split
 ·rename_i h;exact⟨w.nd,w.sub,w.don,λz hz=>(w.ths z hz).elim (λq=>(AAI.mp q).elim (λe=>.inr (e ▸ h)) .inl) .inr,w.frm,w.all,w.me⟩
 ·rename_i h;refine⟨?_,?_,?_,?_,?_,λx hx=>AAc _ (w.all x hx),AAc _ w.me⟩
  ·refine List.nodup_append.mpr ⟨w.nd,by simp,λa ha b hb e=>h (by simp at hb;rw[←hb,←e];exact ha)⟩
  ·intro x hx;rcases AAJ.mp hx with z|z
   ·exact AAc _ (w.sub x z)
   ·exact AAb _ z
  ·intro x hx;rcases AAJ.mp hx with z|z
   ·rcases w.don x z with q|q|q
    ·exact .inl (AAc _ q)
    ·exact .inr (.inl q)
    ·exact .inr (.inr λu hu=>AAc _ (q u hu))
   ·exact .inl (AAb _ z)
  ·intro z hz;rcases w.ths z hz with q|q
   ·rcases AAI.mp q with e|q
    ·exact .inr (AAb _ (by rw[e];simp))
    ·exact .inl q
   ·exact .inr (AAc _ q)
  ·intro x hx;rcases AAJ.mp hx with z|z
   ·exact w.frm x z
   ·rw[AAK] at z;subst z;obtain⟨d,hd,hr⟩:=mem_clo.mp (w.frm c w.me);exact mem_clo.mpr ⟨d,hd,J6 hr hy⟩
theorem Wm.fold{cs:List Cs}{c:Cs}:∀{ys:List Cs} {s:List Cs×List Cs},Wm cs c ys s->(∀y∈ys,y∈nxt c)->Wm cs c [] (ys.foldl Wb.vis s)
 |[],_,w,_=>w
 |y::ys,s,w,h=>show Wm cs c [] (ys.foldl Wb.vis (Wb.vis s y)) from Wm.fold (ys:=ys) (w.vis (h y AAP)) λz hz=>h z (AAQ _ hz)
theorem Wk.hop{cs ways wait:List Cs}{c:Cs}(w:Wk cs ways (wait++[c])):Wk cs (hop (ways,wait++[c]) c).1 (hop (ways,wait++[c]) c).2:=by
 have m:Wm cs c (nxt c) (ways,(wait++[c]).dropLast):=by
  rw[List.dropLast_concat];refine⟨w.nd,λx hx=>w.sub x (AAc _ hx),λx hx=>?_,λy hy=>.inl hy,w.frm,w.all,w.sub c (by simp)⟩;rcases w.don x hx with q|q
  ·rcases AAJ.mp q with q|q
   ·exact .inl q
   ·exact .inr (.inl (by simpa using q))
  ·exact .inr (.inr q)
 have f:=m.fold λ_ h=>h;refine⟨f.nd,f.sub,λx hx=>?_,f.frm,f.all⟩;rcases f.don x hx with q|q|q
 ·exact .inl q
 ·subst q;exact .inr λy hy=>(f.ths y hy).elim (λz=>by cases z) id
 ·exact .inr q
theorem NF(s:List Cs×List Cs)(c:Cs):(vis s c).1.length+s.2.length=s.1.length+(vis s c).2.length:=by
 unfold vis;split
 ·omega
 ·simp;omega
theorem Ld:∀(ys:List Cs) (s:List Cs×List Cs),(ys.foldl vis s).1.length+s.2.length=s.1.length+(ys.foldl vis s).2.length
 |[],s=>rfl
 |y::ys,s=>by
  have h1:=NF s y;have h2:=Ld ys (vis s y);show ((ys.foldl vis (vis s y)).1).length+_=_+((ys.foldl vis (vis s y)).2).length;omega
theorem C1{α:Type}[DecidableEq α]:∀{xs ys:List α},xs.Nodup->(∀x∈xs,x∈ys)->xs.length<=ys.length
 |[],_,_,_=>AAl _
 |x::xs,ys,nd,h=>by
  obtain⟨n1,n2⟩:=List.nodup_cons.mp nd;have hx:=h x AAP;have:=C1 (xs:=xs) (ys:=ys.erase x) n2 λy hy=>(List.mem_erase_of_ne (λe=>n1 (by rw[←e];exact hy))).mpr (h y (AAQ _ hy));rw[List.length_erase_of_mem hx] at this;have:=List.length_pos_of_mem hx;simp;omega
end Wb
set_option maxHeartbeats 4000000
namespace K16
open PySem L2 Mi Nk Wb
open K13 (Ak BC Ad Am po pn pc pd pq pa piT piF pr peT peF Eb B7 BN DO A9 CB Ao B4 C9 Bs BY Bp)
section
variable{Z w5 w6 x8:Mh}{w9 x5:Sl}{d:D}{ds:List D}{n:Nat}
theorem Nv:AZ=K13.AZ:=rfl
theorem eq_acts:BF=K13.BF:=rfl
theorem eq_begun:Ap=K13.Ap:=rfl
noncomputable def Bt(p:Nat×Cs):D:=.tup [.int p.1,csD p.2]
theorem EW(k:Nat)(c:Cs):Cl k (csD c):=by
 unfold csD Cl ClL;refine⟨BC _ _,?_⟩;unfold ClL;refine⟨BC _ _,?_⟩;unfold ClL;exact⟨by unfold Cl;exact Ak (BC k) _,by unfold ClL;trivial⟩
theorem N2(k:Nat)(p:Nat×Cs):Cl k (Bt p):=by
 unfold Bt Cl ClL;refine⟨BC _ _,?_⟩;unfold ClL;exact⟨EW _ _,by unfold ClL;trivial⟩
theorem II{n ps:Nat}{mb:Sl->M (Fl×Sl)}{ds:List D}{Z g:Mh}{x5:Sl}(e:mb (CV n ds) Z=some ((.rt d,x5),Z++g))(hl:ds.length=ps)(hg:∀o∈g,∀k,ClO k o)(c:Cl (Z++g).length d):Au .all n ps mb ds Z=some (d,Z++g):=
 IH (hw:=.all) e hl (.inr ⟨d,rfl⟩) ⟨⟨[],by show Z++g=Z++g++[];simp⟩,(by show Z.length<=(Z++g).length;simp),λn o h=>by
  by_cases hn:n<Z.length
  ·left;have h':(Z++g)[n]?=some o:=h;rw[AAS hn] at h';exact h'
  ·right;have h':(Z++g)[n]?=some o:=h;rw[AAR (by omega)] at h';exact hg o (AAU h') _,.inl ⟨rfl,c⟩⟩
theorem X2{i j:Int}:MZ (.int i) (.int j) Z=some (.bl (decide (j<=i)),Z):=rfl
theorem g1a{a:MO}:(Z++[a])[Z.length]?=some a:=by rw[AAR (AAE _)];simp
theorem s1a{a b:MO}:(Z++[a]).set Z.length b=Z++[b]:=by rw[AAg _ _ (AAE _)];simp
theorem SQ{x:D}{S:Sl}{k:Nat}{me:Sl->M D}(h:S[k]?=some (some (.ref Z.length)))(hl:ds.length<=1000)(he:me S (Z++[.lst ds])=some (x,Z++[.lst ds])):A5 (Ai Co (AA k) (AC me AJ)) S (Z++[.lst ds])=some ((.next,S),Z++[.lst (ds++[x])]):=by
 have hz:=BN;refine Cn (d:=.non) (Cm (w5:=Z++[.lst ds]) (w6:=Z++[.lst ds]) (x8:=Z++[.lst ds]) (x:=.ref Z.length) (ds:=[x]) (Ar h) (A9 g1a) (pc he rfl) ?_);rw[CB g1a (by omega),s1a]
noncomputable abbrev Yo:Sl->M (Fl×Sl):=(sIf (AK (mOp AY (AA 3) (mC DS))) (A5 (Ai Co (AA 1) (AC (AG Ax (AC (mOp Ab (AA 2) (mC (.int 1))) (AC (AG Ax (AC (mOp AL (AA 0) (mC (.int 0))) (AC (mOp AL (AA 0) (mC (.int 1))) (AC (AG AZ (AC (mOp AL (AA 0) (mC (.int 2))) (AC (AA 2) (AC (mOp AL (AA 0) (mC (.int 0))) AJ)))) AJ)))) AJ))) AJ))) Ay)
theorem Md{c:Cs}(hc:c.2.2.length<=100):∀(rest:List Int) (k:Nat) (acc:List D) (o2 o3:Option D),k+rest.length=c.2.2.length->acc.length+rest.length<=1000->∃o2' o3':Option D,
  DE (Kc [2,3]) Yo (DP k (rest.map D.int)) [some (csD c),some (.ref Z.length),o2,o3] (Z++[.lst acc])=some ((.next,[some (csD c),some (.ref Z.length),o2',o3']),Z++[.lst (acc++(rdF k rest).map λi=>Bt (i+1,mvR c i))])
 |[],k,acc,o2,o3,_,_=>⟨o2,o3,by simp[rdF,DP];rfl⟩
 |t::r,k,acc,o2,o3,hk,hl=>by
  have hz:=BN;have ht:AK (mOp AY (AA 3) (mC DS)) [some (csD c),some (.ref Z.length),some (.int k),some (.int t)] (Z++[.lst acc])=some (t==-2,Z++[.lst acc]):=AR (po (x:=.int t) (y:=.int (-2)) rfl rfl DO);simp only[AAH] at hk hl;by_cases e:t=-2
  ·obtain⟨o2',o3',go⟩:=Md hc r (k+1) (acc++[Bt (k+1,mvR c k)]) (some (.int k)) (some (.int t)) (by omega) (by simp;omega);refine⟨o2',o3',?_⟩;have er:rdF k (t::r)=k::rdF (k+1) r:=by rw[rdF,if_pos e]
   rw[er];have ea:acc++List.map (λi=>Bt (i+1,mvR c i)) (k::rdF (k+1) r)=acc++[Bt (k+1,mvR c k)]++(rdF (k+1) r).map λi=>Bt (i+1,mvR c i):=by simp
   rw[ea];refine Ao (w9:=[some (csD c),some (.ref Z.length),some (.int k),some (.int t)]) (w5:=Z++[.lst acc]) (x:=.tup [.int k,.int t]) rfl (De (by rw[ht,e];rfl) (SQ (Z:=Z) rfl (by omega) ?_)) go;refine pd (ds:=[.int ((k:Int)+1),csD (mvR c k)]) (pc (x:=.int ((k:Int)+1)) (po (x:=.int k) (y:=.int 1) rfl rfl rfl) (pc (x:=csD (mvR c k)) (pd (ds:=[.int c.1,.int c.2.1,.tup ((c.2.2.set k c.1).map D.int)]) (pc (x:=.int c.1) rfl (pc (x:=.int c.2.1) rfl (pc (pd (ds:=[.tup (c.2.2.map D.int),.int k,.int c.1]) rfl ?_) rfl))) (Ad (by simp;omega))) rfl)) (by
     have:=Ad (Z:=Z++[.lst acc]) (ds:=[.int ((k:Int)+1),csD (mvR c k)]) (by simp;omega);rw[this];unfold Bt;simp)
   rw[Nv,Eb (by rw[AAF];omega) (by rw[AAF];omega) (λk=>Ak (BC k) _) (λk=>BC k _),List.map_set]
  ·obtain⟨o2',o3',go⟩:=Md hc r (k+1) acc (some (.int k)) (some (.int t)) (by omega) (by omega);refine⟨o2',o3',?_⟩;have er:rdF k (t::r)=rdF (k+1) r:=by rw[rdF,if_neg e]
   rw[er];exact Ao (w9:=[some (csD c),some (.ref Z.length),some (.int k),some (.int t)]) (w5:=Z++[.lst acc]) (x:=.tup [.int k,.int t]) rfl (CK (by rw[ht,AAf.mpr e]) rfl) go
theorem OE{c:Cs}(hc:c.2.2.length<=100):A8 [csD c] Z=some (.ref Z.length,Z++[.lst ((El c).map Bt)]):=by
 have hz:=BN;have i1:∀S (M:Mh),S[0]?=some (some (csD c))->mOp AL (AA 0) (mC (.int 1)) S M=some (.int c.2.1,M):=λS M h=>po (x:=csD c) (y:=.int 1) (Ar h) rfl rfl;have fst:sIf (AK (mOp MZ (mOp AL (AA 0) (mC (.int 1))) (mC (.int 0)))) (A5 (Ai Co (AA 1) (AC (AG Ax (AC (mC (.int 0)) (AC (AG Ax (AC (mOp AL (AA 0) (mC (.int 1))) (AC (mC F7) (AC (mOp AL (AA 0) (mC (.int 2))) AJ)))) AJ))) AJ))) Ay [some (csD c),some (.ref Z.length),none,none] (Z++[.lst []])=some ((.next,[some (csD c),some (.ref Z.length),none,none]),Z++[.lst ((if 0<=c.2.1 then [(0,(c.2.1,-2,c.2.2))] else []).map Bt)]):=by
  have t:AK (mOp MZ (mOp AL (AA 0) (mC (.int 1))) (mC (.int 0))) [some (csD c),some (.ref Z.length),none,none] (Z++[.lst []])=some (decide (0<=c.2.1),Z++[.lst []]):=AR (po (x:=.int c.2.1) (y:=.int 0) (i1 _ _ rfl) rfl X2);by_cases h0:0<=c.2.1
  ·rw[if_pos h0];refine De (by rw[t,AAO h0]) (SQ (Z:=Z) (ds:=[]) rfl (by simp) ?_);refine pd (ds:=[.int 0,csD (c.2.1,-2,c.2.2)]) (pc (x:=.int 0) rfl (pc (x:=csD (c.2.1,-2,c.2.2)) (pd (ds:=[.int c.2.1,.int (-2),.tup (c.2.2.map D.int)]) rfl (Ad (by simp;omega))) rfl)) (Ad (by simp;omega))
  ·rw[if_neg h0];exact CK (w5:=Z++[.lst []]) (by rw[t,AAN h0]) rfl
 have hlen:((if 0<=c.2.1 then [(0,(c.2.1,(-2:Int),c.2.2))] else []).map Bt).length<=1:=by split<;>simp
 obtain⟨o2,o3,go⟩:=Md (Z:=Z) hc c.2.2 0 ((if 0<=c.2.1 then [(0,(c.2.1,-2,c.2.2))] else []).map Bt) none none (by omega) (by omega);have em:(if 0<=c.2.1 then [(0,(c.2.1,(-2:Int),c.2.2))] else []).map Bt++(rdF 0 c.2.2).map (λi=>Bt (i+1,mvR c i))=(El c).map Bt:=by
  unfold El QK;rw[AAX,List.map_map];rfl
 rw[em] at go;refine II (x5:=[some (csD c),some (.ref Z.length),o2,o3]) ?_ rfl (λo ho k=>by rw[AAK] at ho;subst ho;exact Ak (N2 k) _) (by unfold Cl;simp);refine AV (w9:=[some (csD c),some (.ref Z.length),none,none]) (w5:=Z++[.lst []]) ?_ (AV fst (AV (Eu (ds:=DP 0 (c.2.2.map D.int)) (w5:=_) rfl go) (Dr (Ar rfl))));refine Ds (d:=.ref Z.length) (w5:=Z++[.lst []]) (Bu (ds:=[]) (w5:=Z) rfl ?_) rfl;unfold FZ;rw[AM (show lim ([]:List D).length Z=some ((),Z) from by unfold lim;rw[if_pos (by simp)])]
end
end K16
set_option maxHeartbeats 4000000
namespace K16
open PySem L2 Mi Nk Wb
open K13 (Ak BC Ad Am po pn pc pd pq pa piT piF pr peT peF Eb B7 BN DO A9 CB Ao B4 C9 Bs BY Bp)
section
variable{Z w5 w6 x8 g:Mh}{B w9 x5:Sl}{d:D}{ds:List D}{n:Nat}
theorem gA{a b:MO}:(Z++(a::b::g))[Z.length]?=some a:=by rw[AAR (AAE _)];simp
theorem gB{a b:MO}:(Z++(a::b::g))[Z.length+1]?=some b:=by rw[AAR (by omega)];simp
theorem sA{a b c:MO}:(Z++(a::b::g)).set Z.length c=Z++(c::b::g):=by rw[AAg _ _ (AAE _)];simp
theorem sB{a b c:MO}:(Z++(a::b::g)).set (Z.length+1) c=Z++(a::c::g):=by rw[AAg _ _ (by omega)];simp
theorem L4(c:Cs):Kf (csD c)=some c:=by
 obtain⟨a,b,ts⟩:=c;have h:∀ns:List Int,EM (ns.map D.int)=some ns:=λns=>by
  induction ns with
  |nil=>rfl
  |cons x r ih=>show (EM (r.map D.int)).map _=_;rw[ih];rfl
 show (EM (ts.map D.int)).map _=_;rw[h];rfl
theorem L3{L:List (Cs×D)}(h:Z[n]?=some (.dC L)):Ie (.ref n) Z=some ((n,L),Z):=by unfold Ie;dsimp only;rw[h]
theorem N9{L:List (Cs×D)}{c:Cs}:(L.any λz=>decide (z.1=c))=decide (c∈L.map (·.1)):=by
 rw[Bool.eq_iff_iff,List.any_eq_true,decide_eq_true_eq,AAL];constructor
 ·rintro⟨z,h1,h2⟩;exact⟨z,h1,of_decide_eq_true h2⟩
 ·rintro⟨z,h1,h2⟩;exact⟨z,h1,AAO h2⟩
theorem WN{L:List (Cs×D)}{c:Cs}(h:Z[n]?=some (.dC L)):O8 true (csD c) (.ref n) Z=some (.bl (!decide (c∈L.map (·.1))),Z):=by
 unfold O8;rw[AM (L3 h)];show (Kf (csD c)).map _=_;rw[L4,←N9];rfl
theorem Nt{mo mi mv:Sl->M D}{v:D}{c:Cs}{L:List (Cs×D)}(h1:mv B Z=some (v,Z))(h2:mo B Z=some (.ref n,Z))(h3:mi B Z=some (csD c,Z))(h:Z[n]?=some (.dC L))(hl:L.length<sizeLine)(hn:c∉L.map (·.1)):HP mo mi mv B Z=some ((.next,B),Z.set n (.dC (L++[(c,v)]))):=by
 unfold HP;rw[AM h1,AM h2,AM h3,AM (L3 h)];show (match Kf (csD c) with|some c=>if L.length<sizeLine/\(L.any λz=>decide (z.1=c))=false then some ((Fl.next,B),Z.set n (.dC (L++[(c,v)]))) else none|none=>none)=_;rw[L4];show (if L.length<sizeLine/\(L.any λz=>decide (z.1=c))=false then some ((Fl.next,B),Z.set n (.dC (L++[(c,v)]))) else none)=_;rw[if_pos ⟨hl,by rw[N9,AAN hn]⟩]
noncomputable abbrev wH(Z:Mh)(W:List (Cs×D))(wait:List Cs)(g:Mh):Mh:=Z++(.dC W::.lst (wait.map csD)::g)
noncomputable abbrev VM:Sl->M (Fl×Sl):=(sIf (AK (mOp (O8 true) (AA 5) (AA 1))) (AT (HP (AA 1) (AA 5) (AG Ax (AC (AA 4) (AC (AA 2) AJ))))
  (A5 (Ai Co (AA 3) (AC (AA 5) AJ)))) Ay)
theorem Pg{o0:Option D}{c x:Cs}{h:Int}{W:List (Cs×D)}{wait:List Cs}(hW:W.length<=1000)(hq:wait.length<=1000)(hc:∀k,ClL k (W.map (·.2))):∃W',(W'.map (·.1))=(vis (W.map (·.1),wait) x).1/\(∀k,ClL k (W'.map (·.2))) /\
  VM [o0,some (.ref Z.length),some (csD c),some (.ref (Z.length+1)),some (.int h),some (csD x)] (wH Z W wait g)=some ((.next,[o0,some (.ref Z.length),some (csD c),some (.ref (Z.length+1)),some (.int h),some (csD x)]),wH Z W' (vis (W.map (·.1),wait) x).2 g):=by
 have hz:=BN;have t:AK (mOp (O8 true) (AA 5) (AA 1)) [o0,some (.ref Z.length),some (csD c),some (.ref (Z.length+1)),some (.int h),some (csD x)] (wH Z W wait g)=some (!decide (x∈W.map (·.1)),wH Z W wait g):=AR (po (x:=csD x) (y:=.ref Z.length) rfl rfl (WN gA));by_cases e:x∈W.map (·.1)
 ·refine⟨W,by unfold vis;rw[if_pos e],hc,?_⟩;unfold vis;rw[if_pos e];exact CK (by rw[t,AAO e];rfl) rfl
 ·refine⟨W++[(x,.tup [.int h,csD c])],by unfold vis;rw[if_neg e,AAX];rfl,λk=>?_,?_⟩
  ·rw[AAX];have ap:∀as:List D,ClL k as->ClL k (as++[D.tup [.int h,csD c]]):=λas=>by
    induction as with
    |nil=>intro _;show ClL k [_];unfold ClL;exact⟨by unfold Cl ClL;exact⟨BC _ _,by unfold ClL;exact⟨EW _ _,by unfold ClL;trivial⟩⟩,by unfold ClL;trivial⟩
    |cons a as ih=>intro z;unfold ClL at z;show ClL k (a::(as++_));unfold ClL;exact⟨z.1,ih z.2⟩
   exact ap _ (hc k)
  ·unfold vis;rw[if_neg e];refine De (by rw[t,AAN e];rfl) (AV (w5:=wH Z (W++[(x,.tup [.int h,csD c])]) wait g) ?_ (Cn (d:=.non) (Cm (w5:=wH Z (W++[(x,.tup [.int h,csD c])]) wait g) (w6:=wH Z (W++[(x,.tup [.int h,csD c])]) wait g) (x8:=wH Z (W++[(x,.tup [.int h,csD c])]) wait g) (x:=.ref (Z.length+1)) (ds:=[csD x]) rfl (A9 gB) rfl ?_)))
   ·have:=Nt (B:=[o0,some (.ref Z.length),some (csD c),some (.ref (Z.length+1)),some (.int h),some (csD x)]) (Z:=wH Z W wait g) (n:=Z.length) (mo:=AA 1) (mi:=AA 5) (mv:=AG Ax (AC (AA 4) (AC (AA 2) AJ))) (v:=.tup [.int h,csD c]) (c:=x) (L:=W) (pd (ds:=[.int h,csD c]) rfl (Ad (by simp;omega))) rfl rfl gA (by omega) e;rw[sA] at this;exact this
   ·rw[CB gB (by rw[AAF];omega),sB];show some (D.non,Z++(MO.dC (W++[(x,D.tup [D.int h,csD c])])::MO.lst (wait.map csD++[csD x])::g))=some (D.non,Z++(MO.dC (W++[(x,D.tup [D.int h,csD c])])::MO.lst ((wait++[x]).map csD)::g));rw[AAX];rfl
theorem gL{W:List (Cs×D)}{wait:List Cs}{o:MO}:(wH Z W wait (g++[o]))[Z.length+2+g.length]?=some o:=by
 show (Z++(MO.dC W::MO.lst (wait.map csD)::(g++[o])))[Z.length+2+g.length]?=_;rw[AAR (by omega)];have:Z.length+2+g.length-Z.length=g.length+1+1:=by omega
 rw[this];simp
theorem Ph{o0:Option D}{c:Cs}{cs U:List Cs}(hU:∀x∈clo cs,x∈U)(hN:U.length<900):∀(ps pre:List (Nat×Cs)) (k:Nat) (W:List (Cs×D)) (wait:List Cs) (o4 o5:Option D),ps.length<k->Wm cs c (ps.map (·.2)) (W.map (·.1),wait)->(∀p∈ps,p.2∈nxt c)->wait.length<=W.length->(∀k,ClL k (W.map (·.2)))->
  ∃(W':List (Cs×D)) (o4' o5':Option D),W'.map (·.1)=((ps.map (·.2)).foldl vis (W.map (·.1),wait)).1/\(∀k,ClL k (W'.map (·.2))) /\
   GU (Z.length+2+g.length) (Kc [4,5]) VM k pre.length [o0,some (.ref Z.length),some (csD c),some (.ref (Z.length+1)),o4,o5] (wH Z W wait (g++[.lst ((pre++ps).map Bt)]))=some ((.next,[o0,some (.ref Z.length),some (csD c),some (.ref (Z.length+1)),o4',o5']),wH Z W' ((ps.map (·.2)).foldl vis (W.map (·.1),wait)).2 (g++[.lst ((pre++ps).map Bt)]))
 |[],pre,k+1,W,wait,o4,o5,hk,w,hp,hl,hc=>⟨W,o4,o5,rfl,hc,K11.Oz gL (by simp)⟩
 |p::ps,pre,k+1,W,wait,o4,o5,hk,w,hp,hl,hc=>by
  have hlen:W.length<=899:=by
   have:=C1 w.nd λx hx=>hU x (w.frm x hx);simp at this;omega
  obtain⟨W1,e1,c1,st⟩:=Pg (Z:=Z) (g:=g++[.lst ((pre++p::ps).map Bt)]) (o0:=o0) (c:=c) (x:=p.2) (h:=(p.1:Int)) (W:=W) (wait:=wait) (by omega) (by omega) hc;have w1:=w.vis (hp p AAP);have hl1:(vis (W.map (·.1),wait) p.2).2.length<=W1.length:=by
   have:=NF (W.map (·.1),wait) p.2;have e2:=congrArg List.length e1;simp at this e2;omega
  obtain⟨W',o4',o5',e',c',go⟩:=Ph hU hN ps (pre++[p]) k W1 (vis (W.map (·.1),wait) p.2).2 (some (.int p.1)) (some (csD p.2)) (by simp at hk;omega) (by rw[e1];exact w1) (λq hq=>hp q (AAQ _ hq)) hl1 c1;rw[e1] at e' go;refine⟨W',o4',o5',e',c',?_⟩;have ea:pre++[p]++ps=pre++p::ps:=by simp
  rw[ea] at go;refine K11.Oy (w9:=[o0,some (.ref Z.length),some (csD c),some (.ref (Z.length+1)),some (.int p.1),some (csD p.2)]) (y:=Bt p) gL (by simp) rfl st ?_;simpa using go
 |_,_,0,_,_,_,_,hk,_,_,_,_=>absurd hk (by omega)
noncomputable abbrev whB:Sl->M (Fl×Sl):=(AT (Af (Fx Ts (AA 3)) (AN 2))
  (NP 1000 (AG A8 (AC (AA 2) AJ)) (Kc [4,5]) VM))
theorem Qz(c:Cs):(El c).length<=c.2.2.length+1:=by
 unfold El QK;have:=NS c.2.2 0;rw[AAG,AAF];split<;>simp<;>omega
theorem Kt{S:Sl}{wait:List Cs}{W:List (Cs×D)}(h:S[3]?=some (some (.ref (Z.length+1)))):Hd (AA 3) S (wH Z W wait g)=some (!wait.isEmpty,wH Z W wait g):=by
 unfold Hd;rw[AM (Ar h),AM (show BP (.ref (Z.length+1)) (wH Z W wait g)=some (wait.map csD,wH Z W wait g) from by
  show (match (wH Z W wait g)[Z.length+1]? with|some (.lst ds)=>some (ds,wH Z W wait g)|_=>none)=_;rw[gB])]
 cases wait<;>rfl
theorem Kl{o0:Option D}{cs U:List Cs}(hU:∀x∈clo cs,x∈U)(hN:U.length<900)(hw:∀x∈clo cs,x.2.2.length<=100):∀(k:Nat) (W:List (Cs×D)) (wait:List Cs) (g:Mh) (o2 o4 o5:Option D),U.length+wait.length<k+W.length->Wk cs (W.map (·.1)) wait->wait.length<=W.length->(∀k,ClL k (W.map (·.2)))->(∀o∈g,∀k,ClO k o)->
  ∃(W':List (Cs×D)) (g':Mh) (o2' o4' o5':Option D),Wk cs (W'.map (·.1)) []/\(∀k,ClL k (W'.map (·.2)))/\(∀o∈g',∀k,ClO k o) /\
   Gn (Hd (AA 3)) whB k [o0,some (.ref Z.length),o2,some (.ref (Z.length+1)),o4,o5] (wH Z W wait g)=some ((.next,[o0,some (.ref Z.length),o2',some (.ref (Z.length+1)),o4',o5']),wH Z W' [] g')
 |0,W,wait,g,o2,o4,o5,hk,w,_,_,_=>by
  have:=C1 w.nd λx hx=>hU x (w.frm x hx);simp at this;omega
 |k+1,W,wait,g,o2,o4,o5,hk,w,hl,hc,hg=>by
  rcases List.eq_nil_or_concat wait with rfl|⟨q,c,rfl⟩
  ·exact⟨W,g,o2,o4,o5,w,hc,hg,K13.IB (Kt rfl)⟩
  ·rw[List.concat_eq_append] at *;have hlen:W.length<=899:=by
    have:=C1 w.nd λx hx=>hU x (w.frm x hx);simp at this;omega
   have hcc:c∈clo cs:=w.frm c (w.sub c (by simp));have hcl:=hw c hcc;have m:Wm cs c ((El c).map (·.2)) (W.map (·.1),q):=⟨w.nd,λx hx=>w.sub x (AAc _ hx),λx hx=>by
    rcases w.don x hx with z|z
    ·rcases AAJ.mp z with z|z
     ·exact .inl z
     ·exact .inr (.inl (by simpa using z))
    ·exact .inr (.inr z),λy hy=>.inl hy,w.frm,w.all,w.sub c (by simp)⟩
   have hm:=Qz c;simp at hl hk;obtain⟨W1,o4',o5',e1,c1,go⟩:=Ph (Z:=Z) (g:=g) (o0:=o0) (c:=c) hU hN (El c) [] 1000 W q o4 o5 (by omega) m (λp hp=>AAL.mpr ⟨p,hp,rfl⟩) (by omega) hc;rw[List.nil_append] at go;have hh:=w.hop;have eh:(hop (W.map (·.1),q++[c]) c)=((El c).map (·.2)).foldl vis (W.map (·.1),q):=by
    unfold hop nxt;rw[List.dropLast_concat]
   rw[eh] at hh;have hle:=Ld ((El c).map (·.2)) (W.map (·.1),q);have el:=congrArg List.length e1;simp only[AAF] at hle el;rw[←e1] at hh;have hg1:∀o∈g++[.lst ((El c).map Bt)],∀k,ClO k o:=λo ho k=>by
    rcases AAJ.mp ho with z|z
    ·exact hg o z k
    ·rw[AAK] at z;subst z;exact Ak (N2 k) _
   obtain⟨W',g',o2',o4'',o5'',r1,r2,r3,r4⟩:=Kl (o0:=o0) hU hN hw k W1 _ (g++[.lst ((El c).map Bt)]) (some (csD c)) o4' o5' (by omega) hh (by omega) c1 hg1;refine⟨W',g',o2',o4'',o5'',r1,r2,r3,K13.Rm (x5:=[o0,some (.ref Z.length),some (csD c),some (.ref (Z.length+1)),o4',o5']) (w6:=wH Z W1 (((El c).map (·.2)).foldl vis (W.map (·.1),q)).2 (g++[.lst ((El c).map Bt)])) ((Kt rfl).trans (by simp)) ?_ r4⟩;refine AV (w9:=[o0,some (.ref Z.length),some (csD c),some (.ref (Z.length+1)),o4,o5]) (w5:=wH Z W q g) (Ds (d:=csD c) (w5:=wH Z W q g) ?_ rfl) ?_
   ·unfold Fx;rw[AM (show AA 3 [o0,some (.ref Z.length),o2,some (.ref (Z.length+1)),o4,o5] (wH Z W (q++[c]) g)=some (.ref (Z.length+1),wH Z W (q++[c]) g) from rfl),AM (A9 gB)];show HD (Z.length+1) _ (wH Z W (q++[c]) g)=_;unfold HD;rw[gB];show Option.map _ (((q++[c]).map csD)[((q++[c]).map csD).length-1]?.map λd=>(d,((q++[c]).map csD).dropLast))=_;have e0:((q++[c]).map csD)[((q++[c]).map csD).length-1]?=some (csD c):=by simp
    have e2:((q++[c]).map csD).dropLast=q.map csD:=by simp
    rw[e0,e2];show some (csD c,(wH Z W (q++[c]) g).set (Z.length+1) (.lst (q.map csD)))=_;rw[sB]
   ·unfold NP;have vm:=OE (Z:=wH Z W q g) (c:=c) hcl;have el:(wH Z W q g).length=Z.length+2+g.length:=by
     show (Z++(MO.dC W::MO.lst (q.map csD)::g)).length=_;rw[AAG];simp;omega
    have ew:wH Z W q g++[.lst ((El c).map Bt)]=wH Z W q (g++[.lst ((El c).map Bt)]):=by
     show (Z++(MO.dC W::MO.lst (q.map csD)::g))++_=Z++(MO.dC W::MO.lst (q.map csD)::(g++_));simp
    rw[el,ew] at vm;rw[AM (Bu (ds:=[csD c]) (w5:=wH Z W q g) rfl vm)];exact go
end
end K16
set_option maxHeartbeats 4000000
namespace K16
open PySem L2 Mi Nk Wb
open K13 (Ak BC Ad Am po pn pc pd pq pa piT piF pr peT peF Eb B7 BN DO A9 CB Ao B4 C9 Bs BY Bp)
section
variable{Z w5 g:Mh}{B w9 x5:Sl}{d:D}{ds:List D}{n:Nat}
noncomputable def C0(cs:List Cs):List (Cs×D):=cs.map λc=>(c,D.non)
theorem LO(cs:List Cs):(C0 cs).map (·.1)=cs:=by unfold C0;rw[List.map_map];exact List.map_id cs
theorem Qv(cs:List Cs)(k:Nat):ClL k ((C0 cs).map (·.2)):=by unfold C0;rw[List.map_map];exact Ak (λa=>by show Cl k D.non;unfold Cl;trivial) cs
theorem Np{o0 o3 o4 o5:Option D}:∀(cs don:List Cs) (o2:Option D),(don++cs).Nodup->(don++cs).length<=1000->∃o2':Option D,
  DE (AN 2) (HP (AA 1) (AA 2) (mC .non)) (cs.map csD) [o0,some (.ref Z.length),o2,o3,o4,o5] (Z++[.dC (C0 don)])=some ((.next,[o0,some (.ref Z.length),o2',o3,o4,o5]),Z++[.dC (C0 (don++cs))])
 |[],don,o2,_,_=>⟨o2,by simp;rfl⟩
 |c::cs,don,o2,nd,hl=>by
  have hz:=BN;obtain⟨o2',go⟩:=Np (o0:=o0) (o3:=o3) (o4:=o4) (o5:=o5) cs (don++[c]) (some (csD c)) (by simpa using nd) (by simpa using hl);refine⟨o2',?_⟩;have hn:c∉(C0 don).map (·.1):=by
   rw[LO];intro h;have:=(List.nodup_append.mp nd).2.2 c h c (by simp);exact this rfl
  have hlen:(C0 don).length<sizeLine:=by unfold C0;rw[AAF];simp at hl;omega
  refine Ao (w9:=[o0,some (.ref Z.length),some (csD c),o3,o4,o5]) (w5:=Z++[.dC (C0 don)]) rfl ?_ (by simpa using go);have:=Nt (B:=[o0,some (.ref Z.length),some (csD c),o3,o4,o5]) (Z:=Z++[.dC (C0 don)]) (n:=Z.length) (mo:=AA 1) (mi:=AA 2) (mv:=mC .non) (v:=.non) (c:=c) (L:=C0 don) rfl rfl rfl g1a hlen hn;rw[s1a] at this;have e:C0 don++[(c,D.non)]=C0 (don++[c]):=by unfold C0;simp
  rw[e] at this;exact this
theorem Ij{cs U:List Cs}(nd:cs.Nodup)(hU:∀x∈clo cs,x∈U)(hN:U.length<900)(hw:∀x∈clo cs,x.2.2.length<=100):∃(W:List (Cs×D)) (g:Mh),Wk cs (W.map (·.1)) []/\CN [.lst (cs.map csD)] Z=some (.ref Z.length,wH Z W [] g):=by
 have hz:=BN;have hlen:cs.length<=899:=by
  have:=C1 nd λx hx=>hU x (mem_clo.mpr ⟨x,hx,Fs x⟩);omega
 obtain⟨o2,fg⟩:=Np (Z:=Z) (o0:=some (.lst (cs.map csD))) (o3:=none) (o4:=none) (o5:=none) cs [] none (by simpa using nd) (by simp;omega);have w0:Wk cs ((C0 cs).map (·.1)) cs:=by
  rw[LO];exact⟨nd,λx h=>h,λx h=>.inl h,λx h=>mem_clo.mpr ⟨x,h,Fs x⟩,λx h=>h⟩
 have hnl:(C0 cs).length=cs.length:=by unfold C0;simp
 obtain⟨W,g,o2',o4',o5',r1,r2,r3,r4⟩:=Kl (Z:=Z) (o0:=some (.lst (cs.map csD))) hU hN hw BE (C0 cs) cs [] o2 none none (by rw[hnl];unfold BE;omega) w0 (by omega) (Qv cs) (λo h=>by cases h);refine⟨W,g,r1,?_⟩;refine II (g:=.dC W::.lst []::g) (x5:=[some (.lst (cs.map csD)),some (.ref Z.length),o2',some (.ref (Z.length+1)),o4',o5']) ?_ rfl (λo ho k=>?_) (by unfold Cl;simp)
 ·refine AV (w9:=[some (.lst (cs.map csD)),some (.ref Z.length),none,none,none,none]) (w5:=Z++[.dC []]) rfl (AV (Eu (ds:=cs.map csD) (w5:=Z++[.dC []]) (B4 rfl) fg) (AV (w9:=[some (.lst (cs.map csD)),some (.ref Z.length),o2,some (.ref (Z.length+1)),none,none]) (w5:=wH Z (C0 cs) cs []) (Ds (d:=.ref (Z.length+1)) (w5:=wH Z (C0 cs) cs []) ?_ rfl) (AV r4 (Dr (Ar rfl)))));refine Bu (ds:=[.ref Z.length]) (w5:=Z++[.dC (C0 cs)]) rfl ?_;show bnd (Ie (.ref Z.length)) _ _=_;rw[AM (L3 g1a)];show some (D.ref (Z++[MO.dC (C0 cs)]).length,Z++[MO.dC (C0 cs)]++[MO.lst ((C0 cs).map λy=>csD y.1)])=_;have e:(C0 cs).map (λy=>csD y.1)=cs.map csD:=by unfold C0;rw[List.map_map];rfl
  rw[e,AAn];simp
 ·rcases AAI.mp ho with rfl|ho
  ·exact r2 k
  ·rcases AAI.mp ho with rfl|ho
   ·show ClL k [];unfold ClL;trivial
   ·exact r3 o ho k
end
end K16
set_option maxHeartbeats 4000000
namespace Wb
open PySem Nk
open K13 (Ev)
noncomputable def GY(v:Int)(c:Cs):Cs:=(c.1,v,c.2.2)
noncomputable def GA(r:Nat)(c:Cs):Cs:=(c.1,c.2.1,c.2.2.set r (-2))
noncomputable def FL(c:Cs):Option Cs:=if c.2.1=-2 then some (c.1,-1,c.2.2) else none
noncomputable def C6(r:Nat)(v:Int)(c:Cs):Option Cs:=if c.2.2[r]?=some v then some (c.1,c.2.1,c.2.2.set r (-1)) else none
noncomputable def pre(S:List Cs):Ev->List Cs
 | .wb v=>S.map (GY v)
 | .we=>S.filterMap FL
 | .rb r=>S.map (GA r)
 | .re r v=>S.filterMap (C6 r v)
noncomputable def FK(S:List Cs):Ev->Bool
 | .re r v=>(S.filterMap (C6 r v)).isEmpty
 |_=>false
noncomputable def Es:List Cs->List Ev->Bool
 |_,[]=>true
 |S,e::es=>if FK S e=true then false else Es (clo (pre S e)) es
theorem nodup_map_on{α β:Type}{f:α->β}:∀{xs:List α},(∀a∈xs,∀b∈xs,f a=f b->a=b)->xs.Nodup->(xs.map f).Nodup
 |[],_,_=>List.nodup_nil
 |x::xs,h,nd=>by
  obtain⟨n1,n2⟩:=List.nodup_cons.mp nd;rw[AAW];refine List.nodup_cons.mpr ⟨λz=>?_,nodup_map_on (λa ha b hb=>h a (AAQ _ ha) b (AAQ _ hb)) n2⟩;obtain⟨y,hy,e⟩:=AAL.mp z;have:=h y (AAQ _ hy) x AAP e;exact n1 (this ▸ hy)
theorem nodup_fm_on{α β:Type}{f:α->Option β}:∀{xs:List α},(∀a∈xs,∀b∈xs,∀y,f a=some y->f b=some y->a=b)->xs.Nodup->(xs.filterMap f).Nodup
 |[],_,_=>List.nodup_nil
 |x::xs,h,nd=>by
  obtain⟨n1,n2⟩:=List.nodup_cons.mp nd;have ih:=nodup_fm_on (λa ha b hb=>h a (AAQ _ ha) b (AAQ _ hb)) n2;rw[List.filterMap_cons];split
  ·exact ih
  ·rename_i y e;refine List.nodup_cons.mpr ⟨λz=>?_,ih⟩;obtain⟨w,hw,ew⟩:=List.mem_filterMap.mp z;have:=h w (AAQ _ hw) x AAP y ew e;exact n1 (this ▸ hw)
theorem Jz{i:Nat}{a b v:Int}:∀{xs ys:List Int},xs[i]?=some a->ys[i]?=some a->xs.set i v=ys.set i v->xs=ys
 |[],_,h,_,_=>by simp at h
 |_::_,[],_,h,_=>by simp at h
 |x::xs,y::ys,h1,h2,e=>by
  cases i with
  |zero=>
   simp at h1 h2 e;rw[h1,h2,e]
  |succ i=>
   simp at h1 h2 e;rw[e.1,Jz (b:=b) h1 h2 e.2]
theorem KH{K S:List Cs}(h:∀x,x∈K↔x∈S)(e:Ev)(x:Cs):x∈pre K e↔x∈pre S e:=by
 cases e<;>simp only[pre,AAL,List.mem_filterMap,h]
theorem Ue{cs ds:List Cs}(h:∀x,x∈cs↔x∈ds)(x:Cs):x∈clo cs↔x∈clo ds:=by
 rw[mem_clo,mem_clo];constructor
 ·rintro⟨c,h1,h2⟩;exact⟨c,(h c).mp h1,h2⟩
 ·rintro⟨c,h1,h2⟩;exact⟨c,(h c).mpr h1,h2⟩
end Wb
set_option maxHeartbeats 4000000
namespace K16
open PySem L2 Mi Nk Wb
open K13 (Ak BC Ad Am po pn pc pd pq pa piT piF pr peT peF Eb B7 BN DO A9 CB Ao B4 C9 Bs BY Bp hdD Hj F1 Ev BX JI bS Ev.beg Ev.hand Ev.val)
section
variable{Z g:Mh}{x5:Sl}{d:D}{ds es:List D}{sz bg:Int}{ns:List Str}
noncomputable def mkK(kd:Str)(sz bg:Int)(ns:List Str):D:=.tup [.str kd,.int sz,.int bg,.tup [],.tup (ns.map hdD)]
noncomputable abbrev mkW(sz bg:Int)(ns:List Str):D:=mkK "whole" sz bg ns
noncomputable def clW(K:List Cs):D:=.tup (K.map csD)
noncomputable def oC:Option Cs->D
 |some c=>csD c
 |none=>.non
theorem cl_clW(k:Nat)(K:List Cs):Cl k (clW K):=by unfold clW Cl;exact Ak (EW k) K
theorem X6{S:Sl}(h:S[0]?=some (some (mkW sz bg ns))):AK (mOp AY (mOp AL (AA 0) (mC (.int 0))) (mC (.str "whole"))) S Z=some (true,Z):=
 AR (po (x:=.str "whole") (y:=.str "whole") (po (x:=mkW sz bg ns) (y:=.int 0) (Ar h) rfl rfl) rfl (by rw[Hj (by decide +kernel) (by decide +kernel)];simp))
theorem v_begunW(h:ns.length<=1000)(h2:2<=ns.length):Ap [mkW sz bg ns] Z=some (clW [(bg,-1,List.replicate (ns.length-1) (-1))],Z):=by
 have hz:=BN;refine AU (g:=[]) (x5:=[some (mkW sz bg ns),some (.int ((ns.length:Int)-1))]) ?_ rfl (cl_clW _ _);rw[AAa];refine pq (pa (d:=.int ((ns.length:Int)-1)) (po (x:=.int ns.length) (y:=.int 1) (pd (ds:=[.tup (ns.map hdD)]) rfl ?_) rfl rfl) rfl) (CC (piT (X6 rfl) (pr (pd (ds:=[csD (bg,-1,List.replicate (ns.length-1) (-1))]) (pc (pd (ds:=[.int bg,.int (-1),.tup ((List.replicate (ns.length-1) (-1)).map D.int)]) (pc (x:=.int bg) rfl (pc (x:=.int (-1)) rfl (pc (po (x:=.tup [.int (-1)]) (y:=.int ((ns.length:Int)-1)) rfl rfl ?_) rfl))) (Ad (by simp;omega))) rfl) (Ad (by simp;omega))))))
 ·show some (D.int (((ns.map hdD).length:Nat):Int),Z)=_;rw[AAF]
 ·show (if [D.int (-1)]≠[]/\[D.int (-1)].length<=1000/\1<=((ns.length:Int)-1)/\((ns.length:Int)-1)<=1000 then some (D.tup (List.replicate ((ns.length:Int)-1).toNat [D.int (-1)]).flatten,Z) else none)=_;rw[if_pos ⟨by simp,by simp,by omega,by omega⟩,F1,List.map_replicate,show ((ns.length:Int)-1).toNat=ns.length-1 by omega]
theorem v_cbW{c:Cs}{v:Int}:BB [csD c,.int 0,.int v] Z=some (csD (GY v c),Z):=by
 have hz:=BN;refine AU (g:=[]) (x5:=[some (csD c),some (.int 0),some (.int v)]) ?_ rfl (EW _ _);rw[AAa];exact CC (piT (AR (po (x:=.int 0) (y:=.int 0) rfl rfl DO)) (pr (pd (ds:=[.int c.1,.int v,.tup (c.2.2.map D.int)]) rfl (Ad (by simp;omega)))))
theorem ND{ts:List Int}{r:Nat}{v:Int}(h:r<ts.length)(hl:ts.length<=1000):AZ [.tup (ts.map D.int),.int r,.int v] Z=some (.tup ((ts.set r v).map D.int),Z):=by
 rw[Nv,Eb (by rw[AAF];exact h) (by rw[AAF];exact hl) (λk=>Ak (BC k) _) (λk=>BC k _),List.map_set]
theorem v_cbR{c:Cs}{r:Nat}{v:Int}(h:r<c.2.2.length)(hl:c.2.2.length<=1000):BB [csD c,.int ((r:Int)+1),.int v] Z=some (csD (GA r c),Z):=by
 have hz:=BN;refine AU (g:=[]) (x5:=[some (csD c),some (.int ((r:Int)+1)),some (.int v)]) ?_ rfl (EW _ _);rw[AAa];refine pq (piF (AR ((po (x:=.int ((r:Int)+1)) (y:=.int 0) rfl rfl DO).trans (by rw[AAf.mpr (by omega)]))) rfl) (pr (pd (ds:=[.int c.1,.int c.2.1,.tup ((c.2.2.set r (-2)).map D.int)]) (pc (x:=.int c.1) rfl (pc (x:=.int c.2.1) rfl (pc (pd (ds:=[.tup (c.2.2.map D.int),.int r,.int (-2)]) (pc rfl (pc (po (x:=.int ((r:Int)+1)) (y:=.int 1) rfl rfl ?_) rfl)) (ND h hl)) rfl))) (Ad (by simp;omega))));show some (D.int ((r:Int)+1-1),Z)=_;rw[show (r:Int)+1-1=r by omega]
theorem v_ceW{c:Cs}{v:Int}:A6 [csD c,.int 0,.int v] Z=some (oC (FL c),Z):=by
 have hz:=BN;refine AU (g:=[]) (x5:=[some (csD c),some (.int 0),some (.int v)]) ?_ rfl (by cases FL c with|none=>unfold oC Cl;trivial|some c=>exact EW _ _);rw[AAa];have t:AK (mOp AY (mOp AL (AA 0) (mC (.int 1))) (mC F7)) [some (csD c),some (.int 0),some (.int v)] Z=some (c.2.1==-2,Z):=AR (po (x:=.int c.2.1) (y:=.int (-2)) rfl rfl DO);refine CC (piT (AR (po (x:=.int 0) (y:=.int 0) rfl rfl DO)) (pr ?_));unfold FL;by_cases e:c.2.1=-2
 ·rw[if_pos e];exact peT (t.trans (by rw[e];rfl)) (pd (ds:=[.int c.1,.int (-1),.tup (c.2.2.map D.int)]) rfl (Ad (by simp;omega)))
 ·rw[if_neg e];exact peF (t.trans (by rw[AAf.mpr e])) rfl
theorem v_ceR{c:Cs}{r:Nat}{v:Int}(h:r<c.2.2.length)(hl:c.2.2.length<=1000):A6 [csD c,.int ((r:Int)+1),.int v] Z=some (oC (C6 r v c),Z):=by
 have hz:=BN;refine AU (g:=[]) (x5:=[some (csD c),some (.int ((r:Int)+1)),some (.int v)]) ?_ rfl (by cases C6 r v c with|none=>unfold oC Cl;trivial|some c=>exact EW _ _);rw[AAa];have er:mOp Dk (AA 1) (mC (.int 1)) [some (csD c),some (.int ((r:Int)+1)),some (.int v)] Z=some (.int r,Z):=by
  refine po (x:=.int ((r:Int)+1)) (y:=.int 1) rfl rfl ?_;show some (D.int ((r:Int)+1-1),Z)=_;rw[show (r:Int)+1-1=r by omega]
 have t:AK (mOp AY (mOp AL (mOp AL (AA 0) (mC (.int 2))) (mOp Dk (AA 1) (mC (.int 1)))) (AA 2)) [some (csD c),some (.int ((r:Int)+1)),some (.int v)] Z=some (c.2.2[r]==v,Z):=
  AR (po (x:=.int c.2.2[r]) (y:=.int v) (po (x:=.tup (c.2.2.map D.int)) (y:=.int r) rfl er (LU (B7 (by simp[h])))) rfl DO)
 refine pq (piF (AR ((po (x:=.int ((r:Int)+1)) (y:=.int 0) rfl rfl DO).trans (by rw[AAf.mpr (by omega)]))) rfl) (pr ?_);unfold C6;by_cases e:c.2.2[r]?=some v
 ·rw[if_pos e];have e':c.2.2[r]=v:=by rw[AAu h] at e;exact Option.some.inj e
  refine peT (t.trans (by rw[e'];simp)) (pd (ds:=[.int c.1,.int c.2.1,.tup ((c.2.2.set r (-1)).map D.int)]) (pc (x:=.int c.1) rfl (pc (x:=.int c.2.1) rfl (pc (pd (ds:=[.tup (c.2.2.map D.int),.int r,.int (-1)]) (pc rfl (pc er rfl)) (ND h hl)) rfl))) (Ad (by simp;omega)))
 ·rw[if_neg e];have e':¬c.2.2[r]=v:=λz=>e (by rw[AAu h,z]);exact peF (t.trans (by rw[AAf.mpr e'])) rfl
theorem U5{f:Cs->Option Cs}:∀K:List Cs,((K.map λc=>f c).filter λo=>o.isSome).map oC=(K.filterMap f).map csD
 |[]=>rfl
 |c::K=>by
  have ih:=U5 (f:=f) K;rw[AAW,List.filterMap_cons];cases e:f c with
  |none=>rw[List.filter_cons_of_neg (by simp)];exact ih
  |some y=>rw[List.filter_cons_of_pos (by simp),AAW,ih];rfl
theorem v_csEnd{K:List Cs}{h:Int}{v:Int}{f:Cs->Option Cs}(hl:K.length<=1000)(he:∀c∈K,∀Z:Mh,A6 [csD c,.int h,.int v] Z=some (oC (f c),Z)):BD [clW K,.int h,.int v] Z=some (.lst ((K.filterMap f).map csD),Z):=by
 have hz:=BN;refine AU (g:=[]) (x5:=[some (clW K),some (.int h),some (.int v),some (.lst ((K.map λc=>f c).map oC))]) ?_ rfl (by unfold Cl;exact Ak (EW _) _);rw[AAa];refine pq (pa (d:=.lst ((K.map λc=>f c).map oC)) (BY (ds:=K.map csD) (es:=(K.map λc=>f c).map oC) (C9 rfl) (by rw[AAF];omega) ?_ (Am (by rw[AAF,AAF];omega))) rfl) (pr (BY (ds:=(K.map λc=>f c).map oC) (es:=(K.filterMap f).map csD) (B4 rfl) (by rw[AAF,AAF];omega) ?_ (Am (by rw[AAF];have:=List.length_filterMap_le f K;omega))))
 ·have:=Bs (Z:=Z) (mc:=Cg) (me:=AG A6 (AC (AA 0) (AC (AA 1) (AC (AA 2) AJ)))) (u5:=[none,some (.int h),some (.int v)]) (f:=csD) (F:=λc=>oC (f c)) (p:=λ_=>true) (xs:=K) (ys:=[]) (λ_ _=>rfl) (λc hc _=>pd (ds:=[csD c,.int h,.int v]) rfl (he c hc Z));rw[Bp,List.nil_append] at this;rw[List.map_map];exact this
 ·have:=Bs (Z:=Z) (mc:=AK (mOp (IX true) (AA 0) (mC .non))) (me:=AA 0) (u5:=[none]) (f:=oC) (F:=oC) (p:=λo=>o.isSome) (xs:=K.map λc=>f c) (ys:=[]) (λo _=>AR (po (x:=oC o) (y:=.non) rfl rfl (by cases o<;>rfl))) (λo _ _=>rfl);rw[List.nil_append,U5] at this;exact this
end
end K16
namespace Wb
open Nk Hs
end Wb
namespace Mi
open PySem L2
def WP{α:Type}(m:M α)(Z:Mh)(Q:α->Mh->Prop):Prop:=∃a Z',m Z=some (a,Z')/\Q a Z'
section
variable{α β:Type}{m:M α}{f:α->M β}{Z Z':Mh}{Q Q':α->Mh->Prop}{R:β->Mh->Prop}{a:α}
theorem Di(h:m Z=some (a,Z'))(q:Q a Z'):WP m Z Q:=⟨a,Z',h,q⟩
theorem Az(h:WP m Z Q)(k:∀a Z',Q a Z'->Q' a Z'):WP m Z Q':=by
 obtain⟨a,Z',e,q⟩:=h;exact⟨a,Z',e,k a Z' q⟩
theorem BM(h:WP m Z λa w5=>WP (f a) w5 R):WP (bnd m f) Z R:=by
 obtain⟨a,w5,e,b,w6,e2,q⟩:=h;exact⟨b,w6,by rw[AM e];exact e2,q⟩
theorem CT(q:Q a Z):WP (ret a) Z Q:=⟨a,Z,rfl,q⟩
end
section
variable{B w9:Sl}{Z w5:Mh}{d x y:D}{ds:List D}{ma mb:Sl->M D}{ra:Sl->M (List D)}{tc:Sl->M Bool}{m1 m2:Sl->M (Fl×Sl)}{g:D->D->M D}{QD:D->Mh->Prop}{QB:Bool->Mh->Prop}{QL:List D->Mh->Prop}{QS:Fl×Sl->Mh->Prop}{i j:Int}
theorem Sf{i:Nat}(h:B[i]?=some (some d))(q:QD d Z):WP (AA i B) Z QD:=Di (Ar h) q
theorem YO(q:QD d Z):WP (mC d B) Z QD:=⟨d,Z,rfl,q⟩
theorem W0(h:WP (ma B) Z λx w5=>WP (mb B) w5 λy w6=>WP (g x y) w6 QD):WP (mOp g ma mb B) Z QD:=BM (Az h λ_ _ z=>BM z)
theorem Sn{f:List D->M D}(h:WP (ra B) Z λds w5=>WP (f ds) w5 QD):WP (AG f ra B) Z QD:=BM h
theorem Si(q:QL [] Z):WP (AJ B) Z QL:=⟨[],Z,rfl,q⟩
theorem Pb(h:WP (ma B) Z λx w5=>WP (ra B) w5 λds w6=>QL (x::ds) w6):WP (AC ma ra B) Z QL:=BM (Az h λ_ _ z=>BM (Az z λ_ _ z=>CT z))
theorem Pa{mc:Sl->M Bool}(h:WP (mc B) Z λb w5=>(b=true->WP (ma B) w5 QD)/\(b=false->WP (mb B) w5 QD)):WP (mIf mc ma mb B) Z QD:=BM (Az h λb _ z=>by cases b;exact z.2 rfl;exact z.1 rfl)
theorem Se(h:WP (ma B) Z λd w5=>∃b,d=.bl b/\QB b w5):WP (AK ma B) Z QB:=BM (Az h λ_ _ ⟨b,e,q⟩=>by subst e;exact CT q)
noncomputable def Pv(m2:Sl->M (Fl×Sl))(QS:Fl×Sl->Mh->Prop):Fl×Sl->Mh->Prop
 |(.next,w9),w5=>WP (m2 w9) w5 QS
 |r,w5=>QS r w5
theorem Pe(h:WP (m2 w9) w5 QS):Pv m2 QS (.next,w9) w5:=h
theorem VL(h:QS (.rt d,w9) w5):Pv m2 QS (.rt d,w9) w5:=h
theorem VE(h:WP (m1 B) Z (Pv m2 QS)):WP (AT m1 m2 B) Z QS:=BM (Az h λr _ z=>by
 obtain⟨fl,w9⟩:=r;cases fl
 ·exact z
 ·exact CT z
 ·exact CT z
 ·exact CT z
 ·exact CT z)
theorem Sr{i:Nat}(h:WP (ma B) Z λd w5=>QS (.next,B.set i (some d)) w5):WP (Af ma (AN i) B) Z QS:=BM (Az h λ_ _ q=>BM (CT (CT q)))
theorem VF(h:WP (ma B) Z λd w5=>QS (.rt d,B) w5):WP (Av ma B) Z QS:=BM (Az h λ_ _ q=>CT q)
theorem VG(q:QS (.next,B) Z):WP (Ay B) Z QS:=⟨_,Z,rfl,q⟩
noncomputable def ifK(m1 m2:Sl->M (Fl×Sl))(B:Sl)(QS:Fl×Sl->Mh->Prop):Bool->Mh->Prop
 |true,Z=>WP (m1 B) Z QS
 |false,Z=>WP (m2 B) Z QS
theorem Sv(h:WP (m1 B) Z QS):ifK m1 m2 B QS true Z:=h
theorem Sx(h:WP (m2 B) Z QS):ifK m1 m2 B QS false Z:=h
theorem W2(h:WP (tc B) Z (ifK m1 m2 B QS)):WP (sIf tc m1 m2 B) Z QS:=BM (Az h λb _ z=>by cases b;exact z;exact z)
theorem VI{src:Sl->M (List D)}{bf:D->Sl->M Sl}(h:WP (src B) Z λds w5=>WP (DE bf m1 ds B) w5 QS):WP (Fp src bf m1 B) Z QS:=BM h
noncomputable def Uw(I:Sl->Mh->Prop)(QS:Fl×Sl->Mh->Prop):Fl×Sl->Mh->Prop
 |(.next,B),Z=>I B Z
 |(.cont,B),Z=>I B Z
 |(.brk,B),Z=>QS (.next,B) Z
 |(.rt d,B),Z=>QS (.rt d,B) Z
 |(.xc x,B),Z=>QS (.xc x,B) Z
theorem Pf{I:Sl->Mh->Prop}(h:I B Z):Uw I QS (.next,B) Z:=h
theorem MD{bf:D->Sl->M Sl}(I:List D->Sl->Mh->Prop)(step:∀x xs B Z,I (x::xs) B Z->WP (bf x B) Z λw9 w5=>WP (m1 w9) w5 (Uw (I xs) QS))(fin:∀B Z,I [] B Z->QS (.next,B) Z):∀{ds:List D} {B:Sl} {Z:Mh},I ds B Z->WP (DE bf m1 ds B) Z QS
 |[],B,Z,h=>CT (fin B Z h)
 |x::xs,B,Z,h=>BM (Az (step x xs B Z h) λw9 w5 z=>BM (Az z λr w6 z=>by
   obtain⟨fl,x5⟩:=r;cases fl
   ·exact MD I step fin z
   ·exact CT z
   ·exact MD I step fin z
   ·exact CT z
   ·exact CT z))
theorem Pc{QT:Sl->Mh->Prop}{i:Nat}(q:QT (B.set i (some d)) Z):WP (AN i d B) Z QT:=⟨_,Z,rfl,q⟩
theorem So{N:Nat}{ix:List Nat}{src:Sl->M (List D)}{bf:D->Sl->M Sl}{fin:List D->M D}(h:WP (src B) Z λds w5=>ds.length<=sizeLine/\WP (ER bf tc ma (CW N ix B) ds []) w5 λes w6=>WP (fin es) w6 QD):WP (Bf N ix src bf tc ma fin B) Z QD:=BM (Az h λds w5 z=>BM (Di (RB z.1 w5) (BM z.2)))
theorem Jn{bf:D->Sl->M Sl}{u5:Sl}(I:List D->List D->Mh->Prop)(step:∀x xs ys Z,I (x::xs) ys Z->WP (bf x u5) Z λw9 w5=>WP (tc w9) w5 λc w6=>(c=true->WP (ma w9) w6 λy x8=>I xs (ys++[y]) x8)/\(c=false->I xs ys w6))(fin:∀ys Z,I [] ys Z->QL ys Z):∀{ds ys:List D} {Z:Mh},I ds ys Z->WP (ER bf tc ma u5 ds ys) Z QL
 |[],ys,Z,h=>CT (fin ys Z h)
 |x::xs,ys,Z,h=>BM (Az (step x xs ys Z h) λw9 w5 z=>BM (Az z λc w6 z=>by
   cases c
   ·exact Jn I step fin (z.2 rfl)
   ·exact BM (Az (z.1 rfl) λy x8 z=>Jn I step fin z)))
theorem Sc(q:QB true Z):WP (Cg B) Z QB:=⟨true,Z,rfl,q⟩
theorem Ss(q:QD (.int (i+j)) Z):WP (Ab (.int i) (.int j)) Z QD:=⟨_,Z,rfl,q⟩
theorem VC(q:QD (.int (i-j)) Z):WP (Dk (.int i) (.int j)) Z QD:=⟨_,Z,rfl,q⟩
theorem MC(q:QD (.bl (i==j)) Z):WP (AY (.int i) (.int j)) Z QD:=⟨_,Z,rfl,q⟩
theorem Jm(h:ds.length<=sizeLine)(q:QD (.lst ds) Z):WP (BT ds) Z QD:=by
 refine Di (a:=.lst ds) (Z':=Z) ?_ q;unfold BT;rw[AM (RB h _)];rfl
theorem VH(h2:atI ds i=some d)(q:QD d Z):WP (AL (.tup ds) (.int i)) Z QD:=Di (LU h2) q
theorem VD(h:WP (ma B) Z λd w5=>WP (N8 d) w5 QL):WP (Db ma B) Z QL:=BM h
theorem Sg(q:QL ds Z):WP (N8 (.tup ds)) Z QL:=⟨_,Z,rfl,q⟩
theorem Sh(q:QL ds Z):WP (N8 (.lst ds)) Z QL:=⟨_,Z,rfl,q⟩
theorem DQ{N ps:Nat}{mb:Sl->M (Fl×Sl)}{ds:List D}{QD:D->Mh->Prop}(hl:ds.length=ps)(h:WP (mb (CV N ds)) Z λr w6=>∃d x5 gs,r=(.rt d,x5)/\w6=Z++gs/\Cl Z.length d/\QD d Z):WP (Au .drop N ps mb ds) Z QD:=by
 obtain⟨r,w6,e,d,x5,gs,rfl,rfl,c,q⟩:=h;exact Di (AU e hl c) q
end
mutual
def Pz:D->Prop
 | .non=>True
 | .int _=>True
 | .str x=>PyData.strOk x=true
 | .tup ds=>PzL ds
 | .lst ds=>PzL ds
 |_=>False
def PzL:List D->Prop
 |[]=>True
 |d::ds=>Pz d/\PzL ds
end
mutual
def dpt:D->Nat
 | .tup ds=>O4 ds+1
 | .lst ds=>O4 ds+1
 |_=>0
def O4:List D->Nat
 |[]=>0
 |d::ds=>max (dpt d) (O4 ds)
end
mutual
def toZ:D->PyData
 | .int i=>.int i
 | .str x=>.str x
 | .tup ds=>.tuple (Dg ds)
 | .lst ds=>.list (Dg ds)
 |_=>.none
def Dg:List D->List PyData
 |[]=>[]
 |d::ds=>toZ d::Dg ds
end
mutual
theorem MK(Z:Mh):∀{d:D},Pz d->toP Z d=some (toZ d)
 | .non,_=>rfl
 | .int _,_=>rfl
 | .str _,_=>rfl
 | .tup ds,h=>by unfold Pz at h;unfold toP toZ;rw[Jq Z h];rfl
 | .lst ds,h=>by unfold Pz at h;unfold toP toZ;rw[Jq Z h];rfl
 | .bl _,h | .ty _,h | .scr _,h | .ref _,h=>by unfold Pz at h;exact h.elim
theorem Jq(Z:Mh):∀{ds:List D},PzL ds->FV Z ds=some (Dg ds)
 |[],_=>by unfold FV Dg;rfl
 |d::ds,h=>by
  unfold PzL at h;unfold FV Dg;rw[MK Z h.1,Jq Z h.2];rfl
end
mutual
theorem Jp:∀{d:D},Pz d->PyData.canLay0 (toZ d)=true/\PyData.depth (toZ d)=dpt d
 | .non,_=>⟨rfl,rfl⟩
 | .int _,_=>⟨rfl,rfl⟩
 | .str _,h=>by unfold Pz at h;exact⟨h,rfl⟩
 | .tup ds,h=>by
  unfold Pz at h;obtain⟨h1,h2⟩:=HF h;unfold toZ dpt;exact⟨h1,by show PyData.depthAll (Dg ds)+1=_;rw[h2]⟩
 | .lst ds,h=>by
  unfold Pz at h;obtain⟨h1,h2⟩:=HF h;unfold toZ dpt;exact⟨h1,by show PyData.depthAll (Dg ds)+1=_;rw[h2]⟩
 | .bl _,h | .ty _,h | .scr _,h | .ref _,h=>by unfold Pz at h;exact h.elim
theorem HF:∀{ds:List D},PzL ds->PyData.canLayAll0 (Dg ds)=true/\PyData.depthAll (Dg ds)=O4 ds
 |[],_=>by unfold Dg O4;exact⟨rfl,rfl⟩
 |d::ds,h=>by
  unfold PzL at h;obtain⟨h1,h2⟩:=Jp h.1;obtain⟨h3,h4⟩:=HF h.2;unfold Dg O4;refine⟨?_,?_⟩
  ·show (PyData.canLay0 (toZ d)&&PyData.canLayAll0 (Dg ds))=true;rw[h1,h3];rfl
  ·show max (PyData.depth (toZ d)) (PyData.depthAll (Dg ds))=_;rw[h2,h4]
end
mutual
theorem eqZ:∀{a b:D},Pz a->Pz b->(PyData.eqv (toZ a) (toZ b)=true↔a=b)
 | .non,b,_,hb=>by
  cases b<;>first|exact⟨λ_=>rfl,λ_=>rfl⟩|(unfold Pz at hb;exact hb.elim)|(unfold toZ;exact⟨λz=>(by cases z),λz=>(by cases z)⟩)
 | .int i,b,_,hb=>by
  cases b with
  |int j=>exact⟨λz=>by have:(i==j)=true:=z;rw[beq_iff_eq.mp this],λz=>by cases z;show (i==i)=true;simp⟩
  |_=>first|(unfold Pz at hb;exact hb.elim)|(unfold toZ;exact⟨λz=>(by cases z),λz=>(by cases z)⟩)
 | .str i,b,_,hb=>by
  cases b with
  |str j=>exact⟨λz=>by have:(i==j)=true:=z;rw[beq_iff_eq.mp this],λz=>by cases z;show (i==i)=true;simp⟩
  |_=>first|(unfold Pz at hb;exact hb.elim)|(unfold toZ;exact⟨λz=>(by cases z),λz=>(by cases z)⟩)
 | .tup xs,b,ha,hb=>by
  cases b with
  |tup ys=>
   unfold Pz at ha hb;unfold toZ;have:=Wi ha hb;exact⟨λz=>by rw[this.mp z],λz=>by cases z;exact this.mpr rfl⟩
  |_=>first|(unfold Pz at hb;exact hb.elim)|(unfold toZ;exact⟨λz=>(by cases z),λz=>(by cases z)⟩)
 | .lst xs,b,ha,hb=>by
  cases b with
  |lst ys=>
   unfold Pz at ha hb;unfold toZ;have:=Wi ha hb;exact⟨λz=>by rw[this.mp z],λz=>by cases z;exact this.mpr rfl⟩
  |_=>first|(unfold Pz at hb;exact hb.elim)|(unfold toZ;exact⟨λz=>(by cases z),λz=>(by cases z)⟩)
 | .bl _,_,h,_ | .ty _,_,h,_ | .scr _,_,h,_ | .ref _,_,h,_=>by unfold Pz at h;exact h.elim
theorem Wi:∀{as bs:List D},PzL as->PzL bs->(PyData.eqvAll (Dg as) (Dg bs)=true↔as=bs)
 |[],[],_,_=>by unfold Dg;exact⟨λ_=>rfl,λ_=>rfl⟩
 |[],_::_,_,_=>by unfold Dg;exact⟨λz=>(by cases z),λz=>(by cases z)⟩
 |_::_,[],_,_=>by unfold Dg;exact⟨λz=>(by cases z),λz=>(by cases z)⟩
 |a::as,b::bs,ha,hb=>by
  unfold PzL at ha hb;unfold Dg;have h1:=eqZ ha.1 hb.1;have h2:=Wi ha.2 hb.2;show (PyData.eqv (toZ a) (toZ b)&&PyData.eqvAll (Dg as) (Dg bs))=true↔_;rw[Bool.and_eq_true,h1,h2];exact⟨λ⟨x,y⟩=>by rw[x,y],λz=>by cases z;exact⟨rfl,rfl⟩⟩
end
section
variable{Z:Mh}{a b:D}{QD:D->Mh->Prop}
theorem Wj{neg:Bool}(ha:Pz a)(hb:Pz b)(da:dpt a<=64)(db:dpt b<=64):∃e:Bool,(e=true↔a=b)/\JA neg a b Z=some (.bl (if neg then !e else e),Z):=by
 refine⟨PyData.eqv (toZ a) (toZ b),eqZ ha hb,?_⟩;obtain⟨a1,a2⟩:=Jp ha;obtain⟨b1,b2⟩:=Jp hb;have s1:SeqAt.shaped (toZ a)=true:=by
  show (PyData.canLay0 (toZ a)&&decide (PyData.depth (toZ a)<=64))=true;rw[a1,AAO (by omega)];rfl
 have s2:SeqAt.shaped (toZ b)=true:=by
  show (PyData.canLay0 (toZ b)&&decide (PyData.depth (toZ b)<=64))=true;rw[b1,AAO (by omega)];rfl
 have e1:ML Z a=some (toZ a):=by
  cases a with
  |ref n=>unfold Pz at ha;exact ha.elim
  |_=>exact MK Z ha
 have e2:ML Z b=some (toZ b):=by
  cases b with
  |ref n=>unfold Pz at hb;exact hb.elim
  |_=>exact MK Z hb
 unfold JA;rw[e1,e2];exact if_pos ⟨s1,s2⟩
theorem VJ(ha:Pz a)(hb:Pz b)(da:dpt a<=64)(db:dpt b<=64)(q:∀e:Bool,(e=true↔a=b)->QD (.bl e) Z):WP (AY a b) Z QD:=by
 obtain⟨e,h1,h2⟩:=Wj (Z:=Z) (neg:=false) ha hb da db;exact Di h2 (q e h1)
end
end Mi
namespace Mi
section
variable{b:Bool}
theorem Pd{P:Bool->Prop}(h:P b):∃b',D.bl b=D.bl b'/\P b':=⟨b,rfl,h⟩
end
end Mi
local macro_rules | `(tactic| wtm_at "h")=>`(tactic| first|assumption|decide|omega|exact Nat.le_of_ble_eq_true rfl)
local macro_rules | `(tactic| wtm_at "j")=>`(tactic| first
 |(with_reducible apply Mi.VE)|(with_reducible apply Mi.Pe)|(with_reducible apply Mi.Sr)|(with_reducible apply Mi.VF)|(with_reducible apply Mi.VL)|(with_reducible apply Mi.wq_expr)|(with_reducible apply Mi.VG)|(with_reducible apply Mi.W2)|(with_reducible apply Mi.Sv)|(with_reducible apply Mi.Sx)|(with_reducible apply Mi.W0)|(with_reducible apply Mi.YO)|((with_reducible apply Mi.Sf);rfl)|(with_reducible apply Mi.Pb)|(with_reducible apply Mi.Si)|(with_reducible apply Mi.Sn)|(with_reducible apply Mi.wq_un)
 |(with_reducible apply Mi.Se)|(with_reducible apply Mi.Pd)|(with_reducible apply Mi.wq_not)|(with_reducible apply Mi.wq_and)|(with_reducible apply Mi.wq_or)|(with_reducible apply Mi.VI)|(with_reducible apply Mi.So)|(with_reducible apply Mi.VD)|(with_reducible apply Mi.Sg)|(with_reducible apply Mi.Sh)|(with_reducible apply Mi.wq_rng1)|(with_reducible apply Mi.wq_sl2)|(with_reducible apply Mi.wq_noPart)|(with_reducible apply Mi.wq_part)|(with_reducible apply Mi.wkk_int)
 |(with_reducible apply Mi.Ss)|(with_reducible apply Mi.wq_add)|(with_reducible apply Mi.VC)|(with_reducible apply Mi.wq_lt)|(with_reducible apply Mi.wq_gt)|(with_reducible apply Mi.wq_ge)|(with_reducible apply Mi.MC)|(with_reducible apply Mi.wq_neI)|(with_reducible apply Mi.wq_isF)|(with_reducible apply Mi.wq_isT)|(with_reducible apply Mi.wq_intB)|(with_reducible apply Mi.wq_neB)|(with_reducible apply Mi.wq_tupT)|(with_reducible apply Mi.wq_tupL)|(with_reducible apply Mi.wq_lenT)|(with_reducible apply Mi.Sc)|(with_reducible apply Mi.Pc)
 |((with_reducible apply Mi.wq_mod);(wtm_at "h"))|((with_reducible apply Mi.wq_fdiv);(wtm_at "h");(wtm_at "h"))|((with_reducible apply Mi.wq_newT);(wtm_at "h"))|((with_reducible apply Mi.Jm);(wtm_at "h"))|((with_reducible apply Mi.wq_newB);(wtm_at "h"))|((with_reducible apply Mi.VH);rfl)|((with_reducible apply Mi.wq_ixL);rfl))
local macro_rules | `(tactic| wtm_at "c")=>`(tactic| repeat wtm_at "j")
namespace Mi
open PySem L2
section
variable{w9:Sl}{Z w5:Mh}{x y:D}{ma:Sl->M D}{tc:Sl->M Bool}{QD:D->Mh->Prop}{QL:List D->Mh->Prop}
theorem Kk{α:Type}(f:α->D)(p:α->Bool)(F:α->D){bf:D->Sl->M Sl}{u5:Sl}{xs:List α}(h:∀a∈xs,WP (bf (f a) u5) Z λw9 w5=>w5=Z/\WP (tc w9) Z λc w6=>c=p a/\w6=Z/\(p a=true->WP (ma w9) Z λy x8=>y=F a/\x8=Z))(q:QL ((xs.filter p).map F) Z):WP (ER bf tc ma u5 (xs.map f) []) Z QL:=by
 refine Jn (I:=λrest ys Z'=>∃a b,a++b=xs/\rest=b.map f/\ys=(a.filter p).map F/\Z'=Z) (λz zs ys Z' hI=>?_) (λys Z' hI=>?_) ⟨[],xs,rfl,rfl,rfl,rfl⟩
 ·obtain⟨a,b,hab,hr,rfl,rfl⟩:=hI;cases b with
  |nil=>cases hr
  |cons w b=>
   rw[AAW] at hr;obtain⟨e1,e2⟩:=List.cons.inj hr;subst e1;have hw:w∈xs:=by rw[←hab];simp
   refine Az (h w hw) λw9 w5 ⟨e,z⟩=>?_;subst e;refine Az z λc w6 ⟨e3,e4,z2⟩=>?_;subst e3 e4;refine⟨λhc=>Az (z2 hc) λy x8 ⟨e5,e6⟩=>?_,λhc=>?_⟩
   ·subst e5 e6;exact⟨a++[w],b,by rw[←hab];simp,e2,by rw[List.filter_append,AAX,List.filter_cons_of_pos hc];rfl,rfl⟩
   ·exact⟨a++[w],b,by rw[←hab];simp,e2,by rw[List.filter_append,AAX,List.filter_cons_of_neg (by rw[hc];exact AAh)];simp,rfl⟩
 ·obtain⟨a,b,hab,hr,rfl,rfl⟩:=hI;cases b with
  |cons w b=>cases hr
  |nil=>
   rw[AAa] at hab;subst hab;exact q
theorem MB{x y:Str}(h1:PyData.strOk x=true)(h2:PyData.strOk y=true)(q:QD (.bl (x==y)) Z):WP (AY (.str x) (.str y)) Z QD:=by
 refine VJ (by unfold Pz;exact h1) (by unfold Pz;exact h2) (by show 0<=64;omega) (by show 0<=64;omega) λe he=>?_;have:e=(x==y):=by
  rw[Bool.eq_iff_iff,he,beq_iff_eq];exact⟨λz=>by cases z;rfl,λz=>by rw[z]⟩
 rw[this];exact q
end
end Mi
namespace K12
open PySem L2 Mi Ht Nk Hs Wb
end K12
namespace Mi
open PySem L2
end Mi
namespace K12
open PySem L2 Mi Ht Nk Hs Wb
section
structure Cl1(cs K:List Cs):Prop where
 nd:K.Nodup
 mem:∀x,x∈K↔x∈clo cs
 up:K.Pairwise λx y=>cLt x y=true
end
end K12
namespace Wb
open Nk Hs
noncomputable def tlU(ws:List Int):List Bool->List (List Int)
 |[]=>[[]]
 |b::is=>(if b then [(-1:Int)] else -2::ws).flatMap λv=>(tlU ws is).map (v::·)
theorem mem_tlU{ws:List Int}{b:Bool}{is:List Bool}{t:List Int}:t∈tlU ws (b::is)↔∃v r,t=v::r/\(if b then v=-1 else v=-2∨v∈ws)/\r∈tlU ws is:=by
 show t∈((if b then [(-1:Int)] else -2::ws).flatMap λv=>(tlU ws is).map (v::·))↔_;rw[List.mem_flatMap];constructor
 ·rintro⟨v,hv,h⟩;obtain⟨r,hr,rfl⟩:=AAL.mp h;refine⟨v,r,rfl,?_,hr⟩;cases b<;>simpa using hv
 ·rintro⟨v,r,rfl,hv,hr⟩;refine⟨v,?_,AAL.mpr ⟨r,hr,rfl⟩⟩;cases b<;>simpa using hv
theorem Js{ws:List Int}:∀{is:List Bool} {t:List Int},t∈tlU ws is->t.length=is.length
 |[],t,h=>by
  have:t=[]:=by simpa[tlU] using h
  subst this;rfl
 |b::is,t,h=>by
  obtain⟨v,r,rfl,_,hr⟩:=mem_tlU.mp h;simp[Js hr]
theorem MM{ws:List Int}:∀{is:List Bool} {t:List Int} {r:Nat} {b:Bool},t∈tlU ws is->is[r]?=some b->∃v,t[r]?=some v/\(if b then v=-1 else v=-2∨v∈ws)
 |[],_,_,_,_,e=>by simp at e
 |b0::is,t,r,b,h,e=>by
  obtain⟨v,t',rfl,hv,ht⟩:=mem_tlU.mp h;cases r with
  |zero=>simp at e;subst e;exact⟨v,rfl,hv⟩
  |succ r=>simpa using MM (r:=r) ht (by simpa using e)
theorem Jr{ws:List Int}:∀{is:List Bool} {t:List Int} {r:Nat} {b:Bool} {v:Int},t∈tlU ws is->(if b then v=-1 else v=-2∨v∈ws)->t.set r v∈tlU ws (is.set r b)
 |[],t,r,b,v,h,_=>by
  have:t=[]:=by simpa[tlU] using h
  subst this;exact h
 |b0::is,t,r,b,v,h,hv=>by
  obtain⟨u,t',rfl,hu,ht⟩:=mem_tlU.mp h;cases r with
  |zero=>exact mem_tlU.mpr ⟨v,t',rfl,hv,ht⟩
  |succ r=>exact mem_tlU.mpr ⟨u,t'.set r v,rfl,hu,Jr ht hv⟩
theorem NJ(ws:List Int):∀is:List Bool,(tlU ws is).length<=(1+ws.length) ^ is.length
 |[]=>by simp[tlU]
 |b::is=>by
  have h:(tlU ws (b::is)).length=(if b then [(-1:Int)] else -2::ws).length * (tlU ws is).length:=by
   show ((if b then [(-1:Int)] else -2::ws).flatMap λv=>(tlU ws is).map (v::·)).length=_;generalize (if b then [(-1:Int)] else -2::ws)=l
   induction l with
   |nil=>simp
   |cons x l ih=>rw[List.flatMap_cons,AAG,ih,AAF,AAH,Nat.add_mul,Nat.one_mul,Nat.add_comm]
  rw[h,AAH,Nat.pow_succ,Nat.mul_comm];refine Nat.mul_le_mul (NJ ws is) ?_;cases b<;>simp<;>omega
noncomputable def Uc(ws:List Int)(is:List Bool)(a:Int):Option Int->List Cs
 |none=>(tlU ws is).map λt=>(a,-1,t)
 |some b=>(tlU ws is).map (λt=>(a,b,t))++(tlU ws is).map λt=>(b,-2,t)
theorem mem_Uc{ws:List Int}{is:List Bool}{a:Int}{m:Option Int}{c:Cs}:c∈Uc ws is a m↔c.2.2∈tlU ws is/\(match m with|none=>c.1=a/\c.2.1=-1|some b=>(c.1=a/\c.2.1=b)∨(c.1=b/\c.2.1=-2)):=by
 cases m with
 |none=>
  show c∈(tlU ws is).map (λt=>(a,-1,t))↔_;rw[AAL];constructor
  ·rintro⟨t,ht,rfl⟩;exact⟨ht,rfl,rfl⟩
  ·rintro⟨ht,h1,h2⟩;exact⟨c.2.2,ht,by rw[←h1,←h2]⟩
 |some b=>
  show c∈(tlU ws is).map (λt=>(a,b,t))++(tlU ws is).map (λt=>(b,-2,t))↔_;rw[AAJ,AAL,AAL];constructor
  ·rintro(⟨t,ht,rfl⟩|⟨t,ht,rfl⟩)
   ·exact⟨ht,.inl ⟨rfl,rfl⟩⟩
   ·exact⟨ht,.inr ⟨rfl,rfl⟩⟩
  ·rintro⟨ht,⟨h1,h2⟩|⟨h1,h2⟩⟩
   ·exact .inl ⟨c.2.2,ht,by rw[←h1,←h2]⟩
   ·exact .inr ⟨c.2.2,ht,by rw[←h1,←h2]⟩
theorem Wx(ws:List Int)(is:List Bool)(a:Int)(m:Option Int):(Uc ws is a m).length<=2 * (1+ws.length) ^ is.length:=by
 have:=NJ ws is;cases m with
 |none=>unfold Uc;rw[AAF];omega
 |some b=>unfold Uc;rw[AAG,AAF,AAF];omega
end Wb
namespace K12
open PySem L2 Mi Ht Nk Hs Wb
end K12
namespace K41
open PySem L2 Mi
end K41
namespace K41
open PySem L2 Mi Ht Nk Hs
end K41
namespace Mi
open PySem L2
end Mi
namespace K41
open PySem L2 Mi Ht Nk Hs
end K41
namespace K12
open PySem L2 Mi Ht Nk Hs Wb
section
variable{v:Int}{r:Nat}
theorem CS{c y:Cs}(h:FL c=some y):c.2.1=-2/\y=(c.1,-1,c.2.2):=by
 unfold FL at h;split at h
 ·exact⟨by assumption,(Option.some.inj h).symm⟩
 ·cases h
theorem Br{c y:Cs}(h:C6 r v c=some y):c.2.2[r]?=some v/\y=(c.1,c.2.1,c.2.2.set r (-1)):=by
 unfold C6 at h;split at h
 ·exact⟨by assumption,(Option.some.inj h).symm⟩
 ·cases h
end
theorem LL:PyData.strOk ("whole" : Str)=true:=by decide +kernel
theorem Kj{Z:Mh}{QD:D->Mh->Prop}(q:QD (.bl true) Z):WP (AY (.str "whole") (.str "whole")) Z QD:=MB LL LL (by rw[beq_self_eq_true];exact q)
noncomputable abbrev mwD(sz bg:Int)(hs:List D):D:=.tup [.str "whole",.int sz,.int bg,.tup [],.tup hs]
noncomputable abbrev clD(cs:List Cs):D:=.tup (cs.map csD)
theorem FS(k:Nat)(cs:List Cs):Cl k (clD cs):=K16.cl_clW k cs
section
variable{v:Int}{cs:List Cs}{r:Nat}
noncomputable def IU(cs:List Cs)(r:Nat)(v:Int):List Cs:=cs.filterMap (C6 r v)
end
end K12
set_option maxHeartbeats 4000000
namespace K16
open PySem L2 Mi Nk Wb Ht K13
end K16
set_option maxHeartbeats 4000000
namespace K16
open PySem L2 Mi Nk Wb Ht K13
section
variable{Z w5 w6 x8:Mh}{B w9:Sl}{d:D}{ds es:List D}{n:Nat}
variable{sz bg:Int}{ns:List Str}{kd:Str}
theorem Kg(N:Ns ns){ev:List D}:∀(es:List Ev) (k:Nat) (L:List (Key×D)) (G:Nat->Bool) (as:List D) (b:Int) (o6 o7 o8:Option D),(∀e∈es,e.Ok ns sz)->wfG G es->DG L G->L.length+es.length<=1000->as.length+es.length<=1000->
  ∃(gs:List Int) (L':List (Key×D)) (b':Int) (o6' o7' o8':Option D),gs.length=es.length /\
   DE (Kc [6,7]) Y4 (DP k (es.map (evD ns))) [some (mkK kd sz bg ns),some (.lst ev),some (.lst (ns.map D.str)),some (.ref Z.length),some (.ref (Z.length+1)),some (.int b),o6,o7,o8] (Z++[.dK L,.lst as]) =
    some ((.next,[some (mkK kd sz bg ns),some (.lst ev),some (.lst (ns.map D.str)),some (.ref Z.length),some (.ref (Z.length+1)),some (.int b'),o6',o7',o8']),Z++[.dK L',.lst (as++(es.zip gs).map λp=>BX p.1 p.2)])
 |[],k,L,G,as,b,o6,o7,o8,_,_,_,_,_=>⟨[],L,b,o6,o7,o8,rfl,by simp[DP];rfl⟩
 |e::es,k,L,G,as,b,o6,o7,o8,ok,wf,dg,hL,hA=>by
  have hz:=BN;have eo:=ok e (by simp);obtain⟨w1,w2⟩:=wf;rw[AAH] at hL hA;have t1:∀(S:Sl) (M:Mh),S[7]?=some (some (evD ns e))->S[2]?=some (some (.lst (ns.map D.str)))->S[0]?=some (some (mkK kd sz bg ns))->sIf (Dh (AK (AG BJ (AC (AA 7) (AC (AA 2) (AC (mOp AL (AA 0) (mC (.int 1))) AJ)))))) DW Ay S M=some ((.next,S),M):=λS M h7 h2 h0=>
   piF (Fb (b:=true) (AR (pd (ds:=[evD ns e,.lst (ns.map D.str),.int sz]) (pc (Ar h7) (pc (Ar h2) (pc (po (x:=mkK kd sz bg ns) (y:=.int 1) (Ar h0) rfl rfl) rfl))) (S9 N eo)))) rfl
  have t2:∀(S:Sl) (M:Mh),S[7]?=some (some (evD ns e))->S[2]?=some (some (.lst (ns.map D.str)))->Af (Ai Hu (AA 2) (AC (mOp AL (AA 7) (mC (.int 1))) AJ)) (AN 8) S M=some ((.next,S.set 8 (some (.int e.hand))),M):=λS M h7 h2=>
   pa (Cm (x:=.lst (ns.map D.str)) (w5:=M) (w6:=M) (x8:=M) (ds:=[.str (nm ns e.hand)]) (Ar h2) rfl (pc (po (x:=evD ns e) (y:=.int 1) (Ar h7) rfl (by cases e<;>rfl)) rfl) (X1 N eo.h)) rfl
  have tb:∀(S:Sl) (M:Mh),S[7]?=some (some (evD ns e))->mOp AY (mOp AL (AA 7) (mC (.int 0))) (mC (.str "begin")) S M=some (.bl e.beg,M):=λS M h7=>po (x:=.str (bS e.beg)) (y:=.str "begin") (po (x:=evD ns e) (y:=.int 0) (Ar h7) rfl (by cases e<;>rfl)) rfl JI;have te:∀(S:Sl) (M:Mh),S[7]?=some (some (evD ns e))->AK (mOp AY (mOp AL (AA 7) (mC (.int 0))) (mC (.str "end"))) S M=some (!e.beg,M):=λS M h7=>AR (po (x:=.str (bS e.beg)) (y:=.str "end") (po (x:=evD ns e) (y:=.int 0) (Ar h7) rfl (by cases e<;>rfl)) rfl U1);have t3:∀(S:Sl) (M:Mh) (L:List (Key×D)),S[7]?=some (some (evD ns e))->S[8]?=some (some (.int e.hand))->S[3]?=some (some (.ref Z.length))->M[Z.length]?=some (.dK L)->DG L G->sIf (AK (mOp AY (mOp AY (mOp AL (AA 7) (mC (.int 0))) (mC (.str "begin"))) (mOp (Lk false) (AA 8) (AA 3)))) DW Ay S M=some ((.next,S),M):=λS M L h7 h8 h3 hM dg=>by
   have hv:(DC L (.inl (e.hand:Int))).isSome=!e.beg:=by
    rcases dg e.hand with ⟨z1,z2⟩|⟨g,z1,z2⟩
    ·rw[z1,←w1,z2];rfl
    ·rw[z1,←w1,z2];rfl
   refine piF (AR (po (x:=.bl e.beg) (y:=.bl (!e.beg)) (tb S M h7) (po (x:=.int e.hand) (y:=.ref Z.length) (Ar h8) (Ar h3) (by rw[WM hM,hv])) ?_)) rfl;rw[U0];cases e.beg<;>rfl
  cases hb:e.beg with
  |true=>
   have dg1:=dg.put e.hand b;rw[hb] at w2;obtain⟨gs,L',b',o6',o7',o8',hl,go⟩:=Kg N (ev:=ev) es (k+1) (Dw L (.inl (e.hand:Int)) (.int b)) (λh=>if h=e.hand then true else G h) (as++[BX e b]) (b+1) (some (.int k)) (some (evD ns e)) (some (.int e.hand)) (λx hx=>ok x (by simp[hx])) w2 dg1 (by have:=Tk L (.inl (e.hand:Int)) (.int b);omega) (by simp;omega);refine⟨b::gs,L',b',o6',o7',o8',by simp[hl],?_⟩;have ez:as++List.map (λp:Ev×Int=>BX p.1 p.2) ((e,b)::es.zip gs)=as++[BX e b]++(es.zip gs).map (λp=>BX p.1 p.2):=by simp
   rw[List.zip_cons_cons,ez];refine Ao (x:=.tup [.int k,evD ns e]) (w9:=[some (mkK kd sz bg ns),some (.lst ev),some (.lst (ns.map D.str)),some (.ref Z.length),some (.ref (Z.length+1)),some (.int b),some (.int k),some (evD ns e),o8]) (w5:=Z++[.dK L,.lst as]) rfl ?_ go;refine AV (t1 _ _ rfl rfl rfl) (AV (t2 _ _ rfl rfl) (AV (t3 _ _ L rfl rfl rfl g2a dg) (AV (w9:=[some (mkK kd sz bg ns),some (.lst ev),some (.lst (ns.map D.str)),some (.ref Z.length),some (.ref (Z.length+1)),some (.int (b+1)),some (.int k),some (evD ns e),some (.int e.hand)]) (w5:=Z++[.dK (Dw L (.inl (e.hand:Int)) (.int b)),.lst as]) (De (w5:=Z++[.dK L,.lst as]) (AR ((tb _ _ rfl).trans (by rw[hb]))) (AV (w9:=[some (mkK kd sz bg ns),some (.lst ev),some (.lst (ns.map D.str)),some (.ref Z.length),some (.ref (Z.length+1)),some (.int b),some (.int k),some (evD ns e),some (.int e.hand)]) (w5:=Z++[.dK (Dw L (.inl (e.hand:Int)) (.int b)),.lst as]) ?_ (pa (po (x:=.int b) (y:=.int 1) rfl rfl rfl) rfl))) (AV (w5:=Z++[.dK (Dw L (.inl (e.hand:Int)) (.int b)),.lst (as++[BX e b])]) (Cn (d:=.non) (Cm (x:=.ref (Z.length+1)) (ds:=[BX e b]) (w5:=Z++[.dK (Dw L (.inl (e.hand:Int)) (.int b)),.lst as]) (w6:=Z++[.dK (Dw L (.inl (e.hand:Int)) (.int b)),.lst as]) (x8:=Z++[.dK (Dw L (.inl (e.hand:Int)) (.int b)),.lst as]) rfl (A9 g2b) (pc (SR eo rfl rfl rfl (Nh g2a (by rw[NG,if_pos rfl]))) rfl) ?_)) (CK (w5:=Z++[.dK (Dw L (.inl (e.hand:Int)) (.int b)),.lst (as++[BX e b])]) ((te _ _ rfl).trans (by rw[hb];rfl)) rfl)))))
   ·have:=Ro (B:=[some (mkK kd sz bg ns),some (.lst ev),some (.lst (ns.map D.str)),some (.ref Z.length),some (.ref (Z.length+1)),some (.int b),some (.int k),some (evD ns e),some (.int e.hand)]) (Z:=Z++[.dK L,.lst as]) (n:=Z.length) (mo:=AA 3) (mi:=AA 8) (mv:=AA 5) (v:=.int b) (k:=(e.hand:Int)) rfl rfl rfl g2a (by omega);rw[s2a] at this;exact this
   ·rw[CB g2b (by omega),s2b]
  |false=>
   have dg1:=dg.drop e.hand;rw[hb] at w1 w2;obtain⟨g,hg⟩:∃g:Int,DC L (.inl (e.hand:Int))=some (.int g):=by
    rcases dg e.hand with ⟨z1,z2⟩|⟨g,z1,z2⟩
    ·rw[w1] at z2;cases z2
    ·exact⟨g,z1⟩
   obtain⟨gs,L',b',o6',o7',o8',hl,go⟩:=Kg N (ev:=ev) es (k+1) (D8 L (.inl (e.hand:Int))) (λh=>if h=e.hand then false else G h) (as++[BX e g]) b (some (.int k)) (some (evD ns e)) (some (.int e.hand)) (λx hx=>ok x (by simp[hx])) w2 dg1 (by have:=Rv L (.inl (e.hand:Int));omega) (by simp;omega);refine⟨g::gs,L',b',o6',o7',o8',by simp[hl],?_⟩;have ez:as++List.map (λp:Ev×Int=>BX p.1 p.2) ((e,g)::es.zip gs)=as++[BX e g]++(es.zip gs).map (λp=>BX p.1 p.2):=by simp
   rw[List.zip_cons_cons,ez];refine Ao (x:=.tup [.int k,evD ns e]) (w9:=[some (mkK kd sz bg ns),some (.lst ev),some (.lst (ns.map D.str)),some (.ref Z.length),some (.ref (Z.length+1)),some (.int b),some (.int k),some (evD ns e),o8]) (w5:=Z++[.dK L,.lst as]) rfl ?_ go;refine AV (t1 _ _ rfl rfl rfl) (AV (t2 _ _ rfl rfl) (AV (t3 _ _ L rfl rfl rfl g2a dg) (AV (w9:=[some (mkK kd sz bg ns),some (.lst ev),some (.lst (ns.map D.str)),some (.ref Z.length),some (.ref (Z.length+1)),some (.int b),some (.int k),some (evD ns e),some (.int e.hand)]) (w5:=Z++[.dK L,.lst as]) (CK (w5:=Z++[.dK L,.lst as]) (AR ((tb _ _ rfl).trans (by rw[hb]))) rfl) (AV (w5:=Z++[.dK L,.lst (as++[BX e g])]) (Cn (d:=.non) (Cm (x:=.ref (Z.length+1)) (ds:=[BX e g]) (w5:=Z++[.dK L,.lst as]) (w6:=Z++[.dK L,.lst as]) (x8:=Z++[.dK L,.lst as]) rfl (A9 g2b) (pc (SR eo rfl rfl rfl (Nh g2a hg)) rfl) ?_)) (De (w5:=Z++[.dK L,.lst (as++[BX e g])]) ((te _ _ rfl).trans (by rw[hb];rfl)) (Cn (d:=.int g) ?_))))))
   ·rw[CB g2b (by omega),s2b]
   ·have:=Ua (B:=[some (mkK kd sz bg ns),some (.lst ev),some (.lst (ns.map D.str)),some (.ref Z.length),some (.ref (Z.length+1)),some (.int b),some (.int k),some (evD ns e),some (.int e.hand)]) (Z:=Z++[.dK L,.lst (as++[BX e g])]) (n:=Z.length) (mo:=AA 3) (mi:=AA 8) (k:=(e.hand:Int)) rfl rfl g2a hg;rw[s2a] at this;exact this
theorem EI{S:Sl}(h:S[0]?=some (some (mkK kd sz bg ns)))(hl:ns.length<=1000):Bf 1 [] (Db (mOp AL (AA 0) (mC (.int 4)))) (AN 0) Cg (mOp AL (AA 0) (mC (.int 0))) BT S Z=some (.lst (ns.map D.str),Z):=by
 have hz:=BN;refine BY (ds:=ns.map hdD) (es:=ns.map D.str) (C9 (po (x:=mkK kd sz bg ns) (y:=.int 4) (Ar h) rfl rfl)) (by rw[AAF];omega) ?_ (Am (by rw[AAF];omega));have:=Bs (Z:=Z) (mc:=Cg) (me:=mOp AL (AA 0) (mC (.int 0))) (u5:=[none]) (f:=hdD) (F:=D.str) (p:=λ_=>true) (xs:=ns) (ys:=[]) (λ_ _=>rfl) (λt _ _=>po (x:=hdD t) (y:=.int 0) rfl rfl rfl);rw[Bp,List.nil_append] at this;exact this
theorem v_acts(N:Ns ns){es:List Ev}(ok:∀e∈es,e.Ok ns sz)(wf:wfG (λ_=>false) es)(hl:es.length<=100):∃gs:List Int,gs.length=es.length/\BF [mkK kd sz bg ns,.lst (es.map (evD ns))] Z=some (.lst ((es.zip gs).map λp=>BX p.1 p.2),Z):=by
 have hz:=BN;have hhi:=N.hi;obtain⟨gs,L',b',o6,o7,o8,hgs,go⟩:=Kg (Z:=Z) (kd:=kd) (sz:=sz) (bg:=bg) N (ev:=es.map (evD ns)) es 0 [] (λ_=>false) [] 0 none none none ok wf (λh=>.inl ⟨rfl,rfl⟩) (by simp;omega) (by simp;omega);refine⟨gs,hgs,?_⟩;rw[eq_acts];refine Jd (k:=Z.length+1) (x5:=[some (mkK kd sz bg ns),some (.lst (es.map (evD ns))),some (.lst (ns.map D.str)),some (.ref Z.length),some (.ref (Z.length+1)),some (.int b'),o6,o7,o8]) (g:=[.dK L',.lst ((es.zip gs).map λp=>BX p.1 p.2)]) ?_ rfl (by omega) g2b (Ak (λp=>Wo p) _);rw[List.nil_append] at go;refine AV (piF (Fb (b:=true) (AR (pd (ds:=[.lst (es.map (evD ns)),.ty "list"]) rfl ?_))) rfl) (AV (w9:=[some (mkK kd sz bg ns),some (.lst (es.map (evD ns))),some (.lst (ns.map D.str)),none,none,none,none,none,none]) (pa (EI rfl (by omega)) rfl) (AV (w9:=[some (mkK kd sz bg ns),some (.lst (es.map (evD ns))),some (.lst (ns.map D.str)),some (.ref Z.length),none,none,none,none,none]) (w5:=Z++[.dK []]) rfl (AV (w9:=[some (mkK kd sz bg ns),some (.lst (es.map (evD ns))),some (.lst (ns.map D.str)),some (.ref Z.length),some (.ref (Z.length+1)),none,none,none,none]) (w5:=Z++[.dK [],.lst []]) ?_ (AV (w9:=[some (mkK kd sz bg ns),some (.lst (es.map (evD ns))),some (.lst (ns.map D.str)),some (.ref Z.length),some (.ref (Z.length+1)),some (.int 0),none,none,none]) (w5:=Z++[.dK [],.lst []]) rfl (AV (Eu (ds:=DP 0 (es.map (evD ns))) (w5:=Z++[.dK [],.lst []]) rfl go) (Dr (w5:=Z++[.dK L',.lst ((es.zip gs).map λp=>BX p.1 p.2)]) rfl))))))
 ·show (EV "list" "list").map (λb=>(D.bl b,Z))=_;rw[show EV "list" "list" = some true from by decide];rfl
 ·refine Ds (d:=.ref (Z.length+1)) (w5:=Z++[.dK [],.lst []]) (Bu (ds:=[]) (w5:=Z++[.dK []]) rfl ?_) rfl;show FZ [] (Z++[.dK []])=_;unfold FZ;rw[AM (show lim ([]:List D).length (Z++[.dK []])=some ((),Z++[.dK []]) from by unfold lim;rw[if_pos (by simp)])];simp
end
end K16
set_option maxHeartbeats 4000000
namespace K16
open PySem L2 Mi Nk Wb Ht K13
end K16
set_option maxHeartbeats 4000000
namespace K16
open PySem L2 Mi Nk Wb Ht K13
section
variable{bg:Int}
noncomputable def S0(bg:Int)(m:Nat):List Cs:=[(bg,-1,List.replicate m (-1))]
end
end K16
namespace K15
open PySem L2 Mi Ht Nk Hs Wb
open K13 (Ak BC BN)
open K16 (EW CN Ij wH L3 gA BH BA BU Bj An DD)
open K12 (Cl1 clD IU mwD Kj FS CS Br)
structure Shp(ws:List Int)(is:List Bool)(a:Int)(m:Option Int):Prop where
 pos:∀w∈ws,0<=w
 ha:a∈ws
 hm:∀b,m=some b->b∈ws
 len:is.length<=3
 few:2 * (1+ws.length) ^ is.length<900
section
variable{ws:List Int}{is:List Bool}{a:Int}{m:Option Int}
theorem SS(S:Shp ws is a m){c:Cs}(h:c∈Uc ws is a m):c.1∈ws:=by
 obtain⟨_,h⟩:=mem_Uc.mp h;cases m with
 |none=>rw[h.1];exact S.ha
 |some b=>
  rcases h with ⟨h,_⟩|⟨h,_⟩
  ·rw[h];exact S.ha
  ·rw[h];exact S.hm b rfl
theorem Ww(S:Shp ws is a m){c x:Cs}(h:c∈Uc ws is a m)(hx:x∈nxt c):x∈Uc ws is a m:=by
 have hw:=SS S h;obtain⟨ht,hc⟩:=mem_Uc.mp h;rcases mem_nxt.mp hx with ⟨h0,rfl⟩|⟨i,hi,rfl⟩
 ·refine mem_Uc.mpr ⟨ht,?_⟩;cases m with
  |none=>exact absurd (by rw[hc.2] at h0;exact h0) (show ¬(0:Int)<=-1 by decide)
  |some b=>
   rcases hc with ⟨_,h2⟩|⟨_,h2⟩
   ·exact .inr ⟨h2,rfl⟩
   ·exact absurd (by rw[h2] at h0;exact h0) (show ¬(0:Int)<=-2 by decide)
 ·refine mem_Uc.mpr ⟨?_,hc⟩;show c.2.2.set i c.1∈tlU ws is;have hlt:i<c.2.2.length:=(AAT.mp hi).1;have hlt2:i<is.length:=by rw[←Js ht];exact hlt
  have hb:is[i]?=some is[i]:=by simp[hlt2]
  obtain⟨v,hv,hv2⟩:=MM ht hb;rw[hi] at hv;cases hv;have hf:is[i]=false:=by
   cases e:is[i] with
   |false=>rfl
   |true=>rw[e] at hv2;have h2:(-2:Int)=-1:=hv2;omega
  have:=Jr (r:=i) (b:=is[i]) (v:=c.1) ht (by rw[hf];exact .inr hw);have e:is.set i is[i]=is:=by simp
  rw[e] at this;exact this
theorem Wv(S:Shp ws is a m){c x:Cs}(r:Rch c x)(h:c∈Uc ws is a m):x∈Uc ws is a m:=by
 induction r with
 |refl=>exact h
 |step _ s ih=>exact Ww S ih s
theorem SU(S:Shp ws is a m){cs:List Cs}(h:∀c∈cs,c∈Uc ws is a m){x:Cs}(hx:x∈clo cs):x∈Uc ws is a m:=by
 obtain⟨c,hc,hr⟩:=mem_clo.mp hx;exact Wv S (rch_iff.mp hr) (h c hc)
end
structure Fit(cs U:List Cs):Prop where
 nd:cs.Nodup
 sub:∀x∈clo cs,x∈U
 few:U.length<900
 len:∀x∈U,x.2.2.length<=3
theorem Wg{ws:List Int}{is:List Bool}{a:Int}{m:Option Int}(S:Shp ws is a m){cs:List Cs}(nd:cs.Nodup)(h:∀c∈cs,c∈Uc ws is a m):Fit cs (Uc ws is a m) where
 nd:=nd
 sub:=λx hx=>SU S h hx
 few:=AAs (Wx ws is a m) S.few
 len:=λx hx=>by rw[Js (mem_Uc.mp hx).1];exact S.len
theorem Fit.many{cs U:List Cs}(F:Fit cs U):cs.length<=900:=by
 have:=C1 F.nd λx hx=>F.sub x (mem_clo.mpr ⟨x,hx,Fs x⟩);have:=F.few;omega
structure St(ws:List Int)(is:List Bool)(a:Int)(m:Option Int)(cs:List Cs):Prop where
 S:Shp ws is a m
 nd:cs.Nodup
 sub:∀c∈cs,c∈Uc ws is a m
section
variable{ws:List Int}{is:List Bool}{a b v:Int}{m:Option Int}{cs:List Cs}{r:Nat}
theorem St.fit(h:St ws is a m cs):Fit cs (Uc ws is a m):=Wg h.S h.nd h.sub
theorem St.many(h:St ws is a m cs):cs.length<=900:=h.fit.many
theorem St.tl(h:St ws is a m cs){c:Cs}(hc:c∈cs):c.2.2∈tlU ws is:=(mem_Uc.mp (h.sub c hc)).1
theorem St.len(h:St ws is a m cs){c:Cs}(hc:c∈cs):c.2.2.length=is.length:=Js (h.tl hc)
theorem St.clo(h:St ws is a m cs){K:List Cs}(k:Cl1 cs K):St ws is a m K:=⟨h.S,k.nd,λc hc=>SU h.S h.sub ((k.mem c).mp hc)⟩
theorem St.wb(h:St ws is a none cs)(hv:v∈ws):St ws is a (some v) (cs.map (GY v)):=by
 refine⟨⟨h.S.pos,h.S.ha,λb e=>by cases e;exact hv,h.S.len,h.S.few⟩,Wb.nodup_map_on (λx hx y hy z=>?_) h.nd,λc hc=>?_⟩
 ·have e1:=(mem_Uc.mp (h.sub x hx)).2.2;have e2:=(mem_Uc.mp (h.sub y hy)).2.2;obtain⟨a1,a2,a3⟩:=x;obtain⟨b1,b2,b3⟩:=y;simp only[GY,Prod.mk.injEq] at z e1 e2 ⊢;exact⟨z.1,e1.trans e2.symm,z.2.2⟩
 ·obtain⟨x,hx,rfl⟩:=AAL.mp hc;obtain⟨h1,h2,_⟩:=mem_Uc.mp (h.sub x hx);exact mem_Uc.mpr ⟨h1,.inl ⟨h2,rfl⟩⟩
theorem St.we(h:St ws is a (some b) cs):St ws is b none (cs.filterMap FL):=by
 refine⟨⟨h.S.pos,h.S.hm b rfl,(λ_ e=>nomatch e),h.S.len,h.S.few⟩,Wb.nodup_fm_on (λx hx y hy z e1 e2=>?_) h.nd,λc hc=>?_⟩
 ·obtain⟨q1,r1⟩:=CS e1;obtain⟨q2,r2⟩:=CS e2;have z:=r1.symm.trans r2;obtain⟨a1,a2,a3⟩:=x;obtain⟨b1,b2,b3⟩:=y;simp only[Prod.mk.injEq] at z q1 q2 ⊢;exact⟨z.1,q1.trans q2.symm,z.2.2⟩
 ·obtain⟨x,hx,e⟩:=List.mem_filterMap.mp hc;obtain⟨q1,rfl⟩:=CS e;obtain⟨h1,h2⟩:=mem_Uc.mp (h.sub x hx);refine mem_Uc.mpr ⟨h1,?_,rfl⟩;have hb:=h.S.pos b (h.S.hm b rfl);rcases h2 with ⟨_,z⟩|⟨z,_⟩
  ·omega
  ·exact z
theorem St.get(h:St ws is a m cs){c:Cs}(hc:c∈cs){o:Bool}(ho:is[r]?=some o):∃v,c.2.2[r]?=some v/\(if o then v=-1 else v=-2∨v∈ws):=MM (h.tl hc) ho
theorem St.rb(h:St ws is a m cs)(ho:is[r]?=some true):St ws (is.set r false) a m (cs.map (GA r)):=by
 refine⟨⟨h.S.pos,h.S.ha,h.S.hm,by rw[AAx];exact h.S.len,by rw[AAx];exact h.S.few⟩,Wb.nodup_map_on (λx hx y hy z=>?_) h.nd,λc hc=>?_⟩
 ·obtain⟨v1,e1,f1⟩:=h.get hx ho;obtain⟨v2,e2,f2⟩:=h.get hy ho;have f1:v1=-1:=f1;have f2:v2=-1:=f2;subst f1 f2;obtain⟨a1,a2,a3⟩:=x;obtain⟨b1,b2,b3⟩:=y;simp only[GA,Prod.mk.injEq] at z e1 e2 ⊢;exact⟨z.1,z.2.1,Jz (b:=0) e1 e2 z.2.2⟩
 ·obtain⟨x,hx,rfl⟩:=AAL.mp hc;obtain⟨h1,h2⟩:=mem_Uc.mp (h.sub x hx);exact mem_Uc.mpr ⟨Jr h1 (.inl rfl),h2⟩
theorem St.re(h:St ws is a m cs):St ws (is.set r true) a m (cs.filterMap (C6 r v)):=by
 refine⟨⟨h.S.pos,h.S.ha,h.S.hm,by rw[AAx];exact h.S.len,by rw[AAx];exact h.S.few⟩,Wb.nodup_fm_on (λx hx y hy z e1 e2=>?_) h.nd,λc hc=>?_⟩
 ·obtain⟨q1,r1⟩:=Br e1;obtain⟨q2,r2⟩:=Br e2;have z:=r1.symm.trans r2;obtain⟨a1,a2,a3⟩:=x;obtain⟨b1,b2,b3⟩:=y;simp only[Prod.mk.injEq] at z q1 q2 ⊢;exact⟨z.1,z.2.1,Jz (b:=0) q1 q2 z.2.2⟩
 ·obtain⟨x,hx,e⟩:=List.mem_filterMap.mp hc;obtain⟨q1,rfl⟩:=Br e;obtain⟨h1,h2⟩:=mem_Uc.mp (h.sub x hx);exact mem_Uc.mpr ⟨Jr (b:=true) h1 rfl,h2⟩
end
section
variable{Z:Mh}
theorem OG{cs U:List Cs}(nd:cs.Nodup)(hU:∀x∈clo cs,x∈U)(hN:U.length<900)(hw:∀x∈clo cs,x.2.2.length<=100):∃K:List Cs,K.Nodup/\(∀x,x∈K↔x∈clo cs)/\K.Pairwise (λx y=>cLt x y=true)/\∀Z:Mh,DH [.lst (cs.map csD)] Z=some (.tup (K.map csD),Z):=by
 have key:∀Z:Mh,∃K:List Cs,K.Nodup/\(∀x,x∈K↔x∈clo cs)/\K.Pairwise (λx y=>cLt x y=true)/\DH [.lst (cs.map csD)] Z=some (.tup (K.map csD),Z):=λZ=>by
  have hz:=BN;obtain⟨W,g,w,e⟩:=Ij (Z:=Z) nd hU (by omega) hw;have hl:W.length<1000:=by
   have:=C1 w.nd λx hx=>hU x (w.frm x hx);simp at this;omega
  refine⟨Go (W.map (·.1)),(DT _).nodup_iff.mpr w.nd,λx=>by rw[(DT _).mem_iff];exact w.done,Ju w.nd,?_⟩;refine AU (g:=.dC W::.lst []::g) (x5:=[some (.lst (cs.map csD))]) ?_ rfl (by unfold Cl;exact Ak (EW _) _);refine Dr (Bu (ds:=[.lst ((Go (W.map (·.1))).map csD)]) (w5:=wH Z W [] g) (Ew (x:=.lst ((Go (W.map (·.1))).map csD)) (w5:=wH Z W [] g) (Bu (ds:=[.ref Z.length]) (w5:=wH Z W [] g) (Ew (x:=.ref Z.length) (w5:=wH Z W [] g) (Bu (ds:=[.lst (cs.map csD)]) (w5:=Z) rfl e) rfl) ?_) rfl) rfl);show bnd (Ie (.ref Z.length)) _ _=_;rw[AM (L3 gA)];show (if W.length<1000 then some (D.lst ((Go (W.map (·.1))).map csD),wH Z W [] g) else none)=_;rw[if_pos hl]
 obtain⟨K,k1,k2,k3,_⟩:=key [];refine⟨K,k1,k2,k3,λZ=>?_⟩;obtain⟨K',k1',k2',k3',e⟩:=key Z;have:K'=K:=Pp k3' k3 ((List.perm_ext_iff_of_nodup k1' k1).mpr λx=>(k2' x).trans (k2 x).symm);rw[this] at e;exact e
end
theorem EC{Z:Mh}{QD:D->Mh->Prop}{cs U:List Cs}(F:Fit cs U)(q:∀K,Cl1 cs K->QD (.tup (K.map csD)) Z):WP (DH [.lst (cs.map csD)]) Z QD:=by
 obtain⟨K,k1,k2,k3,k4⟩:=OG F.nd F.sub F.few (λx hx=>by have:=F.len x (F.sub x hx);omega);exact Di (k4 Z) (q K ⟨k1,k2,k3⟩)
section
variable{Z:Mh}{QD:D->Mh->Prop}{sz bg v:Int}{hs:List D}{cs U:List Cs}{r:Nat}
theorem OB(F:Fit (cs.map (GY v)) U)(q:∀K,Cl1 (cs.map (GY v)) K->QD (clD K) Z):WP (Bc [mwD sz bg hs,clD cs,.int v]) Z QD:=by
 have hl:=F.many;rw[AAF] at hl;unfold Bc;refine DQ rfl ?_;unfold BH;wtm_at "c";refine Kj ?_;wtm_at "c";refine⟨by rw[AAF,sizeLine_eq];omega,?_⟩;refine Kk _ (λ_=>true) (λc=>csD (GY v c)) (λc hc=>?_) ?_
 ·wtm_at "c";refine⟨rfl,?_⟩;wtm_at "c";refine⟨rfl,rfl,λ_=>?_⟩;wtm_at "c";exact Di K16.v_cbW ⟨rfl,rfl⟩
 ·rw[List.filter_eq_self.mpr λ_ _=>rfl];refine Jm (by rw[AAF,sizeLine_eq];omega) ?_;wtm_at "c";rw[show (cs.map λc=>csD (GY v c))=(cs.map (GY v)).map csD by rw[List.map_map];rfl];refine EC F λK k=>?_;exact⟨_,_,[],rfl,by simp,FS _ _,q K k⟩
theorem MA(hl:cs.length<=900)(F:Fit (cs.filterMap FL) U)(q:∀K,Cl1 (cs.filterMap FL) K->QD (clD K) Z):WP (BQ [mwD sz bg hs,clD cs]) Z QD:=by
 unfold BQ;refine DQ rfl ?_;unfold BA;wtm_at "c";refine Kj ?_;wtm_at "c";refine Di (K16.v_csEnd (K:=cs) (h:=0) (v:=-1) (f:=FL) (by omega) λc _ Z=>K16.v_ceW) ?_;wtm_at "c";refine EC F λK k=>?_;exact⟨_,_,[],rfl,by simp,FS _ _,q K k⟩
theorem PZ(hr:∀c∈cs,r<c.2.2.length)(h3:∀c∈cs,c.2.2.length<=3)(F:Fit (cs.map (GA r)) U)(q:∀K,Cl1 (cs.map (GA r)) K->QD (clD K) Z):WP (Bq [mwD sz bg hs,clD cs,.int r]) Z QD:=by
 have hl:=F.many;rw[AAF] at hl;unfold Bq;refine DQ rfl ?_;unfold BU;wtm_at "c";refine Kj ?_;wtm_at "c";refine⟨by rw[AAF,sizeLine_eq];omega,?_⟩;refine Kk _ (λ_=>true) (λc=>csD (GA r c)) (λc hc=>?_) ?_
 ·wtm_at "c";refine⟨rfl,?_⟩;wtm_at "c";refine⟨rfl,rfl,λ_=>?_⟩;wtm_at "c";exact Di (K16.v_cbR (hr c hc) (by have:=h3 c hc;omega)) ⟨rfl,rfl⟩
 ·rw[List.filter_eq_self.mpr λ_ _=>rfl];refine Jm (by rw[AAF,sizeLine_eq];omega) ?_;wtm_at "c";rw[show (cs.map λc=>csD (GA r c))=(cs.map (GA r)).map csD by rw[List.map_map];rfl];refine EC F λK k=>?_;exact⟨_,_,[],rfl,by simp,FS _ _,q K k⟩
theorem Sd(hl:cs.length<=900)(hr:∀c∈cs,r<c.2.2.length)(h3:∀c∈cs,c.2.2.length<=3)(F:Fit (IU cs r v) U)(q0:IU cs r v=[]->QD .non Z)(q:IU cs r v≠[]->∀K,Cl1 (IU cs r v) K->QD (clD K) Z):WP (Bn [mwD sz bg hs,clD cs,.int r,.int v]) Z QD:=by
 unfold Bn;refine DQ rfl ?_;unfold Bj;wtm_at "c";refine Kj ?_;wtm_at "c";refine Di (K16.v_csEnd (K:=cs) (h:=(r:Int)+1) (v:=v) (f:=C6 r v) (by omega) λc hc Z=>K16.v_ceR (hr c hc) (by have:=h3 c hc;omega)) ?_;wtm_at "c";(with_reducible apply Pa);refine Di (a:=!(IU cs r v).isEmpty) (Z':=Z) ?_ ⟨λh=>?_,λh=>?_⟩
 ·unfold IU Hd;rw[AM (Ar (d:=.lst ((cs.filterMap (C6 r v)).map csD)) rfl)];rw[AM (show BP (.lst ((cs.filterMap (C6 r v)).map csD)) Z=some _ from rfl)];cases cs.filterMap (C6 r v)<;>rfl
 ·wtm_at "c";refine EC F λK k=>?_;exact⟨_,_,[],rfl,by simp,FS _ _,q (by intro z;rw[z] at h;simp at h) K k⟩
 ·wtm_at "c";exact⟨_,_,[],rfl,by simp,by unfold Cl;trivial,q0 (by simpa using h)⟩
end
end K15
set_option maxHeartbeats 4000000
namespace K15
open PySem L2 Mi Nk Wb Ht
open K13 (C3 C3.start C3.step Ev Ns Gm BX Bp B7 bS DI bsd clD Ak Fc Ja Bs evD BY Ao JV BF B9 AZ F3 A4 kdS JI DO Uz Uy mkD Am Ad Dy oD pa pc pd peF peT piF piT po pq pr FX B4 C9 HH BN tD MJ wfG E7)
open K16 (Bd)
section
variable{Z w5:Mh}{w9:Sl}{d:D}{ds es:List D}{n:Nat}
variable{sf:Bool}{sz bg:Int}{ns:List Str}{kd:Str}
theorem OD{w c:Int}{ts:List (Option (List Int))}:BQ [mkD sf sz bg ns,clD w c ts] Z=some (clD c (-1) ts,Z):=by
 have hz:=BN;refine AU (g:=[]) (x5:=[some (mkD sf sz bg ns),some (clD w c ts)]) ?_ rfl (Fc _ _ _ _);rw[AAa];exact pq (Dy rfl) (pr (pd (ds:=[.int c,.int (-1),.tup (ts.map tD)]) rfl (Ad (by simp;omega))))
theorem Pj{w c v:Int}{ts:List (Option (List Int))}(h0:0<=sz)(h1:sz<=10)(hv:0<=v/\v<10)(hl:ts.length<=1000)(hs:∀l,some l∈ts->Gm l):
  Bc [mkD sf sz bg ns,clD w c ts,.int v] Z=some (clD w v (ts.map (Option.map λl=>bsd sf sz l v)),Z):=by
 have hz:=BN;refine AU (g:=[]) (x5:=[some (mkD sf sz bg ns),some (clD w c ts),some (.int v),some (.lst ((ts.map (Option.map λl=>bsd sf sz l v)).map tD))]) ?_ rfl (Fc _ _ _ _);rw[AAa];refine pq (Dy rfl) (pq (pa (d:=.lst ((ts.map (Option.map λl=>bsd sf sz l v)).map tD)) (BY (ds:=ts.map tD) (es:=(ts.map (Option.map λl=>bsd sf sz l v)).map tD) (C9 rfl) (by rw[AAF];omega) ?_ (Am (by rw[AAF,AAF];omega))) rfl) (pr (pd (ds:=[.int w,.int v,.tup ((ts.map (Option.map λl=>bsd sf sz l v)).map tD)]) rfl (Ad (by simp;omega)))));have:=Bs (Z:=Z) (mc:=Cg) (me:=(mIf (AK (mOp (IX false) (AA 0) (mC .non))) (AA 0) (AG B9 (AC (mOp AL (AA 1) (mC (.int 0))) (AC (mOp AL (AA 1) (mC (.int 1))) (AC (AA 0) (AC (AA 2) AJ))))))) (u5:=[none,some (mkD sf sz bg ns),some (.int v)]) (f:=tD) (F:=λt=>tD (Option.map (λl=>bsd sf sz l v) t)) (p:=λ_=>true) (xs:=ts) (ys:=[]) (λ_ _=>rfl) (λt ht _=>?_)
 ·rw[Bp,List.nil_append] at this;rw[List.map_map];exact this
 ·cases t with
  |none=>exact peT (AR (po (x:=.non) (y:=.non) rfl rfl rfl)) rfl
  |some l=>
   obtain⟨s1,s2⟩:=hs l ht;refine peF (AR (po (x:=.tup (l.map D.int)) (y:=.non) rfl rfl rfl)) (pd (ds:=[.str (kdS sf),.int sz,.tup (l.map D.int),.int v]) rfl (K13.Kq h0 (by omega) (by omega) (FX λx hx=>?_)));rcases AAJ.mp hx with z|z
   ·exact s2 x z
   ·rw[AAK] at z;subst z;exact hv
theorem S7{w c:Int}{r:Nat}{ts:List (Option (List Int))}(h0:0<=sz)(h1:sz<=10)(hw:0<=w/\w<10)(hc:c≠-1->0<=c/\c<10)(hl:ts.length<=1000)(hr:r<ts.length):
  Bq [mkD sf sz bg ns,clD w c ts,.int r] Z=some (clD w c (ts.set r (some (DI sf sz w c))),Z):=by
 have hz:=BN;refine AU (g:=[]) (x5:=[some (mkD sf sz bg ns),some (clD w c ts),some (.int r),some (tD (some (DI sf sz w c)))]) ?_ rfl (Fc _ _ _ _);rw[AAa];have fin:Av (AG Ax (AC (mOp AL (AA 1) (mC (.int 0))) (AC (mOp AL (AA 1) (mC (.int 1))) (AC (AG AZ (AC (mOp AL (AA 1) (mC (.int 2))) (AC (AA 2) (AC (AA 3) AJ)))) AJ)))) [some (mkD sf sz bg ns),some (clD w c ts),some (.int r),some (tD (some (DI sf sz w c)))] Z=some ((.rt (clD w c (ts.set r (some (DI sf sz w c)))),[some (mkD sf sz bg ns),some (clD w c ts),some (.int r),some (tD (some (DI sf sz w c)))]),Z):=by
  refine pr (pd (ds:=[.int w,.int c,.tup ((ts.set r (some (DI sf sz w c))).map tD)]) (pc (x:=.int w) rfl (pc (x:=.int c) rfl (pc (pd (ds:=[.tup (ts.map tD),.int r,tD (some (DI sf sz w c))]) rfl ?_) rfl))) (Ad (by simp;omega)));rw[K13.Eb (by rw[AAF];exact hr) (by rw[AAF];exact hl) (λk=>Ak (Ja k) ts) (λk=>Ja k _),MJ]
 refine pq (Dy rfl) (pq (w9:=[some (mkD sf sz bg ns),some (clD w c ts),some (.int r),some (tD (some [w]))]) (pa (d:=tD (some [w])) (pd (ds:=[.int w]) rfl (Ad (by simp;omega))) rfl) (pq (w9:=[some (mkD sf sz bg ns),some (clD w c ts),some (.int r),some (tD (some (DI sf sz w c)))]) ?_ fin));have ht:AK (mOp EY (mOp AL (AA 1) (mC (.int 1))) (mC Bd)) [some (mkD sf sz bg ns),some (clD w c ts),some (.int r),some (tD (some [w]))] Z=some (!(c==-1),Z):=AR (po (x:=.int c) (y:=.int (-1)) rfl rfl Uy);by_cases e:c=-1
 ·have eb:DI sf sz w c=[w]:=if_pos e;rw[eb];refine piF (by rw[ht,e];rfl) rfl
 ·have eb:DI sf sz w c=bsd sf sz [w] c:=if_neg e;rw[eb];refine piT (by rw[ht,AAf.mpr e];rfl) (pa (d:=tD (some (bsd sf sz [w] c))) (pd (ds:=[.str (kdS sf),.int sz,.tup ([w].map D.int),.int c]) rfl (K13.Kq h0 (by omega) (by simp) (FX λx hx=>?_))) rfl);simp at hx;rcases hx with z|z
  ·subst z;exact hw
  ·subst z;exact hc e
theorem VN{w c v:Int}{r:Nat}{ts:List (Option (List Int))}{l:List Int}(hl:ts.length<=1000)(hr:ts[r]?=some (some l)):
  Bn [mkD sf sz bg ns,clD w c ts,.int r,.int v] Z=some (if v∈l then clD w c (ts.set r none) else .non,Z):=by
 have hz:=BN;have hrl:r<ts.length:=(AAT.mp hr).1;refine AU (g:=[]) (x5:=[some (mkD sf sz bg ns),some (clD w c ts),some (.int r),some (.int v),none]) ?_ rfl (by split;exact Fc _ _ _ _;unfold Cl;trivial);rw[AAa];have ht:AK (mOp (Dq true) (AA 3) (mOp AL (mOp AL (AA 1) (mC (.int 2))) (AA 2))) [some (mkD sf sz bg ns),some (clD w c ts),some (.int r),some (.int v),none] Z=some (!decide (v∈l),Z):=
  AR (po (x:=.int v) (y:=.tup (l.map D.int)) rfl (po (x:=.tup (ts.map tD)) (y:=.int r) rfl rfl (LU (B7 (by rw[AAV,hr];rfl)))) (Uz rfl))
 refine pq (w9:=[some (mkD sf sz bg ns),some (clD w c ts),some (.int r),some (.int v),none]) (Dy rfl) ?_;by_cases e:v∈l
 ·rw[if_pos e];refine pq (piF (by rw[ht,AAO e];rfl) rfl) (pr (pd (ds:=[.int w,.int c,.tup ((ts.set r none).map tD)]) (pc (x:=.int w) rfl (pc (x:=.int c) rfl (pc (pd (ds:=[.tup (ts.map tD),.int r,tD none]) rfl ?_) rfl))) (Ad (by simp;omega))));rw[K13.Eb (by rw[AAF];exact hrl) (by rw[AAF];exact hl) (λk=>Ak (Ja k) ts) (λk=>Ja k _),MJ]
 ·rw[if_neg e];exact CC (piT (by rw[ht,AAN e];rfl) (pr rfl))
theorem Po{k:C3}{m:Nat}{e:Ev}{g:Int}(h0:0<=sz)(h1:sz<=10)(K:k.Ok m)(f:k.fits e):Ac [mkD sf sz bg ns,k.toD,BX e g] Z=some (oD (k.step sf sz e),Z):=by
 have hn:=K.n;have hm:=K.m;have cl:Cl Z.length (oD (k.step sf sz e)):=by
  cases k.step sf sz e with
  |none=>unfold oD Cl;trivial
  |some k'=>exact Fc _ _ _ _
 have a0:∀o3 o4:Option D,mOp AY (mOp AL (AA 2) (mC (.int 0))) (mC (.str "begin")) [some (mkD sf sz bg ns),some k.toD,some (BX e g),o3,o4] Z=some (.bl e.beg,Z):=λ_ _=>po (x:=.str (bS e.beg)) (y:=.str "begin") rfl rfl JI;have a1:∀o3 o4:Option D,AK (mOp AY (mOp AL (AA 2) (mC (.int 1))) (mC (.int 0))) [some (mkD sf sz bg ns),some k.toD,some (BX e g),o3,o4] Z=some ((e.hand:Int)==0,Z):=λ_ _=>AR (po (x:=.int e.hand) (y:=.int 0) rfl rfl DO);cases e with
 |wb v=>
  refine AU (g:=[]) (x5:=[some (mkD sf sz bg ns),some k.toD,some (BX (.wb v) g),some (.bl true),none]) ?_ rfl cl;rw[AAa];exact pq (pa (a0 _ _) rfl) (CC (piT (a1 _ _) (pr (peT (AR rfl) (pd (ds:=[mkD sf sz bg ns,k.toD,.int v]) rfl (Pj h0 h1 f (by omega) K.ts))))))
 |we=>
  refine AU (g:=[]) (x5:=[some (mkD sf sz bg ns),some k.toD,some (BX .we g),some (.bl false),none]) ?_ rfl cl;rw[AAa];exact pq (pa (a0 _ _) rfl) (CC (piT (a1 _ _) (pr (peF (AR rfl) (pd (ds:=[mkD sf sz bg ns,k.toD]) rfl OD)))))
 |rb r=>
  refine AU (g:=[]) (x5:=[some (mkD sf sz bg ns),some k.toD,some (BX (.rb r) g),some (.bl true),some (.int (((r+1:Nat):Int)-1))]) ?_ rfl cl;rw[AAa];have er:(((r+1:Nat):Int)-1)=(r:Int):=by omega
  refine pq (pa (a0 _ _) rfl) (pq (piF ((a1 _ _).trans (by show some ((((r+1:Nat):Int)==0),Z)=_;rw[AAf.mpr (by omega)])) rfl) (pq (pa (d:=.int (((r+1:Nat):Int)-1)) (po (x:=.int ((r+1:Nat):Int)) (y:=.int 1) rfl rfl rfl) rfl) (pr (peT (AR rfl) (pd (ds:=[mkD sf sz bg ns,k.toD,.int (((r+1:Nat):Int)-1)]) rfl ?_)))));rw[er];exact S7 h0 h1 K.w K.c (by omega) f
 |re r v=>
  refine AU (g:=[]) (x5:=[some (mkD sf sz bg ns),some k.toD,some (BX (.re r v) g),some (.bl false),some (.int (((r+1:Nat):Int)-1))]) ?_ rfl cl;rw[AAa];obtain⟨l,hl⟩:=f;have er:(((r+1:Nat):Int)-1)=(r:Int):=by omega
  refine pq (pa (a0 _ _) rfl) (pq (piF ((a1 _ _).trans (by show some ((((r+1:Nat):Int)==0),Z)=_;rw[AAf.mpr (by omega)])) rfl) (pq (pa (d:=.int (((r+1:Nat):Int)-1)) (po (x:=.int ((r+1:Nat):Int)) (y:=.int 1) rfl rfl rfl) rfl) (pr (peF (AR rfl) (pd (ds:=[mkD sf sz bg ns,k.toD,.int (((r+1:Nat):Int)-1),.int v]) rfl ?_)))));rw[er];show Bn [mkD sf sz bg ns,clD k.w k.c k.ts,.int (r:Int),.int v] Z=_;rw[VN (by omega) hl];unfold C3.step;simp only[hl];split<;>rfl
noncomputable abbrev X3:Sl->M (Fl×Sl):=(AT (Af (AG Ac (AC (AA 0) (AC (AA 2) (AC (AA 3) AJ)))) (AN 2))
  (sIf (AK (mOp (IX false) (AA 2) (mC .non))) (Av (mC (.bl false))) Ay))
theorem RQ{ev:D}{m:Nat}(h0:0<=sz)(h1:sz<=10):∀(ps:List (Ev×Int)) (k:C3) (o3:Option D),k.Ok m->F3 sf sz m k (ps.map (·.1))->∃(o2' o3':Option D),
  DE (AN 3) X3 (ps.map λp=>BX p.1 p.2) [some (mkD sf sz bg ns),some ev,some k.toD,o3] Z=some ((if A4 sf sz k (ps.map (·.1)) then .next else .rt (.bl false),[some (mkD sf sz bg ns),some ev,o2',o3']),Z)
 |[],k,o3,_,_=>⟨some k.toD,o3,rfl⟩
 |p::ps,k,o3,K,F=>by
  obtain⟨f1,f2⟩:=F;have vb:=Po (Z:=Z) (sf:=sf) (bg:=bg) (ns:=ns) (g:=p.2) h0 h1 K f1;have a1:Af (AG Ac (AC (AA 0) (AC (AA 2) (AC (AA 3) AJ)))) (AN 2) [some (mkD sf sz bg ns),some ev,some k.toD,some (BX p.1 p.2)] Z=some ((.next,[some (mkD sf sz bg ns),some ev,some (oD (k.step sf sz p.1)),some (BX p.1 p.2)]),Z):=pa (pd (ds:=[mkD sf sz bg ns,k.toD,BX p.1 p.2]) rfl vb) rfl;cases hs:k.step sf sz p.1 with
  |none=>
   rw[hs] at a1;refine⟨some .non,some (BX p.1 p.2),?_⟩;have ej:A4 sf sz k ((p::ps).map (·.1))=false:=by
    show (match k.step sf sz p.1 with|none=>false|some k'=>A4 sf sz k' (ps.map (·.1)))=false;rw[hs]
   rw[ej];exact JV (w9:=[some (mkD sf sz bg ns),some ev,some k.toD,some (BX p.1 p.2)]) (w5:=Z) rfl (pq a1 (piT (AR (po (x:=.non) (y:=.non) rfl rfl rfl)) (pr rfl)))
  |some k'=>
   rw[hs] at a1;obtain⟨K',F'⟩:=f2 k' hs;obtain⟨o2',o3',go⟩:=RQ h0 h1 ps k' (some (BX p.1 p.2)) K' F';refine⟨o2',o3',?_⟩;have ej:A4 sf sz k ((p::ps).map (·.1))=A4 sf sz k' (ps.map (·.1)):=by
    show (match k.step sf sz p.1 with|none=>false|some k'=>A4 sf sz k' (ps.map (·.1)))=A4 sf sz k' (ps.map (·.1));rw[hs]
   rw[ej];exact Ao (w9:=[some (mkD sf sz bg ns),some ev,some k.toD,some (BX p.1 p.2)]) (w5:=Z) rfl (pq a1 (piF (AR (po (x:=k'.toD) (y:=.non) rfl rfl rfl)) rfl)) go
theorem Pm(N:Ns ns){es:List Ev}(h0:0<=sz)(h1:sz<=10)(b0:0<=bg)(b1:bg<10)(ok:∀e∈es,e.Ok ns sz)(wf:wfG (λ_=>false) es)(hl:es.length<=100)(F:F3 sf sz (ns.length-1) (C3.start bg (ns.length-1)) es):
  Dd [mkD sf sz bg ns,.lst (es.map (evD ns))] Z=some (.bl (A4 sf sz (C3.start bg (ns.length-1)) es),Z):=by
 have hhi:=N.hi;have hlo:=N.lo;obtain⟨gs,hg,ea⟩:=K16.v_acts (Z:=Z) (kd:=kdS sf) (bg:=bg) N ok wf hl;obtain⟨o2,o3,go⟩:=RQ (Z:=Z) (sf:=sf) (bg:=bg) (ns:=ns) (ev:=.lst (es.map (evD ns))) h0 h1 (es.zip gs) (C3.start bg (ns.length-1)) none (HH (by omega) b0 b1) (by rw[E7 hg];exact F);rw[E7 hg] at go;rw[K16.eq_acts] at ea;refine AU (g:=[]) (x5:=[some (mkD sf sz bg ns),some (.lst (es.map (evD ns))),o2,o3]) ?_ rfl (by unfold Cl;trivial);rw[AAa];refine pq (pa (d:=(C3.start bg (ns.length-1)).toD) (pd (ds:=[mkD sf sz bg ns]) rfl (K13.TB (by omega) hlo)) rfl) ?_;have fo:Fp (Db (AG BF (AC (AA 0) (AC (AA 1) AJ)))) (AN 3) X3 [some (mkD sf sz bg ns),some (.lst (es.map (evD ns))),some (C3.start bg (ns.length-1)).toD,none] Z=_:=Eu (B4 (pd (ds:=[mkD sf sz bg ns,.lst (es.map (evD ns))]) rfl ea)) go;cases hj:A4 sf sz (C3.start bg (ns.length-1)) es with
 |true=>rw[hj] at fo;exact pq fo (pr rfl)
 |false=>rw[hj] at fo;exact CC fo
end
end K15
namespace L2
open PySem PySem.Spec PyProof.Rows Sem Ht
end L2
namespace Mi
open PySem L2 Ht
end Mi
set_option maxHeartbeats 2000000
namespace Xt
open PySem PySem.Spec PyProof.Rows Sem L2 Ht
section
variable{s:Shared}
set_option hygiene false in
local macro_rules | `(tactic| wtm_at "l")=>`(tactic| (
 refine AAA (wpAny_storeSet_of (s:={ s with toks:=s.toks+1 }) ho hd ?_ (by rw[sizeLine_eq];unfold scanBound at room;omega));have ho1:=G4 ho hd es1 t2;have sb1:=Heap.SameBut.update s.heap a (Obj.putSet es1 t2);by_cases hf:(!wd&&t2.tooFull)=true
 ·rw[if_pos hf];have rp:=relayAll_perm t2 es1 (SetTable.grown es1.size);have rf:=relayAll_fits t2 es1 (SetTable.grown es1.size);have rl:=relay_led t2 es1 (SetTable.grown es1.size);generalize relayAll t2 es1 (SetTable.grown es1.size)=ry at rp rf rl;obtain⟨es3,t3,gv3⟩:=ry;dsimp only at rp rf rl ⊢;have s3:es3.size=es1.size:=by simpa using rp.length_eq
  cases gv3
  all_goals
   first
    |refine AAA (AAB ?_)
    |refine AAA (wpAny_rule ?_)
   refine AAA (wpAny_storeSet_of (s:={ s with heap:=s.heap.update a (Obj.putSet es1 t2),toks:=s.toks+1 }) ho1 rfl ?_ (by rw[sizeLine_eq];unfold scanBound at room;omega));exact AAB (AAB (wrap es3 t3 _ o _ _ (sb1.trans (Heap.SameBut.update _ a _)) (G4 ho1 rfl es3 t3) rp rf (rl.1.trans fl.2.1) (rl.2 fl.2.2)))
 ·rw[if_neg hf];exact AAB (AAB (wrap es1 t2 _ o _ _ sb1 ho1 (.refl _) fl.1 fl.2.1 fl.2.2))))
end
end Xt
set_option maxHeartbeats 2000000
namespace Xt
open PySem PySem.Spec PyProof.Rows Sem L2 Ht
end Xt
set_option maxHeartbeats 2000000
namespace Xt
open PySem PySem.Spec PyProof.Rows Sem L2 Ht
end Xt
set_option maxHeartbeats 2000000
namespace Xt
open PySem PySem.Spec PyProof.Rows Sem L2 Ht
end Xt
set_option maxHeartbeats 2000000
namespace Xt
open PySem PySem.Spec PyProof.Rows Sem L2 Ht
end Xt
namespace L2
open PySem PySem.Spec PyProof.Rows Sem Ht Xt
end L2
namespace Mi
open PySem L2 Ht Xt
end Mi
namespace Mi
open PySem L2
end Mi
namespace Kst
open PySem L2 Mi
end Kst
namespace Mi
open PySem L2
end Mi
namespace K21
open PySem L2 Mi
end K21
namespace Mi
open PySem L2
end Mi
namespace K21
open PySem L2 Mi
end K21
namespace Mi
open PySem L2
end Mi
namespace K21
open PySem L2 Mi
end K21
namespace Mi
open PySem L2
end Mi
namespace K21
open PySem L2 Mi
end K21
namespace K21
open PySem L2 Mi Xt
end K21
namespace K21
open PySem L2 Mi
end K21
namespace Mi
open PySem L2
end Mi
namespace K21
open PySem L2 Mi
end K21
namespace Mi
open PySem L2
end Mi
namespace K21
open PySem L2 Mi
end K21
namespace Mi
open PySem L2
section
variable{B:Sl}{Z:Mh}{x y:D}{ds:List D}{ma mb:Sl->M D}{QD:D->Mh->Prop}{i j:Int}
theorem Sa{x y:Str}(h1:PyData.strOk x=true)(h2:PyData.strOk y=true)(h:(x==y)=true)(q:QD (.bl true) Z):WP (AY (.str x) (.str y)) Z QD:=MB h1 h2 (by rw[h];exact q)
theorem Sb{x y:Str}(h1:PyData.strOk x=true)(h2:PyData.strOk y=true)(h:(x==y)=false)(q:QD (.bl false) Z):WP (AY (.str x) (.str y)) Z QD:=MB h1 h2 (by rw[h];exact q)
theorem PX(h:i=j)(q:QD (.bl true) Z):WP (AY (.int i) (.int j)) Z QD:=MC (by rw[beq_iff_eq.mpr h];exact q)
theorem PY(h:i≠j)(q:QD (.bl false) Z):WP (AY (.int i) (.int j)) Z QD:=MC (by rw[AAf.mpr h];exact q)
theorem PV(q:QD (.bl true) Z):WP (IX false .non .non) Z QD:=⟨_,Z,rfl,q⟩
theorem SZ{b:Bool}(q:QD (.bl b) Z):WP (IX b (.tup ds) .non) Z QD:=by cases b<;>exact⟨_,Z,rfl,q⟩
noncomputable def WH(m1 m2:M D)(QD:D->Mh->Prop):Bool->Mh->Prop
 |true,Z=>WP m1 Z QD
 |false,Z=>WP m2 Z QD
theorem SY{mc:Sl->M Bool}(h:WP (mc B) Z (WH (ma B) (mb B) QD)):WP (mIf mc ma mb B) Z QD:=Pa (Az h λb _ z=>by cases b;exact⟨λe=>(nomatch e),λ_=>z⟩;exact⟨λ_=>z,λe=>(nomatch e)⟩)
theorem PR{m1 m2:M D}(h:WP m1 Z QD):WH m1 m2 QD true Z:=h
theorem PU{m1 m2:M D}(h:WP m2 Z QD):WH m1 m2 QD false Z:=h
end
end Mi
local macro_rules | `(tactic| wtm_at "e")=>`(tactic| (decide +kernel))
local macro_rules | `(tactic| wtm_at "f")=>`(tactic| first|omega|(focus (simp;done)))
local macro_rules | `(tactic| wtm_at "k")=>`(tactic| first
 |((with_reducible apply Mi.Sb);(wtm_at "e");(wtm_at "e");(wtm_at "e"))|((with_reducible apply Mi.Sa);(wtm_at "e");(wtm_at "e");(wtm_at "e"))|((with_reducible apply Mi.wqa_neT);(wtm_at "e");(wtm_at "e");(wtm_at "e"))|((with_reducible apply Mi.wqa_neF);(wtm_at "e");(wtm_at "e");(wtm_at "e"))
 |((with_reducible apply Mi.PX);(wtm_at "f"))|((with_reducible apply Mi.PY);(wtm_at "f"))|((with_reducible apply Mi.wqa_neIT);(wtm_at "f"))|((with_reducible apply Mi.wqa_neIF);(wtm_at "f"))|((with_reducible apply Mi.wqa_ltT);(wtm_at "f"))|((with_reducible apply Mi.wqa_ltF);(wtm_at "f"))|((with_reducible apply Mi.wqa_gtT);(wtm_at "f"))|((with_reducible apply Mi.wqa_gtF);(wtm_at "f"))|((with_reducible apply Mi.wqa_geT);(wtm_at "f"))|((with_reducible apply Mi.wqa_geF);(wtm_at "f"))|((with_reducible apply Mi.wqa_leT);(wtm_at "f"))
 |(with_reducible apply Mi.PV)|(with_reducible apply Mi.wqa_isNt)|(with_reducible apply Mi.wqa_isI)|(with_reducible apply Mi.SZ)|(with_reducible apply Mi.wqa_andT)|(with_reducible apply Mi.wqa_andF)|(with_reducible apply Mi.wqa_orT)|(with_reducible apply Mi.wqa_orF)|(with_reducible apply Mi.SY)|(with_reducible apply Mi.PR)|(with_reducible apply Mi.PU)|(with_reducible apply Mi.wqa_andV)|(with_reducible apply Mi.wqa_andVT)|(with_reducible apply Mi.wqa_andVF)|(with_reducible apply Mi.wqa_orV)|(with_reducible apply Mi.wqa_orVT)|(with_reducible apply Mi.wqa_orVF)|(with_reducible apply Mi.wqa_chain)
 |wtm_at "j")
local macro_rules | `(tactic| wtm_at "d")=>`(tactic| repeat wtm_at "k")
set_option maxHeartbeats 4000000
namespace K15
open PySem L2 Mi Nk Wb Ht
open K13 (Ev Ev.beg Ev.hand Ev.val BX bS evD hdD Ns nm wfG BC Ak BF Ap E7)
open K16 (An DD mkK mkW S0)
open K12 (Cl1 clD IU mwD FS)
section
variable{Z:Mh}{QD:D->Mh->Prop}{m cl t g:D}{r:Nat}
theorem Y0(h:WP (Bc [m,cl,t]) Z λd w5=>Cl Z.length d/\w5=Z/\QD d Z):WP (Ac [m,cl,.tup [.str "begin",.int ((0:Nat):Int),t,g]]) Z QD:=by
 unfold Ac;refine DQ rfl ?_;unfold An;wtm_at "d";exact Az h λd w5 ⟨c,e,q⟩=>⟨_,_,[],rfl,by rw[e];simp,c,q⟩
theorem Y3(h:WP (BQ [m,cl]) Z λd w5=>Cl Z.length d/\w5=Z/\QD d Z):WP (Ac [m,cl,.tup [.str "end",.int ((0:Nat):Int),t,g]]) Z QD:=by
 unfold Ac;refine DQ rfl ?_;unfold An;wtm_at "d";exact Az h λd w5 ⟨c,e,q⟩=>⟨_,_,[],rfl,by rw[e];simp,c,q⟩
theorem Y2(h:WP (Bq [m,cl,.int (r:Int)]) Z λd w5=>Cl Z.length d/\w5=Z/\QD d Z):WP (Ac [m,cl,.tup [.str "begin",.int ((r+1:Nat):Int),t,g]]) Z QD:=by
 unfold Ac;refine DQ rfl ?_;unfold An;wtm_at "d";rw[show (((r+1:Nat):Int)-1)=(r:Int) by omega];wtm_at "d";exact Az h λd w5 ⟨c,e,q⟩=>⟨_,_,[],rfl,by rw[e];simp,c,q⟩
theorem Y1(h:WP (Bn [m,cl,.int (r:Int),t]) Z λd w5=>Cl Z.length d/\w5=Z/\QD d Z):WP (Ac [m,cl,.tup [.str "end",.int ((r+1:Nat):Int),t,g]]) Z QD:=by
 unfold Ac;refine DQ rfl ?_;unfold An;wtm_at "d";rw[show (((r+1:Nat):Int)-1)=(r:Int) by omega];wtm_at "d";exact Az h λd w5 ⟨c,e,q⟩=>⟨_,_,[],rfl,by rw[e];simp,c,q⟩
end
structure Bz(G:Nat->Bool)(is:List Bool)(mm:Option Int):Prop where
 w:mm.isSome=G 0
 r:∀r,r<is.length->is[r]?=some (!G (r+1))
section
variable{Z:Mh}{QD:D->Mh->Prop}{ws:List Int}{is:List Bool}{a:Int}{mm:Option Int}{cs S:List Cs}{G:Nat->Bool}{sz bg:Int}{ns:List Str}
theorem G8{cs S K:List Cs}(e:Ev)(h:∀x,x∈cs↔x∈S)(k:Cl1 (pre cs e) K):∀x,x∈K↔x∈clo (pre S e):=λx=>(k.mem x).trans (Ue (KH h e) x)
theorem W3{e:Ev}{g:Int}(st:St ws is a mm cs)(bz:Bz G is mm)(h:∀x,x∈cs↔x∈S)(hw:G e.hand=!e.beg)(hh:e.hand<is.length+1)(hv:∀v,e=.wb v->v∈ws)
  (q0:FK S e=true->QD .non Z) (q:FK S e=false->∀(K:List Cs) (is':List Bool) (a':Int) (mm':Option Int),St ws is' a' mm' K->Bz (λx=>if x=e.hand then e.beg else G x) is' mm'->is'.length=is.length->(∀x,x∈K↔x∈clo (pre S e))->QD (clD K) Z) :
  WP (Ac [mkW sz bg ns,clD cs,BX e g]) Z QD:=by
 have h3:∀c∈cs,c.2.2.length=is.length:=λc hc=>st.len hc;have h33:=st.S.len;cases e with
 |wb v=>
  have m0:mm=none:=by
   have:=bz.w.trans hw;cases mm with
   |none=>rfl
   |some b=>cases this
  subst m0;have st':=st.wb (hv v rfl);refine Y0 (OB st'.fit λK k=>⟨FS _ _,rfl,q rfl K is a (some v) (st'.clo k) ⟨rfl,λr hr=>?_⟩ rfl (G8 (.wb v) h k)⟩);exact bz.r r hr
 |we=>
  obtain⟨b,rfl⟩:∃b,mm=some b:=by
   have:=bz.w.trans hw;cases mm with
   |none=>cases this
   |some b=>exact⟨b,rfl⟩
  have st':=st.we;refine Y3 (MA st.many st'.fit λK k=>⟨FS _ _,rfl,q rfl K is b none (st'.clo k) ⟨rfl,λr hr=>?_⟩ rfl (G8 .we h k)⟩);exact bz.r r hr
 |rb r=>
  have hr:r<is.length:=by
   have:r+1<is.length+1:=hh;omega
  have ho:is[r]?=some true:=by rw[bz.r r hr,show G (r+1)=false from hw];rfl
  have st':=st.rb ho;refine Y2 (PZ (λc hc=>by rw[h3 c hc];exact hr) (λc hc=>by rw[h3 c hc];exact h33) st'.fit λK k=>⟨FS _ _,rfl,q rfl K _ a mm (st'.clo k) ⟨bz.w,λj hj=>?_⟩ (AAx ..) (G8 (.rb r) h k)⟩);rw[AAx] at hj;by_cases z:r=j
  ·subst z;rw[List.getElem?_set_self hr];show some false=some (!(if r+1=r+1 then true else G (r+1)));rw[if_pos rfl];rfl
  ·rw[AAp z,bz.r j hj];show _=some (!(if j+1=r+1 then true else G (j+1)));rw[if_neg (by omega)]
 |re r v=>
  have hr:r<is.length:=by
   have:r+1<is.length+1:=hh;omega
  have st':=st.re (r:=r) (v:=v);have ge:FK S (.re r v)=(IU cs r v).isEmpty:=by
   show (S.filterMap (C6 r v)).isEmpty=(cs.filterMap (C6 r v)).isEmpty;rw[Bool.eq_iff_iff,List.isEmpty_iff,List.isEmpty_iff,List.eq_nil_iff_forall_not_mem,List.eq_nil_iff_forall_not_mem];exact⟨λz x hx=>z x ((KH h (.re r v) x).mp hx),λz x hx=>z x ((KH h (.re r v) x).mpr hx)⟩
  refine Y1 (Sd (v:=v) st.many (λc hc=>by rw[h3 c hc];exact hr) (λc hc=>by rw[h3 c hc];exact h33) st'.fit (λz=>⟨by unfold Cl;trivial,rfl,q0 (by rw[ge,z];rfl)⟩) λz K k=>⟨FS _ _,rfl,q (by rw[ge];cases y:IU cs r v with|nil=>exact absurd y z|cons _ _=>rfl) K _ a mm (st'.clo k) ⟨bz.w,λj hj=>?_⟩ (AAx ..) (G8 (.re r v) h k)⟩);rw[AAx] at hj;by_cases z:r=j
  ·subst z;rw[List.getElem?_set_self hr];show some true=some (!(if r+1=r+1 then false else G (r+1)));rw[if_pos rfl];rfl
  ·rw[AAp z,bz.r j hj];show _=some (!(if j+1=r+1 then false else G (j+1)));rw[if_neg (by omega)]
theorem Sj(N:Ns ns){es:List Ev}(ok:∀e∈es,e.Ok ns sz)(wf:wfG (λ_=>false) es)(hl:es.length<=100)(S0':Shp ws (List.replicate (ns.length-1) true) bg none)(hv:∀v,Ev.wb v∈es->v∈ws)(q:QD (.bl (Es (S0 bg (ns.length-1)) es)) Z):WP (Dd [mkW sz bg ns,.lst (es.map (evD ns))]) Z QD:=by
 have hhi:=N.hi;have hlo:=N.lo;obtain⟨gs,hg,ea⟩:=K16.v_acts (Z:=Z) (kd := "whole") (bg:=bg) N ok wf hl;rw[K16.eq_acts] at ea;have eb:=K16.v_begunW (Z:=Z) (sz:=sz) (bg:=bg) (ns:=ns) (by omega) hlo;rw[K16.eq_begun] at eb;unfold Dd;refine DQ rfl ?_;unfold DD;wtm_at "d";refine Di eb ?_;wtm_at "d";refine Di ea ?_;wtm_at "d";have st0:St ws (List.replicate (ns.length-1) true) bg none (S0 bg (ns.length-1)):=⟨S0',by simp[S0],λc hc=>by
  rw[AAK.mp hc];refine mem_Uc.mpr ⟨?_,rfl,rfl⟩;show List.replicate (ns.length-1) (-1)∈_;generalize ns.length-1=k
  induction k with
  |zero=>simp[tlU]
  |succ k ih=>exact mem_tlU.mpr ⟨-1,List.replicate k (-1),rfl,rfl,ih⟩⟩
 have hzip:=E7 hg;refine MD (I:=λrest B Z'=>∃(ps:List (Ev×Int)) (S cs:List Cs) (is:List Bool) (a:Int) (mm:Option Int) (G:Nat->Bool) (o3:Option D),rest=ps.map (λp=>BX p.1 p.2)/\Es (S0 bg (ns.length-1)) es=Es S (ps.map (·.1))/\St ws is a mm cs/\Bz G is mm/\is.length=ns.length-1/\(∀x,x∈cs↔x∈S)/\wfG G (ps.map (·.1))/\(∀e∈ps.map (·.1),e∈es)/\Z'=Z/\B=[some (mkW sz bg ns),some (.lst (es.map (evD ns))),some (clD cs),o3]) ?_ ?_ ⟨es.zip gs,_,_,_,_,_,λ_=>false,none,rfl,by rw[hzip],st0,⟨rfl,λr hr=>by rw[List.getElem?_replicate,if_pos (by rw[AAo] at hr;exact hr)];rfl⟩,AAo,λ_=>Iff.rfl,by rw[hzip];exact wf,by rw[hzip];exact λ_ h=>h,rfl,rfl⟩
 ·rintro x xs B Z' ⟨ps,S,cs,is,a,mm,G,o3,hr,hj,st,bz,il,hm,hw,hsub,rfl,rfl⟩;cases ps with
  |nil=>cases hr
  |cons p ps=>
   rw[AAW] at hr;obtain⟨e3,e4⟩:=List.cons.inj hr;subst e3;obtain⟨w1,w2⟩:=hw;have pm:p.1∈es:=hsub p.1 AAP;wtm_at "d";refine W3 st bz hm w1 (by rw[il];have:=(ok p.1 pm).h;omega) (λv e=>hv v (by rw[←e];exact pm)) (λgn=>?_) λgn K is' a' mm' st' bz' il' hm'=>?_
   ·wtm_at "d";refine⟨_,_,[],rfl,by simp,by unfold Cl;trivial,?_⟩;have:Es S ((p::ps).map (·.1))=false:=by
     show (if FK S p.1=true then false else _)=false;rw[if_pos gn]
    rw[hj,this] at q;exact q
   ·wtm_at "d";refine Pf ⟨ps,clo (pre S p.1),K,is',a',mm',_,_,e4,?_,st',bz',il'.trans il,hm',w2,λe he=>hsub e (AAQ _ he),rfl,rfl⟩;rw[hj];show (if FK S p.1=true then false else _)=_;rw[gn];rfl
 ·rintro B Z' ⟨ps,S,cs,is,a,mm,G,o3,hr,hj,st,bz,il,hm,hw,hsub,rfl,rfl⟩;cases ps with
  |cons p ps=>cases hr
  |nil=>
   wtm_at "d";refine⟨_,_,[],rfl,by simp,by unfold Cl;trivial,?_⟩;rw[hj] at q;exact q
end
end K15
namespace K15
open Nk Wb
open K13 (Ev Ev.beg Ev.hand Ev.val wfG)
def Cld(S:List Cs):Prop:=∀x∈S,∀y∈nxt x,y∈S
theorem N1(S:List Cs):Cld (clo S):=λx hx y hy=>by
 obtain⟨c,hc,h⟩:=mem_clo.mp hx;exact mem_clo.mpr ⟨c,hc,J6 h hy⟩
theorem Cld.rch{S:List Cs}(h:Cld S){x y:Cs}(hx:x∈S)(r:Rch x y):y∈S:=by
 induction r with
 |refl=>exact hx
 |step _ s ih=>exact h _ ih _ s
theorem KP{S:List Cs}{x y:Cs}(hx:x∈S)(r:Rch x y):y∈clo S:=mem_clo.mpr ⟨x,hx,rch_iff.mpr r⟩
theorem Ha{S:List Cs}{y:Cs}(h:y∈clo S):∃x∈S,Rch x y:=by
 obtain⟨c,hc,r⟩:=mem_clo.mp h;exact⟨c,hc,rch_iff.mp r⟩
noncomputable def one(e:Ev)(x:Cs):Option Cs:=match e with
 | .wb v=>some (GY v x)
 | .we=>FL x
 | .rb r=>some (GA r x)
 | .re r v=>C6 r v x
theorem mem_one{S:List Cs}{e:Ev}{y:Cs}:y∈pre S e↔∃x∈S,one e x=some y:=by
 cases e<;>simp[pre,one]
theorem not_gone{S:List Cs}{e:Ev}:FK S e=false↔((∃r v,e=.re r v)->∃x∈S,∃y,one e x=some y):=by
 cases e with
 |re r v=>
  show (S.filterMap (C6 r v)).isEmpty=false↔_;constructor
  ·intro h _;cases hf:S.filterMap (C6 r v) with
   |nil=>rw[hf] at h;cases h
   |cons y l=>
    obtain⟨x,hx,e⟩:=List.mem_filterMap.mp (show y∈S.filterMap (C6 r v) by rw[hf];exact AAP);exact⟨x,hx,y,e⟩
  ·intro h;obtain⟨x,hx,y,e⟩:=h ⟨r,v,rfl⟩;cases hf:S.filterMap (C6 r v) with
   |nil=>
    have:y∈S.filterMap (C6 r v):=List.mem_filterMap.mpr ⟨x,hx,e⟩;rw[hf] at this;cases this
   |cons _ _=>rfl
 |_=>exact⟨(λ_ ⟨r,v,z⟩=>by cases z),λ_=>rfl⟩
theorem Re{S S':List Cs}{e:Ev}(h:∀x∈S,x∈S')(g:FK S e=false):FK S' e=false:=not_gone.mpr λz=>by
 obtain⟨x,hx,y⟩:=not_gone.mp g z;exact⟨x,h x hx,y⟩
theorem SC{S S':List Cs}(h:∀x∈S,x∈S'):∀x∈clo S,x∈clo S':=λx hx=>by
 obtain⟨y,hy,r⟩:=Ha hx;exact KP (h y hy) r
theorem QZ{S S':List Cs}(e:Ev)(h:∀x∈S,x∈S'):∀x∈pre S e,x∈pre S' e:=λx hx=>by
 obtain⟨y,hy,z⟩:=mem_one.mp hx;exact mem_one.mpr ⟨y,h y hy,z⟩
theorem judW_cons{S:List Cs}{e:Ev}{es:List Ev}:Es S (e::es)=true↔FK S e=false/\Es (clo (pre S e)) es=true:=by
 show (if FK S e=true then false else _)=true↔_;cases FK S e with
 |true=>simp
 |false=>simp
theorem JK:∀(es:List Ev) {S S':List Cs},(∀x∈S,x∈S')->Es S es=true->Es S' es=true
 |[],_,_,_,_=>rfl
 |e::es,S,S',h,j=>by
  obtain⟨g,j⟩:=judW_cons.mp j;exact judW_cons.mpr ⟨Re h g,JK es (SC (QZ e h)) j⟩
theorem LW:∀(es fs:List Ev) {S:List Cs},Es S (es++fs)=true->Es S es=true
 |[],_,_,_=>rfl
 |e::es,fs,S,j=>by
  obtain⟨g,j⟩:=judW_cons.mp j;exact judW_cons.mpr ⟨g,LW es fs j⟩
structure Lift(e f:Ev)(P:Cs->Prop)(L:Cs->Cs):Prop where
 i:∀x y,one e x=some y->P y/\L y=x
 o:∀y,P y->one e (L y)=some y
 n:∀y z,P y->z∈nxt y->P z/\L z∈nxt (L y)
 f:∀y z,P y->one f y=some z->P z/\one f (L y)=some (L z)
theorem Lift.rch{e f:Ev}{P:Cs->Prop}{L:Cs->Cs}(l:Lift e f P L){y z:Cs}(p:P y)(r:Rch y z):P z/\Rch (L y) (L z):=by
 induction r with
 |refl=>exact⟨p,.refl _⟩
 |step _ s ih=>
  obtain⟨p1,r1⟩:=ih;obtain⟨p2,r2⟩:=l.n _ _ p1 s;exact⟨p2,.step r1 r2⟩
theorem Lift.swap{e f:Ev}{P:Cs->Prop}{L:Cs->Cs}(l:Lift e f P L){S:List Cs}(c:Cld S)(g1:FK S e=false)(g2:FK (clo (pre S e)) f=false)(ne:(∃r v,e=.re r v)->∃y∈clo (pre S e),∃z,one f y=some z):
  FK S f=false/\FK (clo (pre S f)) e=false/\∀x∈clo (pre (clo (pre S e)) f),x∈clo (pre (clo (pre S f)) e):=by
 have up:∀y∈clo (pre S e),P y/\L y∈S:=λy hy=>by
  obtain⟨x1,h1,r⟩:=Ha hy;obtain⟨x,hx,e1⟩:=mem_one.mp h1;obtain⟨p,el⟩:=l.i x x1 e1;obtain⟨p2,r2⟩:=l.rch p r;rw[el] at r2;exact⟨p2,c.rch hx r2⟩
 have up2:∀y z x3,y∈clo (pre S e)->one f y=some z->Rch z x3->L x3∈clo (pre S f)/\one e (L x3)=some x3:=λy z x3 hy hz r=>by
  obtain⟨p,hl⟩:=up y hy;obtain⟨p2,e2⟩:=l.f y z p hz;obtain⟨p3,r3⟩:=l.rch p2 r;exact⟨KP (mem_one.mpr ⟨_,hl,e2⟩) r3,l.o _ p3⟩
 refine⟨not_gone.mpr λz=>?_,not_gone.mpr λz=>?_,λx hx=>?_⟩
 ·obtain⟨y,hy,w,e1⟩:=not_gone.mp g2 z;obtain⟨p,hl⟩:=up y hy;exact⟨_,hl,_,(l.f y w p e1).2⟩
 ·obtain⟨y,hy,w,e1⟩:=ne z;obtain⟨h1,h2⟩:=up2 y w w hy e1 (.refl _);exact⟨_,h1,_,h2⟩
 ·obtain⟨z,hz,r⟩:=Ha hx;obtain⟨y,hy,e1⟩:=mem_one.mp hz;obtain⟨h1,h2⟩:=up2 y z x hy e1 r;exact KP (mem_one.mpr ⟨_,h1,h2⟩) (.refl _)
theorem UD{f:Ev}(hf:f.hand≠0):Lift .we f (λy=>y.2.1=-1) (λy=>(y.1,-2,y.2.2)) where
 i:=λx y e=>by
  obtain⟨q,rfl⟩:=K12.CS e;exact⟨rfl,by obtain⟨a,b,c⟩:=x;show (a,(-2:Int),c)=(a,b,c);rw[show b=-2 from q]⟩
 o:=λy p=>by
  obtain⟨a,b,c⟩:=y;show FL (a,-2,c)=some (a,b,c);rw[show b=-1 from p];rfl
 n:=λy z p h=>by
  rcases mem_nxt.mp h with ⟨h0,rfl⟩|⟨i,hi,rfl⟩
  ·rw[p] at h0;exact absurd h0 (by decide)
  ·exact⟨p,mem_nxt.mpr (.inr ⟨i,hi,rfl⟩)⟩
 f:=λy z p h=>by
  cases f with
  |wb v=>exact absurd rfl hf
  |we=>exact absurd rfl hf
  |rb r=>
   have h:some (GA r y)=some z:=h;cases h;exact⟨p,rfl⟩
  |re r v=>
   obtain⟨q,rfl⟩:=K12.Br h;exact⟨p,by show C6 r v _=_;unfold C6;rw[if_pos q]⟩
theorem K1{l:List Int}{r:Nat}{u v:Int}(h:l[r]?=some u):(l.set r v).set r u=l:=by
 rw[List.set_set];obtain⟨hr,e⟩:=AAT.mp h;rw[←e,List.set_getElem_self]
theorem UE{f:Ev}{r:Nat}{v:Int}(hv:0<=v)(hf:f.hand≠r+1):Lift (.re r v) f (λy=>y.2.2[r]?=some (-1)) (λy=>(y.1,y.2.1,y.2.2.set r v)) where
 i:=λx y e=>by
  obtain⟨q,rfl⟩:=K12.Br e;have hr:=(AAT.mp q).1;exact⟨List.getElem?_set_self hr,by obtain⟨a,b,c⟩:=x;show (a,b,(c.set r (-1)).set r v)=(a,b,c);rw[K1 q]⟩
 o:=λy p=>by
  have hr:=(AAT.mp p).1;obtain⟨a,b,c⟩:=y;show C6 r v (a,b,c.set r v)=some (a,b,c);unfold C6;rw[if_pos (List.getElem?_set_self hr)];show some (a,b,(c.set r v).set r (-1))=_;rw[K1 p]
 n:=λy z p h=>by
  rcases mem_nxt.mp h with ⟨h0,rfl⟩|⟨i,hi,rfl⟩
  ·exact⟨p,mem_nxt.mpr (.inl ⟨h0,rfl⟩)⟩
  ·have ne:i≠r:=λe=>by
    subst e;rw[hi] at p;cases p
   refine⟨?_,mem_nxt.mpr (.inr ⟨i,?_,?_⟩)⟩
   ·show (y.2.2.set i y.1)[r]?=some (-1);rw[AAp ne];exact p
   ·show (y.2.2.set r v)[i]?=some (-2);rw[AAp (Ne.symm ne)];exact hi
   ·show (y.1,y.2.1,(y.2.2.set i y.1).set r v)=(y.1,y.2.1,(y.2.2.set r v).set i y.1);rw[List.set_comm _ _ ne]
 f:=λy z p h=>by
  cases f with
  |wb u=>
   have h:some (GY u y)=some z:=h;cases h;exact⟨p,rfl⟩
  |we=>
   obtain⟨q,rfl⟩:=K12.CS h;exact⟨p,by show FL _=_;unfold FL;rw[if_pos q]⟩
  |rb j=>
   have ne:j≠r:=λe=>hf (by rw[e];rfl);have h:some (GA j y)=some z:=h;cases h;refine⟨?_,?_⟩
   ·show (y.2.2.set j (-2))[r]?=some (-1);rw[AAp ne];exact p
   ·show some (y.1,y.2.1,(y.2.2.set r v).set j (-2))=some (y.1,y.2.1,(y.2.2.set j (-2)).set r v);rw[List.set_comm _ _ ne]
  |re j u=>
   have ne:j≠r:=λe=>hf (by rw[e];rfl);obtain⟨q,rfl⟩:=K12.Br h;refine⟨?_,?_⟩
   ·show (y.2.2.set j (-1))[r]?=some (-1);rw[AAp ne];exact p
   ·show C6 j u _=_;unfold C6;rw[if_pos (by show (y.2.2.set r v)[j]?=some u;rw[AAp (Ne.symm ne)];exact q)];show some (y.1,y.2.1,(y.2.2.set r v).set j (-1))=some (y.1,y.2.1,(y.2.2.set j (-1)).set r v);rw[List.set_comm _ _ ne]
def W1(b:Bool)(x:Cs):Prop:=match b with
 |true=>x.2.1=-2∨0<=x.2.1
 |false=>x.2.1=-1
theorem W1.nxt{b:Bool}{x y:Cs}(h:W1 b x)(s:y∈Wb.nxt x):W1 b y:=by
 rcases mem_nxt.mp s with ⟨h0,rfl⟩|⟨i,hi,rfl⟩
 ·cases b with
  |true=>exact .inl rfl
  |false=>
   have h:x.2.1=-1:=h;rw[h] at h0;exact absurd h0 (by decide)
 ·exact h
def Wr(G:Nat->Bool)(S:List Cs):Prop:=∀x∈S,W1 (G 0) x
theorem NC{G:Nat->Bool}{S:List Cs}{e:Ev}(h:Wr G S)(hw:G e.hand=!e.beg)(hv:∀v,e.val=some v->0<=v):Wr (λx=>if x=e.hand then e.beg else G x) (clo (pre S e)):=by
 have pr:∀y∈pre S e,W1 (if 0=e.hand then e.beg else G 0) y:=λy hy=>by
  obtain⟨x,hx,o⟩:=mem_one.mp hy;have:=h x hx;cases e with
  |wb v=>
   have o:some (GY v x)=some y:=o;cases o;exact .inr (hv v rfl)
  |we=>
   obtain⟨q,rfl⟩:=K12.CS o;rfl
  |rb r=>
   have o:some (GA r x)=some y:=o;cases o;exact this
  |re r v=>
   obtain⟨q,rfl⟩:=K12.Br o;exact this
 intro y hy;obtain⟨x,hx,r⟩:=Ha hy;have p:=pr x hx;clear hy;show W1 (if 0=e.hand then e.beg else G 0) y
 induction r with
 |refl=>exact p
 |step a s ih=>exact ih.nxt s
theorem Uo{e f:Ev}{B_:List Ev}(he:e.beg=false)(hf:f.hand≠e.hand):∀(A:List Ev) {S:List Cs} {G:Nat->Bool},Cld S->Wr G S->wfG G (A++e::f::B_)->(∀x∈A++e::f::B_,∀v,x.val=some v->0<=v)->Es S (A++e::f::B_)=true->Es S (A++f::e::B_)=true
 |a::A,S,G,c,wr,wf,hv,j=>by
  obtain⟨g,j⟩:=judW_cons.mp j;exact judW_cons.mpr ⟨g,Uo he hf A (N1 _) (NC wr wf.1 (hv a AAP)) wf.2 (λx hx=>hv x (AAQ _ hx)) j⟩
 |[],S,G,c,wr,wf,hv,j=>by
  obtain⟨g1,j⟩:=judW_cons.mp j;obtain⟨g2,j⟩:=judW_cons.mp j;have key:∀{P:Cs->Prop} {L:Cs->Cs},Lift e f P L->((∃r v,e=.re r v)->∃y∈clo (pre S e),∃z,one f y=some z)->Es S ([]++f::e::B_)=true:=λl ne=>by
   obtain⟨k1,k2,k3⟩:=l.swap c g1 g2 ne;exact judW_cons.mpr ⟨k1,judW_cons.mpr ⟨k2,JK B_ k3 j⟩⟩
  cases e with
  |wb v=>cases he
  |rb r=>cases he
  |we=>exact key (UD hf) λ⟨r,v,z⟩=>by cases z
  |re r v=>
   refine key (UE (hv _ AAP v rfl) hf) λ_=>?_;obtain⟨x,hx,y,o⟩:=not_gone.mp g1 ⟨r,v,rfl⟩;have hy:y∈clo (pre S (.re r v)):=KP (mem_one.mpr ⟨x,hx,o⟩) (.refl _);cases f with
   |wb u=>exact⟨y,hy,_,rfl⟩
   |rb u=>exact⟨y,hy,_,rfl⟩
   |re i u=>exact not_gone.mp g2 ⟨i,u,rfl⟩
   |we=>
    have w1:W1 (G 0) y:=NC wr wf.1 (hv _ AAP) y hy;rw[show G 0=true from wf.2.1] at w1;rcases w1 with z|z
    ·exact⟨y,hy,_,by show FL y=_;unfold FL;rw[if_pos z]⟩
    ·exact⟨(y.2.1,-2,y.2.2),N1 _ y hy _ (mem_nxt.mpr (.inl ⟨z,rfl⟩)),_,rfl⟩
end K15
namespace K15
open Nk Wb Ht
open K13 (Ev Ev.beg Ev.hand Ev.val wfG C3 C3.step A4 bsd DI KG)
theorem Q1{x:Int}{n:Nat}:x∈KG n↔0<=x/\x<n:=by
 unfold KG;rw[AAL];constructor
 ·rintro⟨i,hi,rfl⟩;have:=List.mem_range.mp hi;exact⟨Int.natCast_nonneg i,by show (i:Int)<n;omega⟩
 ·rintro⟨h0,h1⟩;exact⟨x.toNat,List.mem_range.mpr (by omega),by show ((x.toNat:Nat):Int)=x;omega⟩
abbrev In(sz:Int)(x:Int):Prop:=0<=x/\x<sz
theorem EJ{sf:Bool}{sz v x:Int}{l:List Int}(h0:0<=sz):x∈bsd sf sz l v↔if sf then In sz x else x∈l∨x=v:=by
 unfold bsd;cases sf with
 |true=>
  rw[if_pos rfl,if_pos rfl,Q1];omega
 |false=>
  rw[if_neg (by decide),if_neg (by decide),Gs];simp
theorem Gx{sf:Bool}{sz w c x:Int}(h0:0<=sz)(hc:c≠-1):x∈DI sf sz w c↔if sf then In sz x else x=w∨x=c:=by
 unfold DI;rw[if_neg hc,EJ h0];cases sf<;>simp
theorem F9{sf:Bool}{sz w:Int}:DI sf sz w (-1)=[w]:=if_pos rfl
structure Rg(sz:Int)(k:C3):Prop where
 w:In sz k.w
 c:k.c≠-1->In sz k.c
 l:∀(r:Nat) (l:List Int),k.ts[r]?=some (some l)->∀x∈l,In sz x
theorem Fq{sf:Bool}{sz:Int}{k k':C3}{e:Ev}(h0:0<=sz)(g:Rg sz k)(hv:∀v,e.val=some v->In sz v)(hc:e=.we->k.c≠-1)(s:k.step sf sz e=some k'):Rg sz k':=by
 cases e with
 |wb v=>
  cases s;refine⟨g.w,λ_=>hv v rfl,λr l h x hx=>?_⟩;rw[AAV] at h;cases e:k.ts[r]? with
  |none=>rw[e] at h;cases h
  |some t=>
   rw[e] at h;cases t with
   |none=>cases h
   |some l0=>
    cases h;have:=(EJ h0).mp hx;cases sf with
    |true=>exact this
    |false=>
     rcases this with z|z
     ·exact g.l r l0 e x z
     ·rw[z];exact hv v rfl
 |we=>
  cases s;exact⟨g.c (hc rfl),(λz=>absurd rfl z),g.l⟩
 |rb r=>
  cases s;refine⟨g.w,g.c,λj l h x hx=>?_⟩;by_cases z:r=j
  ·subst z;have hr:r<k.ts.length:=by
    have:=(AAT.mp h).1;rw[AAx] at this;exact this
   rw[List.getElem?_set_self hr] at h;cases h;by_cases c1:k.c=-1
   ·rw[c1,F9] at hx;rw[AAK.mp hx];exact g.w
   ·have:=(Gx h0 c1).mp hx;cases sf with
    |true=>exact this
    |false=>
     rcases this with z|z
     ·rw[z];exact g.w
     ·rw[z];exact g.c c1
  ·rw[AAp z] at h;exact g.l j l h x hx
 |re r v=>
  unfold C3.step at s;dsimp only at s;split at s
  ·split at s
   ·cases s;refine⟨g.w,g.c,λj l h x hx=>?_⟩;by_cases z:r=j
    ·subst z;have hr:r<k.ts.length:=by
      have:=(AAT.mp h).1;rw[AAx] at this;exact this
     rw[List.getElem?_set_self hr] at h;cases h
    ·rw[AAp z] at h;exact g.l j l h x hx
   ·cases s
  ·cases s
structure Le(k k':C3):Prop where
 w:k.w=k'.w
 c:k.c=k'.c
 n:k.ts.length=k'.ts.length
 l:∀(r:Nat) (l:List Int),k.ts[r]?=some (some l)->∃l',k'.ts[r]?=some (some l')/\∀x∈l,x∈l'
theorem Le.rfl(k:C3):Le k k:=⟨Eq.refl _,Eq.refl _,Eq.refl _,λr l h=>⟨l,h,λ_ z=>z⟩⟩
theorem UF{sf sf':Bool}{sz:Int}{k k' k1:C3}{e:Ev}(h0:0<=sz)(hs:sf=sf'∨sf=false)(g:Rg sz k)(hv:∀v,e.val=some v->In sz v)(h:Le k k')(s:k.step sf sz e=some k1):∃k1',k'.step sf' sz e=some k1'/\Le k1 k1':=by
 have bs:∀{l l':List Int} {v:Int},(∀x∈l,x∈l')->(∀x∈l,In sz x)->In sz v->∀x∈bsd sf sz l v,x∈bsd sf' sz l' v:=λ{l l' v} a b c x hx=>by
  rw[EJ h0] at hx ⊢;cases sf with
  |true=>
   rcases hs with z|z
   ·rw[←z];exact hx
   ·cases z
  |false=>
   have hx:x∈l∨x=v:=hx;cases sf' with
   |true=>
    rcases hx with z|z
    ·exact b x z
    ·rw[z];exact c
   |false=>exact hx.imp (a x) id
 cases e with
 |wb v=>
  cases s;refine⟨_,rfl,h.w,rfl,by rw[AAF,AAF];exact h.n,λr l hl=>?_⟩;rw[AAV] at hl ⊢;cases e:k.ts[r]? with
  |none=>rw[e] at hl;cases hl
  |some t=>
   rw[e] at hl;cases t with
   |none=>cases hl
   |some l0=>
    cases hl;obtain⟨l',e',sub⟩:=h.l r l0 e;rw[e'];exact⟨_,rfl,bs sub (g.l r l0 e) (hv v rfl)⟩
 |we=>
  cases s;exact⟨_,rfl,h.c,rfl,h.n,h.l⟩
 |rb r=>
  cases s;refine⟨_,rfl,h.w,h.c,by rw[AAx,AAx];exact h.n,λj l hl=>?_⟩;by_cases z:r=j
  ·subst z;have hr:r<k.ts.length:=by
    have:=(AAT.mp hl).1;rw[AAx] at this;exact this
   rw[List.getElem?_set_self hr] at hl;cases hl;refine⟨_,List.getElem?_set_self (by rw[←h.n];exact hr),λx hx=>?_⟩;rw[←h.w,←h.c];by_cases c1:k.c=-1
   ·rw[c1,F9] at hx ⊢;exact hx
   ·unfold DI at hx ⊢;rw[if_neg c1] at hx ⊢;exact bs (λ_ z=>z) (λx hx=>by rw[AAK.mp hx];exact g.w) (g.c c1) x hx
  ·rw[AAp z] at hl;obtain⟨l',e',sub⟩:=h.l j l hl;exact⟨l',by rw[AAp z];exact e',sub⟩
 |re r v=>
  unfold C3.step at s ⊢;dsimp only at s ⊢;split at s
  ·rename_i l hl;obtain⟨l',e',sub⟩:=h.l r l hl;rw[e'];dsimp only;split at s
   ·rename_i m;cases s;rw[if_pos (sub v m)];refine⟨_,rfl,h.w,h.c,by rw[AAx,AAx];exact h.n,λj l0 hl0=>?_⟩;by_cases z:r=j
    ·subst z;have hr:=(AAT.mp hl).1;rw[List.getElem?_set_self hr] at hl0;cases hl0
    ·rw[AAp z] at hl0;obtain⟨l2,e2,sub2⟩:=h.l j l0 hl0;exact⟨l2,by rw[AAp z];exact e2,sub2⟩
   ·cases s
  ·cases s
def Wk(G:Nat->Bool)(k:C3):Prop:=G 0=true↔k.c≠-1
theorem Ff{G:Nat->Bool}{sf:Bool}{sz:Int}{k k':C3}{e:Ev}(h:Wk G k)(hv:∀v,e.val=some v->In sz v)(s:k.step sf sz e=some k'):Wk (λx=>if x=e.hand then e.beg else G x) k':=by
 cases e with
 |wb v=>
  cases s;have:In sz v:=hv v rfl;exact⟨λ_ z=>by have z:v=-1:=z;omega,λ_=>rfl⟩
 |we=>
  cases s;exact⟨(λz=>by cases z),λz=>absurd rfl z⟩
 |rb r=>
  cases s;exact h
 |re r v=>
  unfold C3.step at s;dsimp only at s;split at s
  ·split at s
   ·cases s;exact h
   ·cases s
  ·cases s
theorem jud_cons{sf:Bool}{sz:Int}{k:C3}{e:Ev}{es:List Ev}:A4 sf sz k (e::es)=true↔∃k',k.step sf sz e=some k'/\A4 sf sz k' es=true:=by
 show (match k.step sf sz e with|none=>false|some k'=>A4 sf sz k' es)=true↔_;cases k.step sf sz e with
 |none=>simp
 |some k'=>simp
theorem Ni{sf:Bool}{sz:Int}:∀(es fs:List Ev) {k:C3},A4 sf sz k (es++fs)=true->A4 sf sz k es=true
 |[],_,_,_=>rfl
 |e::es,fs,k,j=>by
  obtain⟨k',s,j⟩:=jud_cons.mp j;exact jud_cons.mpr ⟨k',s,Ni es fs j⟩
theorem Hk{sf sf':Bool}{sz:Int}(h0:0<=sz)(hs:sf=sf'∨sf=false):∀(es:List Ev) {k k':C3} {G:Nat->Bool},Rg sz k->Wk G k->Le k k'->wfG G es->(∀e∈es,∀v,e.val=some v->In sz v)->A4 sf sz k es=true->A4 sf' sz k' es=true
 |[],_,_,_,_,_,_,_,_,_=>rfl
 |e::es,k,k',G,g,wk,h,wf,hv,j=>by
  obtain⟨k1,s,j⟩:=jud_cons.mp j;have hv1:=hv e AAP;obtain⟨k1',s',h'⟩:=UF h0 hs g hv1 h s;have hc:e=.we->k.c≠-1:=λz=>wk.mp (by subst z;exact wf.1);exact jud_cons.mpr ⟨k1',s',Hk h0 hs es (Fq h0 g hv1 hc s) (Ff wk hv1 s) h' wf.2 (λx hx=>hv x (AAQ _ hx)) j⟩
theorem Fr{sf:Bool}{sz v:Int}{k k':C3}{r:Nat}(s:k.step sf sz (.re r v)=some k'):∃l,k.ts[r]?=some (some l)/\v∈l/\k'=⟨k.w,k.c,k.ts.set r none⟩:=by
 unfold C3.step at s;dsimp only at s;split at s
 ·rename_i l hl;split at s
  ·rename_i m;cases s;exact⟨l,hl,m,rfl⟩
  ·cases s
 ·cases s
theorem HU{sf:Bool}{sz v:Int}{k:C3}{r:Nat}{l:List Int}(h:k.ts[r]?=some (some l))(m:v∈l):k.step sf sz (.re r v)=some ⟨k.w,k.c,k.ts.set r none⟩:=by
 unfold C3.step;dsimp only;rw[h];dsimp only;rw[if_pos m]
theorem XL{sf:Bool}{sz:Int}{k k1 k2:C3}{e f:Ev}(h0:0<=sz)(g:Rg sz k)(he:e.beg=false)(hf:f.hand≠e.hand)(hc:e=.we->k.c≠-1)(hv:∀v,f.val=some v->In sz v)(s1:k.step sf sz e=some k1)(s2:k1.step sf sz f=some k2):∃k1' k2',k.step sf sz f=some k1'/\k1'.step sf sz e=some k2'/\Le k2 k2':=by
 cases e with
 |wb v=>cases he
 |rb r=>cases he
 |we=>
  cases s1;have c1:=hc rfl;cases f with
  |wb v=>exact absurd rfl hf
  |we=>exact absurd rfl hf
  |rb r=>
   cases s2;refine⟨_,_,rfl,rfl,rfl,rfl,by rw[AAx,AAx],λj l hl=>?_⟩;by_cases z:r=j
   ·subst z;have hr:r<k.ts.length:=by
     have:=(AAT.mp hl).1;rw[AAx] at this;exact this
    rw[List.getElem?_set_self hr] at hl;cases hl;refine⟨_,List.getElem?_set_self hr,λx hx=>?_⟩;rw[F9] at hx;rw[AAK.mp hx,Gx h0 c1];cases sf with
    |true=>exact g.c c1
    |false=>exact .inr rfl
   ·rw[AAp z] at hl;exact⟨l,by show (k.ts.set r _)[j]?=_;rw[AAp z];exact hl,λ_ z=>z⟩
  |re r v=>
   obtain⟨l,hl,m,rfl⟩:=Fr s2;exact⟨_,_,HU hl m,rfl,.rfl _⟩
 |re r v=>
  obtain⟨l,hl,m,rfl⟩:=Fr s1;have hr:=(AAT.mp hl).1;cases f with
  |wb u=>
   cases s2;have hl2:(k.ts.map (Option.map λl=>bsd sf sz l u))[r]?=some (some (bsd sf sz l u)):=by rw[AAV,hl];rfl
   refine⟨_,_,rfl,HU hl2 ((EJ h0).mpr ?_),?_⟩
   ·cases sf with
    |true=>exact g.l r l hl v m
    |false=>exact .inl m
   ·show Le ⟨k.w,u,(k.ts.set r none).map _⟩ ⟨k.w,u,(k.ts.map _).set r none⟩;rw[List.map_set];exact .rfl _
  |we=>
   cases s2;exact⟨_,_,rfl,HU hl m,.rfl _⟩
  |rb j=>
   have ne:j≠r:=λz=>hf (by rw[z];rfl);cases s2;refine⟨_,_,rfl,HU (l:=l) (by show (k.ts.set j _)[r]?=_;rw[AAp ne];exact hl) m,?_⟩;show Le ⟨k.w,k.c,(k.ts.set r none).set j _⟩ ⟨k.w,k.c,(k.ts.set j _).set r none⟩;rw[List.set_comm _ _ ne];exact .rfl _
  |re j u=>
   have ne:j≠r:=λz=>hf (by rw[z];rfl);obtain⟨l2,hl2,m2,rfl⟩:=Fr s2;have hl2:(k.ts.set r none)[j]?=some (some l2):=hl2;rw[AAp (Ne.symm ne)] at hl2;refine⟨_,_,HU hl2 m2,HU (l:=l) (by show (k.ts.set j _)[r]?=_;rw[AAp ne];exact hl) m,?_⟩;show Le ⟨k.w,k.c,(k.ts.set r none).set j none⟩ ⟨k.w,k.c,(k.ts.set j none).set r none⟩;rw[List.set_comm _ _ ne];exact .rfl _
theorem Up{sf:Bool}{sz:Int}{e f:Ev}{B_:List Ev}(h0:0<=sz)(he:e.beg=false)(hf:f.hand≠e.hand):∀(A:List Ev) {k:C3} {G:Nat->Bool},Rg sz k->Wk G k->wfG G (A++e::f::B_)->(∀x∈A++e::f::B_,∀v,x.val=some v->In sz v)->A4 sf sz k (A++e::f::B_)=true->A4 sf sz k (A++f::e::B_)=true
 |a::A,k,G,g,wk,wf,hv,j=>by
  obtain⟨k1,s,j⟩:=jud_cons.mp j;have hv1:=hv a AAP;have hc:a=.we->k.c≠-1:=λz=>wk.mp (by subst z;exact wf.1);exact jud_cons.mpr ⟨k1,s,Up h0 he hf A (Fq h0 g hv1 hc s) (Ff wk hv1 s) wf.2 (λx hx=>hv x (AAQ _ hx)) j⟩
 |[],k,G,g,wk,wf,hv,j=>by
  obtain⟨k1,s1,j⟩:=jud_cons.mp j;obtain⟨k2,s2,j⟩:=jud_cons.mp j;have hve:=hv e AAP;have hvf:=hv f (AAQ _ AAP);have hc:e=.we->k.c≠-1:=λz=>wk.mp (by subst z;exact wf.1);obtain⟨k1',k2',t1,t2,h⟩:=XL h0 g he hf hc hvf s1 s2;have g1:=Fq h0 g hve hc s1;have w1:=Ff wk hve s1;have hcf:f=.we->k1.c≠-1:=λz=>w1.mp (by subst z;exact wf.2.1);exact jud_cons.mpr ⟨k1',t1,jud_cons.mpr ⟨k2',t2,Hk h0 (.inl rfl) B_ (Fq h0 g1 hvf hcf s2) (Ff w1 hvf s2) h wf.2.2 (λx hx=>hv x (AAQ _ (AAQ _ hx))) j⟩⟩
end K15
namespace K15
open Nk Wb Ht
open K13 (Ev Ev.beg Ev.hand Ev.val wfG C3 C3.step A4 bsd DI KG C3.start)
open K16 (S0)
structure Rl(k:C3)(x:Cs):Prop where
 n:x.2.2.length=k.ts.length
 cw:(x.1=k.w/\x.2.1=k.c)∨(k.c≠-1/\x.1=k.c/\x.2.1=-2)
 td:∀(r:Nat) (l:List Int) (v:Int),k.ts[r]?=some (some l)->x.2.2[r]?=some v->v=-2∨v∈l
 id:∀r:Nat,k.ts[r]?=some none->x.2.2[r]?=some (-1)
def Kn(k:C3):Prop:=∀(r:Nat) (l:List Int),k.ts[r]?=some (some l)->k.w∈l/\(k.c≠-1->k.c∈l)
theorem Rl.cur{k:C3}{x:Cs}(h:Rl k x)(kn:Kn k){r:Nat}{l:List Int}(e:k.ts[r]?=some (some l)):x.1∈l:=by
 obtain⟨a,b⟩:=kn r l e;rcases h.cw with ⟨z,_⟩|⟨z,y,_⟩
 ·rw[z];exact a
 ·rw[y];exact b z
theorem Rl.nxt{k:C3}{x y:Cs}(h:Rl k x)(kn:Kn k)(c:k.c=-1∨0<=k.c)(s:y∈Wb.nxt x):Rl k y:=by
 rcases mem_nxt.mp s with ⟨h0,rfl⟩|⟨i,hi,rfl⟩
 ·refine⟨h.n,?_,h.td,h.id⟩;rcases h.cw with ⟨_,z⟩|⟨_,_,z⟩
  ·exact .inr ⟨by rw[←z];omega,z,rfl⟩
  ·rw[z] at h0;exact absurd h0 (by decide)
 ·refine⟨by show (x.2.2.set i x.1).length=_;rw[AAx];exact h.n,h.cw,λr l v e ev=>?_,λr e=>?_⟩
  ·have ev:(x.2.2.set i x.1)[r]?=some v:=ev;by_cases z:i=r
   ·subst z;rw[List.getElem?_set_self (AAT.mp hi).1] at ev;cases ev;exact .inr (h.cur kn e)
   ·rw[AAp z] at ev;exact h.td r l v e ev
  ·have:=h.id r e;show (x.2.2.set i x.1)[r]?=some (-1);by_cases z:i=r
   ·subst z;rw[hi] at this;cases this
   ·rw[AAp z];exact this
theorem NI{ts:List (Option (List Int))}{r j:Nat}{o:Option (List Int)}{t:Option (List Int)}(h:(ts.set r o)[j]?=some t):j<ts.length:=by
 have:=(AAT.mp h).1;rw[AAx] at this;exact this
theorem TY{sz:Int}{k k':C3}{e:Ev}{x y:Cs}{G:Nat->Bool}(h0:0<=sz)(wk:Wk G k)(hw:G e.hand=!e.beg)(h:Rl k x)(kn:Kn k)(cp:k.c=-1∨0<=k.c)(hv:∀v,e.val=some v->In sz v)(s:k.step false sz e=some k')(o:one e x=some y):Rl k' y:=by
 cases e with
 |wb v=>
  have o:some (GY v x)=some y:=o;cases o;cases s;have c0:k.c=-1:=Classical.byContradiction λz=>by
   have hw:G 0=false:=hw;rw[wk.mpr z] at hw;cases hw
  refine⟨by show _=(k.ts.map _).length;rw[AAF];exact h.n,.inl ⟨?_,rfl⟩,λr l u e eu=>?_,λr e=>?_⟩
  ·rcases h.cw with ⟨z,_⟩|⟨z,_⟩
   ·exact z
   ·exact absurd c0 z
  ·have e:(k.ts.map _)[r]?=some (some l):=e;rw[AAV] at e;cases q:k.ts[r]? with
   |none=>rw[q] at e;cases e
   |some t=>
    rw[q] at e;cases t with
    |none=>cases e
    |some l0=>
     cases e;exact(h.td r l0 u q eu).imp (λz=>z) λz=>(EJ h0).mpr (.inl z)
  ·have e:(k.ts.map _)[r]?=some none:=e;rw[AAV] at e;cases q:k.ts[r]? with
   |none=>rw[q] at e;cases e
   |some t=>
    rw[q] at e;cases t with
    |none=>exact h.id r q
    |some l0=>cases e
 |we=>
  obtain⟨q,rfl⟩:=K12.CS o;cases s;refine⟨h.n,.inl ⟨?_,rfl⟩,h.td,h.id⟩;rcases h.cw with ⟨_,z⟩|⟨_,z,_⟩
  ·rw[q] at z;omega
  ·exact z
 |rb r=>
  have o:some (GA r x)=some y:=o;cases o;cases s;refine⟨by show (x.2.2.set r _).length=(k.ts.set r _).length;rw[AAx,AAx];exact h.n,h.cw,λj l u e eu=>?_,λj e=>?_⟩
  ·have eu:(x.2.2.set r (-2))[j]?=some u:=eu;by_cases z:r=j
   ·subst z;rw[List.getElem?_set_self (by rw[h.n];exact NI e)] at eu;cases eu;exact .inl rfl
   ·rw[AAp z] at eu;have e:(k.ts.set r _)[j]?=some (some l):=e;rw[AAp z] at e;exact h.td j l u e eu
  ·have e':(k.ts.set r _)[j]?=some none:=e;show (x.2.2.set r (-2))[j]?=some (-1);by_cases z:r=j
   ·subst z;rw[List.getElem?_set_self (NI e')] at e';cases e'
   ·rw[AAp z] at e' ⊢;exact h.id j e'
 |re r v=>
  obtain⟨q,rfl⟩:=K12.Br o;obtain⟨l,hl,m,rfl⟩:=Fr s;have hr:=(AAT.mp hl).1;refine⟨by show (x.2.2.set r _).length=(k.ts.set r _).length;rw[AAx,AAx];exact h.n,h.cw,λj l0 u e eu=>?_,λj e=>?_⟩
  ·have eu:(x.2.2.set r (-1))[j]?=some u:=eu;have e:(k.ts.set r none)[j]?=some (some l0):=e;by_cases z:r=j
   ·subst z;rw[List.getElem?_set_self hr] at e;cases e
   ·rw[AAp z] at e eu;exact h.td j l0 u e eu
  ·have e:(k.ts.set r none)[j]?=some none:=e;show (x.2.2.set r (-1))[j]?=some (-1);by_cases z:r=j
   ·subst z;exact List.getElem?_set_self (by rw[h.n];exact hr)
   ·rw[AAp z] at e ⊢;exact h.id j e
theorem UK{sz:Int}{k k':C3}{e:Ev}(h0:0<=sz)(kn:Kn k)(hc:e=.we->k.c≠-1)(s:k.step false sz e=some k'):Kn k':=by
 cases e with
 |wb v=>
  cases s;intro r l e;have e:(k.ts.map _)[r]?=some (some l):=e;rw[AAV] at e;cases q:k.ts[r]? with
  |none=>rw[q] at e;cases e
  |some t=>
   rw[q] at e;cases t with
   |none=>cases e
   |some l0=>
    cases e;exact⟨(EJ h0).mpr (.inl (kn r l0 q).1),λ_=>(EJ h0).mpr (.inr rfl)⟩
 |we=>
  cases s;exact λr l e=>⟨(kn r l e).2 (hc rfl),λz=>absurd rfl z⟩
 |rb r=>
  cases s;intro j l e;have e':(k.ts.set r _)[j]?=some (some l):=e;by_cases z:r=j
  ·subst z;rw[List.getElem?_set_self (NI e')] at e';cases e';by_cases c1:k.c=-1
   ·exact⟨by show k.w∈DI false sz k.w k.c;rw[c1,F9];simp,λz=>absurd c1 z⟩
   ·exact⟨(Gx h0 c1).mpr (.inl rfl),λ_=>(Gx h0 c1).mpr (.inr rfl)⟩
  ·rw[AAp z] at e';exact kn j l e'
 |re r v=>
  obtain⟨l,hl,m,rfl⟩:=Fr s;intro j l0 e;have e':(k.ts.set r none)[j]?=some (some l0):=e;by_cases z:r=j
  ·subst z;rw[List.getElem?_set_self (NI e')] at e';cases e'
  ·rw[AAp z] at e';exact kn j l0 e'
theorem Fg{sz:Int}(h0:0<=sz):∀(es:List Ev) {S:List Cs} {k:C3} {G:Nat->Bool},(∀x∈S,Rl k x)->Kn k->Rg sz k->Wk G k->wfG G es->(∀e∈es,∀v,e.val=some v->In sz v)->Es S es=true->A4 false sz k es=true
 |[],_,_,_,_,_,_,_,_,_,_=>rfl
 |e::es,S,k,G,h,kn,g,wk,wf,hv,j=>by
  obtain⟨g1,j⟩:=judW_cons.mp j;have hv1:=hv e AAP;have hc:e=.we->k.c≠-1:=λz=>wk.mp (by subst z;exact wf.1);have cp:k.c=-1∨0<=k.c:=by
   by_cases z:k.c=-1
   ·exact .inl z
   ·exact .inr (g.c z).1
  obtain⟨k',s⟩:∃k',k.step false sz e=some k':=by
   cases e with
   |wb v=>exact⟨_,rfl⟩
   |we=>exact⟨_,rfl⟩
   |rb r=>exact⟨_,rfl⟩
   |re r v=>
    obtain⟨x,hx,y,o⟩:=not_gone.mp g1 ⟨r,v,rfl⟩;obtain⟨q,_⟩:=K12.Br o;have v0:In sz v:=hv1 v rfl;have hr:r<k.ts.length:=by rw[←(h x hx).n];exact(AAT.mp q).1
    cases t:k.ts[r]? with
    |none=>rw[AAu hr] at t;cases t
    |some t'=>
     cases t' with
     |none=>
      rw[(h x hx).id r t] at q;cases q;exact absurd v0.1 (by decide)
     |some l=>
      rcases(h x hx).td r l v t q with z|z
      ·omega
      ·exact⟨_,HU t z⟩
  have kn':=UK h0 kn hc s;have g':=Fq h0 g hv1 hc s;have cp':k'.c=-1∨0<=k'.c:=by
   by_cases z:k'.c=-1
   ·exact .inl z
   ·exact .inr (g'.c z).1
  refine jud_cons.mpr ⟨k',s,Fg h0 es (λy hy=>?_) kn' g' (Ff wk hv1 s) wf.2 (λx hx=>hv x (AAQ _ hx)) j⟩;obtain⟨z,hz,r⟩:=Ha hy;obtain⟨x,hx,o⟩:=mem_one.mp hz;have:=TY h0 wk wf.1 (h x hx) kn cp hv1 s o;clear hy hz o
  induction r with
  |refl=>exact this
  |step _ s ih=>exact ih.nxt kn' cp' s
end K15
namespace K15
open PySem Nk Wb Ht
open K13 (Ev Ev.beg Ev.hand Ev.val wfG C3 C3.step A4 bsd DI KG C3.start Ns wf_app gA G0)
open K16 (S0)
variable{sz bg:Int}{m:Nat}
theorem KF{r:Nat}{l:List Int}(h:(C3.start bg m).ts[r]?=some (some l)):False:=by
 have h:(List.replicate m (none:Option (List Int)))[r]?=some (some l):=h;rw[List.getElem?_replicate] at h;split at h<;>cases h
theorem QC:∀x∈S0 bg m,Rl (C3.start bg m) x:=λx hx=>by
 rw[AAK.mp hx];refine⟨by show (List.replicate m (-1:Int)).length=(List.replicate m (none:Option (List Int))).length;simp,.inl ⟨rfl,rfl⟩,λr l v e _=>(KF e).elim,λr e=>?_⟩;have h:(List.replicate m (none:Option (List Int)))[r]?=some none:=e;rw[List.getElem?_replicate] at h;show (List.replicate m (-1:Int))[r]?=some (-1);rw[List.getElem?_replicate];split at h
 ·rename_i z;rw[if_pos z]
 ·cases h
theorem RN:Kn (C3.start bg m):=λr l e=>(KF e).elim
theorem HR(b0:0<=bg)(b1:bg<sz):Rg sz (C3.start bg m):=⟨⟨b0,b1⟩,λz=>absurd rfl z,λr l e=>(KF e).elim⟩
theorem HA:Wk (λ_=>false) (C3.start bg m):=⟨(λz=>by cases z),λz=>absurd rfl z⟩
theorem O7:Cld (S0 bg m):=λx hx y hy=>by
 rw[AAK.mp hx] at hy;rcases mem_nxt.mp hy with ⟨h0,_⟩|⟨i,hi,_⟩
 ·exact absurd h0 (show ¬(0:Int)<=-1 by decide)
 ·have hi:(List.replicate m (-1:Int))[i]?=some (-2):=hi;rw[List.getElem?_replicate] at hi;split at hi<;>cases hi
theorem PQ:Wr (λ_=>false) (S0 bg m):=λx hx=>by
 rw[AAK.mp hx];rfl
noncomputable def wz:List Ev->List Int
 |[]=>[]
 | .wb v::es=>v::wz es
 |_::es=>wz es
theorem mem_wz{v:Int}:∀{es:List Ev},v∈wz es↔Ev.wb v∈es
 |[]=>by simp[wz]
 |e::es=>by
  have ih:=mem_wz (v:=v) (es:=es);cases e<;>simp[wz,ih]
theorem PP:∀{es:List Ev} {G:Nat->Bool},wfG G es->2 * (wz es).length<=es.length+(if G 0 then 0 else 1)
 |[],G,_=>by simp[wz]
 |e::es,G,h=>by
  obtain⟨h1,h2⟩:=h;have ih:=PP h2;cases e with
  |wb v=>
   have h1:G 0=false:=h1;have ih:2 * (wz es).length<=es.length+0:=ih;rw[h1];show 2 * (v::wz es).length<=(_::es).length+1;rw[AAH,AAH];omega
  |we=>
   have h1:G 0=true:=h1;have ih:2 * (wz es).length<=es.length+1:=ih;rw[h1];show 2 * (wz es).length<=(_::es).length+0;rw[AAH];omega
  |rb r=>
   have ih:2 * (wz es).length<=es.length+(if G 0 then 0 else 1):=ih;show 2 * (wz es).length<=(_::es).length+_;rw[AAH];omega
  |re r v=>
   have ih:2 * (wz es).length<=es.length+(if G 0 then 0 else 1):=ih;show 2 * (wz es).length<=(_::es).length+_;rw[AAH];omega
structure Gd(ns:List Str)(sz bg:Int)(es:List Ev):Prop where
 N:Ns ns
 h0:2<=sz
 h1:sz<=10
 b0:0<=bg
 b1:bg<sz
 wf:wfG (λ_=>false) es
 ok:∀e∈es,e.Ok ns sz
 l1:es.length<=16
 l2:ns.length=4->es.length<=10
section
variable{ns:List Str}{es:List Ev}
theorem Gd.hv(h:Gd ns sz bg es):∀e∈es,∀v,e.val=some v->In sz v:=λe he v hv=>(h.ok e he).v v hv
theorem Gd.pre(h:Gd ns sz bg es)(i:Nat):Gd ns sz bg (es.take i):=⟨h.N,h.h0,h.h1,h.b0,h.b1,by
  have:=h.wf;rw[←List.take_append_drop i es] at this;exact(wf_app.mp this).1,λe he=>h.ok e (List.mem_of_mem_take he),by rw[List.length_take];have:=h.l1;omega,λz=>by rw[List.length_take];have:=h.l2 z;omega⟩
theorem J8{a b:Nat}(h:a<=b):∀k,a ^ k<=b ^ k
 |0=>AAE _
 |k+1=>by rw[Nat.pow_succ,Nat.pow_succ];exact Nat.mul_le_mul (J8 h k) h
theorem Gd.shp(h:Gd ns sz bg es):Shp (bg::wz es) (List.replicate (ns.length-1) true) bg none where
 pos:=λw hw=>by
  rcases AAI.mp hw with rfl|hw
  ·exact h.b0
  ·exact(h.hv _ (mem_wz.mp hw) w rfl).1
 ha:=AAP
 hm:=(λb z=>by cases z)
 len:=by rw[AAo];have:=h.N.hi;omega
 few:=by
  have w:=PP h.wf;have w:2 * (wz es).length<=es.length+1:=w;have a:=h.l1;have hi:=h.N.hi;have lo:=h.N.lo;rw[AAo,AAH];by_cases z:ns.length=4
  ·have b:=h.l2 z;have:=J8 (show 1+((wz es).length+1)<=7 by omega) 3;rw[z];show 2 * _ ^ 3<900;omega
  ·have q:ns.length-1=1∨ns.length-1=2:=by omega
   have t:=show 1+((wz es).length+1)<=10 by omega
   rcases q with q|q<;>rw[q]
   ·have:=J8 t 1;omega
   ·have:=J8 t 2;omega
end
theorem Km:∀{es:List Ev} {G G':Nat->Bool},(∀x,G x=G' x)->wfG G es->wfG G' es
 |[],_,_,_,_=>trivial
 |e::es,G,G',h,w=>⟨by rw[←h];exact w.1,Km (λx=>by show (if x=e.hand then e.beg else G x)=_;rw[h x]) w.2⟩
theorem NE{e f:Ev}{B_:List Ev}(hf:f.hand≠e.hand):∀{A:List Ev} {G:Nat->Bool},wfG G (A++e::f::B_)->wfG G (A++f::e::B_)
 |a::A,G,w=>⟨w.1,NE hf w.2⟩
 |[],G,w=>by
  obtain⟨w1,w2,w3⟩:=w;have w2:(if f.hand=e.hand then e.beg else G f.hand)=!f.beg:=w2;rw[if_neg hf] at w2;refine⟨w2,?_,Km (λx=>?_) w3⟩
  ·show (if e.hand=f.hand then f.beg else G e.hand)=!e.beg;rw[if_neg (Ne.symm hf)];exact w1
  ·show (if x=f.hand then f.beg else if x=e.hand then e.beg else G x)=(if x=e.hand then e.beg else if x=f.hand then f.beg else G x);by_cases z:x=f.hand
   ·rw[if_pos z,if_pos z,if_neg (by rw[z];exact hf)]
   ·rw[if_neg z,if_neg z]
theorem mem_sw{α:Type}{e f x:α}{A B_:List α}:x∈A++f::e::B_↔x∈A++e::f::B_:=((List.Perm.swap e f B_).append_left A).mem_iff
theorem Gd.swap{ns:List Str}{e f:Ev}{A B_:List Ev}(h:Gd ns sz bg (A++e::f::B_))(hf:f.hand≠e.hand):Gd ns sz bg (A++f::e::B_):=by
 have l:(A++f::e::B_).length=(A++e::f::B_).length:=by simp
 exact⟨h.N,h.h0,h.h1,h.b0,h.b1,NE hf h.wf,λx hx=>h.ok x (mem_sw.mp hx),by rw[l];exact h.l1,λz=>by rw[l];exact h.l2 z⟩
noncomputable def jd(sz bg:Int)(m:Nat)(es:List Ev):Option Bool->Bool
 |none=>Es (S0 bg m) es
 |some sf=>A4 sf sz (C3.start bg m) es
section
variable{ns:List Str}{es:List Ev}
theorem WT{i j:Nat}(hij:i<=j)(o:Option Bool)(h:jd sz bg m (es.take j) o=true):jd sz bg m (es.take i) o=true:=by
 have e:es.take j=es.take i++(es.take j).drop i:=by
  have:=(List.take_append_drop i (es.take j)).symm;rw[List.take_take,Nat.min_eq_left hij] at this;exact this
 rw[e] at h;cases o with
 |none=>exact LW _ _ h
 |some sf=>exact Ni _ _ h
theorem X5(g:Gd ns sz bg es)(h:jd sz bg m es none=true):jd sz bg m es (some false)=true:=Fg (by have:=g.h0;omega) es QC RN (HR g.b0 g.b1) HA g.wf g.hv h
theorem X4(g:Gd ns sz bg es)(h:jd sz bg m es (some false)=true):jd sz bg m es (some true)=true:=Hk (by have:=g.h0;omega) (.inr rfl) es (HR g.b0 g.b1) HA (.rfl _) g.wf g.hv h
theorem UN{e f:Ev}{A B_:List Ev}(g:Gd ns sz bg (A++e::f::B_))(he:e.beg=false)(hf:f.hand≠e.hand)(o:Option Bool)(h:jd sz bg m (A++e::f::B_) o=true):jd sz bg m (A++f::e::B_) o=true:=by
 have h0:=g.h0;cases o with
 |none=>exact Uo he hf A O7 PQ g.wf (λx hx v hv=>(g.hv x hx v hv).1) h
 |some sf=>exact Up (by omega) he hf A (HR g.b0 g.b1) HA g.wf g.hv h
end
end K15
set_option maxHeartbeats 4000000
namespace K13
open PySem L2 Mi Ht
section
variable{Z w5 w6 x8:Mh}{w9:Sl}{d:D}{ds es:List D}{n:Nat}
variable{sf:Bool}{sz bg:Int}{ns:List Str}
theorem t3a{a b c:MO}:(Z++[a,b,c])[Z.length]?=some a:=by rw[AAR (AAE _)];simp
theorem t3b{a b c:MO}:(Z++[a,b,c])[Z.length+1]?=some b:=by rw[AAR (by omega)];simp
theorem t3c{a b c:MO}:(Z++[a,b,c])[Z.length+2]?=some c:=by rw[AAR (by omega)];simp
theorem u3a{a b c x:MO}:(Z++[a,b,c]).set Z.length x=Z++[x,b,c]:=by rw[AAg _ _ (AAE _)];simp
theorem u3b{a b c x:MO}:(Z++[a,b,c]).set (Z.length+1) x=Z++[a,x,c]:=by rw[AAg _ _ (by omega)];simp
theorem u3c{a b c x:MO}:(Z++[a,b,c]).set (Z.length+2) x=Z++[a,b,x]:=by rw[AAg _ _ (by omega)];simp
theorem RJ{x y:Str}(h1:PyData.strOk x=true)(h2:PyData.strOk y=true):EY (.str x) (.str y) Z=some (.bl (!(x==y)),Z):=by
 show (if SeqAt.shaped (.str x)=true/\SeqAt.shaped (.str y)=true then some (D.bl (!(x==y)),Z) else none)=_;rw[if_pos ⟨EF h1,EF h2⟩]
noncomputable abbrev bD(ns:List Str)(bs:List Nat):List D:=(bs.map (nm ns)).map D.str
theorem Q0(N:Ns ns){bs:List Nat}(hb:∀h∈bs,h<ns.length){h:Nat}(hh:h<ns.length):nm ns h∈bs.map (nm ns)↔h∈bs:=by
 constructor
 ·intro z;obtain⟨k,hk,e⟩:=AAL.mp z;exact N.inj (hb k hk) hh e ▸ hk
 ·exact λz=>AAL.mpr ⟨h,z,rfl⟩
theorem RM(N:Ns ns){bs:List Nat}(hb:∀h∈bs,h<ns.length){h:Nat}(hh:h<ns.length)(hn:Z[n]?=some (.lst (bD ns bs))):Dq false (.str (nm ns h)) (.ref n) Z=some (.bl (decide (h∈bs)),Z):=by
 show Fz false (.str (nm ns h)) (.ref n) Z=_;rw[RL (xs:=bs.map (nm ns)) (show BP (.ref n) Z=some (bD ns bs,Z) from by show (match Z[n]? with|some (.lst ds)=>some (ds,Z)|_=>none)=_;rw[hn])];have:decide (nm ns h∈bs.map (nm ns))=decide (h∈bs):=by
  by_cases z:h∈bs
  ·rw[AAO z,AAO ((Q0 N hb hh).mpr z)]
  ·rw[AAN z,AAN λy=>z ((Q0 N hb hh).mp y)]
 rw[this];rfl
theorem JU(N:Ns ns):∀{bs:List Nat} {h:Nat},(∀k∈bs,k<ns.length)->h<ns.length->h∈bs->∃j,((bs.map (nm ns)).map V.str).findIdx? (λz=>eqV z (V.str (nm ns h)))=some j/\bs.eraseIdx j=bs.erase h
 |[],h,_,_,hm=>by cases hm
 |k::bs,h,hb,hh,hm=>by
  rw[AAW,AAW,List.findIdx?_cons];have ev:eqV (V.str (nm ns k)) (V.str (nm ns h))=(k==h):=by
   show (nm ns k==nm ns h)=_;exact Qx N (hb k (by simp)) hh
  rw[ev];by_cases e:k=h
  ·subst e;exact⟨0,by simp,by simp⟩
  ·have hm':h∈bs:=(AAI.mp hm).resolve_left λz=>e z.symm;obtain⟨j,h1,h2⟩:=JU N (λx hx=>hb x (by simp[hx])) hh hm';refine⟨j+1,?_,?_⟩
   ·rw[AAf.mpr e,h1];rfl
   ·rw[List.eraseIdx_cons_succ,h2,List.erase_cons_tail (by simpa using e)]
theorem X0(N:Ns ns){bs:List Nat}(hb:∀h∈bs,h<ns.length){h:Nat}(hh:h<ns.length)(hm:h∈bs)(hn:Z[n]?=some (.lst (bD ns bs))):MW (.ref n) [.str (nm ns h)] Z=some (.non,Z.set n (.lst (bD ns (bs.erase h)))):=by
 obtain⟨j,h1,h2⟩:=JU N hb hh hm;show HD n _ Z=_;unfold HD;rw[hn];have e1:DL (bD ns bs)=some ((bs.map (nm ns)).map V.str):=FE _;show Option.map _ (match FR (.str (nm ns h)),DL (bD ns bs) with
  |some y,some xs=>(xs.findIdx? λz=>eqV z y).map λj=>(D.non,(bD ns bs).eraseIdx j)
  |_,_=>none)=_
 rw[e1];show Option.map _ ((((bs.map (nm ns)).map V.str).findIdx? λz=>eqV z (V.str (nm ns h))).map λj=>(D.non,(bD ns bs).eraseIdx j))=_;rw[h1];show some (D.non,Z.set n (.lst ((bD ns bs).eraseIdx j)))=_;have e2:(bD ns bs).eraseIdx j=bD ns (bs.erase h):=by
  rw[←h2];have em:∀{α β:Type} (f:α->β) (l:List α) (j:Nat),(l.map f).eraseIdx j=(l.eraseIdx j).map f:=by
   intro α β f l
   induction l with
   |nil=>intro j;simp
   |cons a l ih=>
    intro j;cases j with
    |zero=>rfl
    |succ j=>rw[AAW,List.eraseIdx_cons_succ,List.eraseIdx_cons_succ,AAW,ih]
  show ((bs.map (nm ns)).map D.str).eraseIdx j=_;rw[em,em]
 rw[e2]
noncomputable abbrev evB:Sl->M (Fl×Sl):=(AT (Af (mOp AL (AG CO (AC (AA 6) (AC (mC (.int 1)) AJ))) (mC (.int 0))) (AN 7))
  (AT (Af (mOp AL (AA 5) (mOp Ba (AA 7) (AG Bo (AC (AA 5) AJ)))) (AN 8))
  (AT (sIf (AK (mOp AY (mOp Ba (mOp BO (AA 7) (mC (.int 4))) (mC (.int 3))) (mC (.int 0)))) (Af (mOp AL (AA 5) (mC (.int 0))) (AN 8)) Ay)
  (AT (Af (mOp Ba (mOp BO (AA 7) (mC (.int 60))) (mOp AL (AA 0) (mC (.int 1)))) (AN 9))
  (AT (Af (AG Ax (AC (mOp AL (AG BT (AC (mC (.str "begin")) (AC (mC (.str "end")) AJ))) (AG Oq (AC (mOp (Dq false) (AA 8) (AA 2)) AJ))) (AC (AA 8) AJ))) (AN 10))
  (AT (sIf (C5 (AK (mOp AY (AA 8) (mOp AL (AA 5) (mC (.int 0))))) (AK (mOp AY (mOp AL (AA 10) (mC (.int 0))) (mC (.str "begin"))))) (AT (Af (mOp Ab (AA 10) (AG Ax (AC (AA 9) AJ))) (AN 10))
  (A5 (Ai Co (AA 4) (AC (AA 9) AJ)))) Ay)
  (AT (sIf (C5 (AK (mOp EY (AA 8) (mOp AL (AA 5) (mC (.int 0))))) (AK (mOp AY (mOp AL (AA 10) (mC (.int 0))) (mC (.str "end"))))) (Af (mOp Ab (AA 10) (AG Ax (AC (AG Ck (AC (AA 0) (AC (AA 4) (AC (mOp BO (AA 7) (mC (.int 60))) AJ)))) AJ))) (AN 10)) Ay)
  (AT (A5 (Ai Co (AA 3) (AC (AA 10) AJ)))
  (sIf (AK (mOp (Dq false) (AA 8) (AA 2))) (A5 (Ai MW (AA 2) (AC (AA 8) AJ))) (A5 (Ai Co (AA 2) (AC (AA 8) AJ))))))))))))
structure Bsy(ns:List Str)(sz:Int)(es:List Ev)(bs:List Nat)(ws:List Int):Prop where
 wf:wfG G0 es
 ok:∀e∈es,e.Ok ns sz
 lt:∀h∈bs,h<ns.length
 nd:bs.Nodup
 mem:∀h,decide (h∈bs)=gA G0 es h
 ws:∀x∈ws,0<=x/\x<sz
noncomputable abbrev sl6(mk names:D)(cells:D)(L:Nat)(o6 o7 o8 o9 o10:Option D):Sl:=[some mk,some cells,some (.ref L),some (.ref (L+1)),some (.ref (L+2)),some names,o6,o7,o8,o9,o10]
theorem UY(N:Ns ns){c:Int}{cells:D}{es:List Ev}{bs:List Nat}{ws:List Int}{o7 o8 o9 o10:Option D}(h0:2<=sz)(h1:sz<=10)(b0:0<=bg)(b1:bg<sz)(B_:Bsy ns sz es bs ws)(he:es.length<=100)(hw:ws.length<=100)(hb:bs.length<=100):
  ∃(e:Ev) (bs':List Nat) (ws':List Int) (o7' o8' o9' o10':Option D),Bsy ns sz (es++[e]) bs' ws'/\ws'.length<=ws.length+1/\bs'.length<=bs.length+1 /\
   evB (sl6 (mkD sf sz bg ns) (.lst (ns.map D.str)) cells Z.length (some (.int c)) o7 o8 o9 o10) (Z++[.lst (bD ns bs),.lst (es.map (evD ns)),.lst (ws.map D.int)]) =
    some ((.next,sl6 (mkD sf sz bg ns) (.lst (ns.map D.str)) cells Z.length (some (.int c)) o7' o8' o9' o10'),Z++[.lst (bD ns bs'),.lst ((es++[e]).map (evD ns)),.lst (ws'.map D.int)]):=by
 have hz:=BN;have hlo:=N.lo;have hhi:=N.hi;obtain⟨x,hx,ex⟩:=Pl (Z:=Z++[.lst (bD ns bs),.lst (es.map (evD ns)),.lst (ws.map D.int)]) (c:=c);obtain⟨h,hh,eh⟩:∃h:Nat,h<ns.length/\∀(o8 o9 o10:Option D) (M:Mh),AT (Af (mOp AL (AA 5) (mOp Ba (AA 7) (AG Bo (AC (AA 5) AJ)))) (AN 8)) (sIf (AK (mOp AY (mOp Ba (mOp BO (AA 7) (mC (.int 4))) (mC (.int 3))) (mC (.int 0)))) (Af (mOp AL (AA 5) (mC (.int 0))) (AN 8)) Ay) (sl6 (mkD sf sz bg ns) (.lst (ns.map D.str)) cells Z.length (some (.int c)) (some (.int x)) o8 o9 o10) M=some ((.next,sl6 (mkD sf sz bg ns) (.lst (ns.map D.str)) cells Z.length (some (.int c)) (some (.int x)) (some (.str (nm ns h))) o9 o10),M):=by
  have i0:0<=x % (ns.length:Int):=AAY _ (by omega);have i1:x % (ns.length:Int)<ns.length:=AAZ _ (by omega);obtain⟨i,hi⟩:∃i:Nat,x % (ns.length:Int)=i:=⟨(x % (ns.length:Int)).toNat,by omega⟩;have hi':i<ns.length:=by omega
  have gn:∀k,k<ns.length->(ns.map D.str)[k]?=some (D.str (nm ns k)):=λk hk=>by
   rw[AAV,AAu hk];simp[nm,hk]
  have a1:∀(o8 o9 o10:Option D) (M:Mh),Af (mOp AL (AA 5) (mOp Ba (AA 7) (AG Bo (AC (AA 5) AJ)))) (AN 8) (sl6 (mkD sf sz bg ns) (.lst (ns.map D.str)) cells Z.length (some (.int c)) (some (.int x)) o8 o9 o10) M=some ((.next,sl6 (mkD sf sz bg ns) (.lst (ns.map D.str)) cells Z.length (some (.int c)) (some (.int x)) (some (.str (nm ns i))) o9 o10),M):=λo8 o9 o10 M=>
   pa (po (x:=.lst (ns.map D.str)) (y:=.int (x % (ns.length:Int))) rfl (po (x:=.int x) (y:=.int ns.length) rfl (pd (ds:=[.lst (ns.map D.str)]) rfl (by show some (D.int (((ns.map D.str).length:Nat):Int),M)=_;rw[AAF])) (Dc (by omega))) (by rw[hi];exact Gb (B7 (gn i hi')))) rfl
  have a2:∀(o8 o9 o10:Option D) (M:Mh),AK (mOp AY (mOp Ba (mOp BO (AA 7) (mC (.int 4))) (mC (.int 3))) (mC (.int 0))) (sl6 (mkD sf sz bg ns) (.lst (ns.map D.str)) cells Z.length (some (.int c)) (some (.int x)) o8 o9 o10) M=some (x / 4 % 3==0,M):=λo8 o9 o10 M=>AR (po (x:=.int (x / 4 % 3)) (y:=.int 0) (po (x:=.int (x / 4)) (y:=.int 3) (po (x:=.int x) (y:=.int 4) rfl rfl (Cj (by decide) (by decide))) rfl (Dc (by decide))) rfl DO);by_cases q:x / 4 % 3=0
  ·refine⟨0,by omega,λo8 o9 o10 M=>pq (a1 _ _ _ _) (piT ((a2 _ _ _ _).trans (by rw[q];rfl)) (pa (po (x:=.lst (ns.map D.str)) (y:=.int 0) rfl rfl (Gb (B7 (r:=0) (gn 0 (by omega))))) rfl))⟩
  ·exact⟨i,hi',λo8 o9 o10 M=>pq (a1 _ _ _ _) (piF ((a2 _ _ _ _).trans (by rw[AAf.mpr q])) rfl)⟩
 have w0:0<=x / 60 % sz:=AAY _ (by omega);have w1:x / 60 % sz<sz:=AAZ _ (by omega);have g0:(ns.map D.str)[0]?=some (D.str (nm ns 0)):=by
  rw[AAV,AAu (by omega)];simp[nm,show 0<ns.length by omega]
 generalize hg:decide (h∈bs)=g;have hga:gA G0 es h=g:=by rw[←B_.mem,hg]
 have T1:∀(o9:Option D) (M:Mh),C5 (AK (mOp AY (AA 8) (mOp AL (AA 5) (mC (.int 0))))) (AK (mOp AY (mOp AL (AA 10) (mC (.int 0))) (mC (.str "begin")))) (sl6 (mkD sf sz bg ns) (.lst (ns.map D.str)) cells Z.length (some (.int c)) (some (.int x)) (some (.str (nm ns h))) o9 (some (.tup [.str (bS (!g)),.str (nm ns h)]))) M=some ((h==0)&&!g,M):=λo9 M=>by
  have a:AK (mOp AY (AA 8) (mOp AL (AA 5) (mC (.int 0)))) (sl6 (mkD sf sz bg ns) (.lst (ns.map D.str)) cells Z.length (some (.int c)) (some (.int x)) (some (.str (nm ns h))) o9 (some (.tup [.str (bS (!g)),.str (nm ns h)]))) M=some (h==0,M):=AR (po (x:=.str (nm ns h)) (y:=.str (nm ns 0)) rfl (po (x:=.lst (ns.map D.str)) (y:=.int 0) rfl rfl (Gb (B7 (r:=0) g0))) (KK N hh (by omega)));have b:AK (mOp AY (mOp AL (AA 10) (mC (.int 0))) (mC (.str "begin"))) (sl6 (mkD sf sz bg ns) (.lst (ns.map D.str)) cells Z.length (some (.int c)) (some (.int x)) (some (.str (nm ns h))) o9 (some (.tup [.str (bS (!g)),.str (nm ns h)]))) M=some (!g,M):=AR (po (x:=.str (bS (!g))) (y:=.str "begin") rfl rfl JI);cases hq:(h==0) with
  |true=>rw[hq] at a;exact B6 a b
  |false=>rw[hq] at a;exact DA a
 have T2:∀(o9:Option D) (t:List D) (M:Mh),C5 (AK (mOp EY (AA 8) (mOp AL (AA 5) (mC (.int 0))))) (AK (mOp AY (mOp AL (AA 10) (mC (.int 0))) (mC (.str "end")))) (sl6 (mkD sf sz bg ns) (.lst (ns.map D.str)) cells Z.length (some (.int c)) (some (.int x)) (some (.str (nm ns h))) o9 (some (.tup (.str (bS (!g))::t)))) M=some (!(h==0)&&g,M):=λo9 t M=>by
  have a:AK (mOp EY (AA 8) (mOp AL (AA 5) (mC (.int 0)))) (sl6 (mkD sf sz bg ns) (.lst (ns.map D.str)) cells Z.length (some (.int c)) (some (.int x)) (some (.str (nm ns h))) o9 (some (.tup (.str (bS (!g))::t)))) M=some (!(h==0),M):=AR (po (x:=.str (nm ns h)) (y:=.str (nm ns 0)) rfl (po (x:=.lst (ns.map D.str)) (y:=.int 0) rfl rfl (Gb (B7 (r:=0) g0))) (by rw[RJ (N.nok hh) (N.nok (by omega)),Qx N hh (by omega)]));have b:AK (mOp AY (mOp AL (AA 10) (mC (.int 0))) (mC (.str "end"))) (sl6 (mkD sf sz bg ns) (.lst (ns.map D.str)) cells Z.length (some (.int c)) (some (.int x)) (some (.str (nm ns h))) o9 (some (.tup (.str (bS (!g))::t)))) M=some (g,M):=AR (po (x:=.str (bS (!g))) (y:=.str "end") (po (x:=.tup (.str (bS (!g))::t)) (y:=.int 0) rfl rfl (LU (B7 (r:=0) rfl))) rfl (by rw[U1,Bool.not_not]));cases hq:(h==0) with
  |true=>rw[hq] at a;exact DA a
  |false=>rw[hq] at a;exact B6 a b
 have fin:∀(e:Ev) (ws':List Int) (o9:Option D),e.hand=h->e.beg=!g->e.Ok ns sz->ws'.length<=ws.length+1->(∀x∈ws',0<=x/\x<sz)->∃bs':List Nat,Bsy ns sz (es++[e]) bs' ws'/\bs'.length<=bs.length+1 /\
   (AT (A5 (Ai Co (AA 3) (AC (AA 10) AJ))) (sIf (AK (mOp (Dq false) (AA 8) (AA 2))) (A5 (Ai MW (AA 2) (AC (AA 8) AJ))) (A5 (Ai Co (AA 2) (AC (AA 8) AJ))))) (sl6 (mkD sf sz bg ns) (.lst (ns.map D.str)) cells Z.length (some (.int c)) (some (.int x)) (some (.str (nm ns h))) o9 (some (evD ns e))) (Z++[.lst (bD ns bs),.lst (es.map (evD ns)),.lst (ws'.map D.int)]) =
    some ((.next,sl6 (mkD sf sz bg ns) (.lst (ns.map D.str)) cells Z.length (some (.int c)) (some (.int x)) (some (.str (nm ns h))) o9 (some (evD ns e))),Z++[.lst (bD ns bs'),.lst ((es++[e]).map (evD ns)),.lst (ws'.map D.int)]):=λe ws' o9 he1 he2 heo hwl hwi=>by
  have wf':wfG G0 (es++[e]):=wf_app.mpr ⟨B_.wf,by rw[he1,hga,he2,Bool.not_not],trivial⟩;have ok':∀e'∈es++[e],e'.Ok ns sz:=λe' h'=>(AAJ.mp h').elim (B_.ok e') λz=>by rw[AAK] at z;subst z;exact heo
  have ap:A5 (Ai Co (AA 3) (AC (AA 10) AJ)) (sl6 (mkD sf sz bg ns) (.lst (ns.map D.str)) cells Z.length (some (.int c)) (some (.int x)) (some (.str (nm ns h))) o9 (some (evD ns e))) (Z++[.lst (bD ns bs),.lst (es.map (evD ns)),.lst (ws'.map D.int)])=some ((.next,sl6 (mkD sf sz bg ns) (.lst (ns.map D.str)) cells Z.length (some (.int c)) (some (.int x)) (some (.str (nm ns h))) o9 (some (evD ns e))),Z++[.lst (bD ns bs),.lst ((es++[e]).map (evD ns)),.lst (ws'.map D.int)]):=by
   refine Cn (d:=.non) (Cm (x:=.ref (Z.length+1)) (ds:=[evD ns e]) (w5:=Z++[.lst (bD ns bs),.lst (es.map (evD ns)),.lst (ws'.map D.int)]) (w6:=Z++[.lst (bD ns bs),.lst (es.map (evD ns)),.lst (ws'.map D.int)]) (x8:=Z++[.lst (bD ns bs),.lst (es.map (evD ns)),.lst (ws'.map D.int)]) rfl (A9 t3b) rfl ?_);rw[CB t3b (by rw[AAF];omega),u3b,AAX];rfl
  have ti:AK (mOp (Dq false) (AA 8) (AA 2)) (sl6 (mkD sf sz bg ns) (.lst (ns.map D.str)) cells Z.length (some (.int c)) (some (.int x)) (some (.str (nm ns h))) o9 (some (evD ns e))) (Z++[.lst (bD ns bs),.lst ((es++[e]).map (evD ns)),.lst (ws'.map D.int)])=some (g,Z++[.lst (bD ns bs),.lst ((es++[e]).map (evD ns)),.lst (ws'.map D.int)]):=
   AR (po (x:=.str (nm ns h)) (y:=.ref Z.length) rfl rfl (by rw[RM N B_.lt hh t3a,hg]))
  cases g with
  |true=>
   have hm:h∈bs:=of_decide_eq_true hg;refine⟨bs.erase h,⟨wf',ok',λk hk=>B_.lt k (List.mem_of_mem_erase hk),B_.nd.erase h,λk=>?_,hwi⟩,Nat.le_succ_of_le (List.length_erase_le ..),AV ap (De ti (Cn (d:=.non) (Cm (x:=.ref Z.length) (ds:=[.str (nm ns h)]) (w5:=Z++[.lst (bD ns bs),.lst ((es++[e]).map (evD ns)),.lst (ws'.map D.int)]) (w6:=Z++[.lst (bD ns bs),.lst ((es++[e]).map (evD ns)),.lst (ws'.map D.int)]) (x8:=Z++[.lst (bD ns bs),.lst ((es++[e]).map (evD ns)),.lst (ws'.map D.int)]) rfl (A9 t3a) rfl (by rw[X0 N B_.lt hh hm t3a,u3a]))))⟩;rw[Bl];unfold gS;rw[he1,he2];by_cases e0:k=h
   ·subst e0;rw[if_pos rfl,AAN (B_.nd.not_mem_erase)];rfl
   ·rw[if_neg e0,←B_.mem];have:=List.mem_erase_of_ne (l:=bs) e0;by_cases z:k∈bs
    ·rw[AAO z,AAO (this.mpr z)]
    ·rw[AAN z,AAN λy=>z (this.mp y)]
  |false=>
   have hm:h∉bs:=of_decide_eq_false hg;refine⟨bs++[h],⟨wf',ok',λk hk=>(AAJ.mp hk).elim (B_.lt k) λz=>by rw[AAK] at z;subst z;exact hh,?_,λk=>?_,hwi⟩,by simp,AV ap (CK ti (Cn (d:=.non) (Cm (x:=.ref Z.length) (ds:=[.str (nm ns h)]) (w5:=Z++[.lst (bD ns bs),.lst ((es++[e]).map (evD ns)),.lst (ws'.map D.int)]) (w6:=Z++[.lst (bD ns bs),.lst ((es++[e]).map (evD ns)),.lst (ws'.map D.int)]) (x8:=Z++[.lst (bD ns bs),.lst ((es++[e]).map (evD ns)),.lst (ws'.map D.int)]) rfl (A9 t3a) rfl (by rw[CB t3a (by simp;omega),u3a];simp))))⟩
   ·rw[List.nodup_append];refine⟨B_.nd,by simp,λa ha b hb'=>?_⟩;rw[AAK] at hb';subst hb';exact λz=>hm (z ▸ ha)
   ·rw[Bl];unfold gS;rw[he1,he2];by_cases e0:k=h
    ·subst e0;rw[if_pos rfl];simp
    ·rw[if_neg e0,←B_.mem];simp[e0]
 have first:∀{r:Fl×Sl} {M2:Mh},(AT (sIf (C5 (AK (mOp AY (AA 8) (mOp AL (AA 5) (mC (.int 0))))) (AK (mOp AY (mOp AL (AA 10) (mC (.int 0))) (mC (.str "begin"))))) (AT (Af (mOp Ab (AA 10) (AG Ax (AC (AA 9) AJ))) (AN 10))
  (A5 (Ai Co (AA 4) (AC (AA 9) AJ)))) Ay)
  (AT (sIf (C5 (AK (mOp EY (AA 8) (mOp AL (AA 5) (mC (.int 0))))) (AK (mOp AY (mOp AL (AA 10) (mC (.int 0))) (mC (.str "end"))))) (Af (mOp Ab (AA 10) (AG Ax (AC (AG Ck (AC (AA 0) (AC (AA 4) (AC (mOp BO (AA 7) (mC (.int 60))) AJ)))) AJ))) (AN 10)) Ay)
  (AT (A5 (Ai Co (AA 3) (AC (AA 10) AJ)))
  (sIf (AK (mOp (Dq false) (AA 8) (AA 2))) (A5 (Ai MW (AA 2) (AC (AA 8) AJ))) (A5 (Ai Co (AA 2) (AC (AA 8) AJ))))))) (sl6 (mkD sf sz bg ns) (.lst (ns.map D.str)) cells Z.length (some (.int c)) (some (.int x)) (some (.str (nm ns h))) (some (.int (x / 60 % sz))) (some (.tup [.str (bS (!g)),.str (nm ns h)]))) (Z++[.lst (bD ns bs),.lst (es.map (evD ns)),.lst (ws.map D.int)])=some (r,M2)->
   evB (sl6 (mkD sf sz bg ns) (.lst (ns.map D.str)) cells Z.length (some (.int c)) o7 o8 o9 o10) (Z++[.lst (bD ns bs),.lst (es.map (evD ns)),.lst (ws.map D.int)])=some (r,M2):=λ{r M2} rest=>by
  have e8:=eh o8 o9 o10 (Z++[.lst (bD ns bs),.lst (es.map (evD ns)),.lst (ws.map D.int)]);refine AV (pa (d:=.int x) (po (x:=.lst [.int x]) (y:=.int 0) (pd (ds:=[.int c,.int 1]) rfl ex) rfl rfl) rfl) ?_;have Jw:∀{A B_ C:Sl->M (Fl×Sl)} {S S2:Sl} {M:Mh} {r:Fl×Sl} {M2:Mh},AT A B_ S M=some ((.next,S2),M)->C S2 M=some (r,M2)->AT A (AT B_ C) S M=some (r,M2):=λ{A B_ C S S2 M r M2} p q=>by
   unfold AT at p ⊢;cases hA:A S M with
   |none=>
    have:bnd (A S) (λr=>match r.1 with | .next=>B_ r.2|f=>Mi.ret (f,r.2)) M=none:=by unfold bnd;rw[hA]
    rw[show (bnd (A S) (λr=>match r.1 with | .next=>B_ r.2|f=>Mi.ret (f,r.2)) M)=some ((.next,S2),M) from p] at this;cases this
   |some w=>
    obtain⟨⟨f,S1⟩,M1⟩:=w;rw[AM hA] at p ⊢;cases f with
    |next=>
     have p:B_ S1 M1=some ((.next,S2),M):=p;show bnd (B_ S1) _ M1=_;rw[AM p];exact q
    |cont=>cases p
    |brk=>cases p
    |rt d=>cases p
    |xc=>cases p
  refine Jw e8 (AV (w9:=sl6 (mkD sf sz bg ns) (.lst (ns.map D.str)) cells Z.length (some (.int c)) (some (.int x)) (some (.str (nm ns h))) (some (.int (x / 60 % sz))) o10) (pa (d:=.int (x / 60 % sz)) (po (x:=.int (x / 60)) (y:=.int sz) (po (x:=.int x) (y:=.int 60) rfl rfl (Cj (by decide) (by decide))) (po (x:=mkD sf sz bg ns) (y:=.int 1) rfl rfl rfl) (Dc (by omega))) rfl) (AV (w9:=sl6 (mkD sf sz bg ns) (.lst (ns.map D.str)) cells Z.length (some (.int c)) (some (.int x)) (some (.str (nm ns h))) (some (.int (x / 60 % sz))) (some (.tup [.str (bS (!g)),.str (nm ns h)]))) (pa (pd (ds:=[.str (bS (!g)),.str (nm ns h)]) (pc (po (x:=.lst [.str "begin",.str "end"]) (y:=.int (if g then 1 else 0)) (pd (ds:=[.str "begin",.str "end"]) rfl (Am (by simp;omega))) (pd (ds:=[.bl g]) (pc (po (x:=.str (nm ns h)) (y:=.ref Z.length) rfl rfl (by rw[RM N B_.lt hh t3a,hg])) rfl) rfl) ?_) rfl) (Ad (by simp;omega))) rfl) rest));cases g<;>rfl
 cases h with
 |zero=>
  cases g with
  |false=>
   obtain⟨bs',B',hbl,ef⟩:=fin (.wb (x / 60 % sz)) (ws++[x / 60 % sz]) (some (.int (x / 60 % sz))) rfl rfl ⟨hh,λv hv=>by cases hv;exact⟨w0,w1⟩⟩ (by simp) (λy hy=>(AAJ.mp hy).elim (B_.ws y) λz=>by rw[AAK] at z;subst z;exact⟨w0,w1⟩);refine⟨.wb (x / 60 % sz),bs',ws++[x / 60 % sz],_,_,_,_,B',by simp,hbl,first (AV (w5:=Z++[.lst (bD ns bs),.lst (es.map (evD ns)),.lst ((ws++[x / 60 % sz]).map D.int)]) (w9:=sl6 (mkD sf sz bg ns) (.lst (ns.map D.str)) cells Z.length (some (.int c)) (some (.int x)) (some (.str (nm ns 0))) (some (.int (x / 60 % sz))) (some (evD ns (.wb (x / 60 % sz))))) (De (T1 _ _) (AV (w5:=Z++[.lst (bD ns bs),.lst (es.map (evD ns)),.lst (ws.map D.int)]) (w9:=sl6 (mkD sf sz bg ns) (.lst (ns.map D.str)) cells Z.length (some (.int c)) (some (.int x)) (some (.str (nm ns 0))) (some (.int (x / 60 % sz))) (some (evD ns (.wb (x / 60 % sz))))) (pa (d:=evD ns (.wb (x / 60 % sz))) (po (x:=.tup [.str (bS true),.str (nm ns 0)]) (y:=.tup [.int (x / 60 % sz)]) rfl (pd (ds:=[.int (x / 60 % sz)]) rfl (Ad (by simp;omega))) (EK (by simp;omega))) rfl) (Cn (d:=.non) (Cm (x:=.ref (Z.length+2)) (ds:=[.int (x / 60 % sz)]) (w5:=Z++[.lst (bD ns bs),.lst (es.map (evD ns)),.lst (ws.map D.int)]) (w6:=Z++[.lst (bD ns bs),.lst (es.map (evD ns)),.lst (ws.map D.int)]) (x8:=Z++[.lst (bD ns bs),.lst (es.map (evD ns)),.lst (ws.map D.int)]) rfl (A9 t3c) rfl ?_)))) (AV (CK (T2 _ _ _) rfl) ef))⟩;rw[CB t3c (by rw[AAF];omega),u3c,AAX];rfl
  |true=>
   obtain⟨bs',B',hbl,ef⟩:=fin .we ws (some (.int (x / 60 % sz))) rfl rfl ⟨hh,λv hv=>by cases hv⟩ (by omega) B_.ws;exact⟨.we,bs',ws,_,_,_,_,B',by omega,hbl,first (AV (CK (T1 _ _) rfl) (AV (CK (T2 _ _ _) rfl) ef))⟩
 |succ r=>
  cases g with
  |false=>
   obtain⟨bs',B',hbl,ef⟩:=fin (.rb r) ws (some (.int (x / 60 % sz))) rfl rfl ⟨hh,λv hv=>by cases hv⟩ (by omega) B_.ws;exact⟨.rb r,bs',ws,_,_,_,_,B',by omega,hbl,first (AV (CK (T1 _ _) rfl) (AV (CK (T2 _ _ _) rfl) ef))⟩
  |true=>
   obtain⟨v,v0,v1,ev⟩:=Sz (Z:=Z++[.lst (bD ns bs),.lst (es.map (evD ns)),.lst (ws.map D.int)]) (sf:=sf) (sz:=sz) (bg:=bg) (ns:=ns) (w:=Z.length+2) (ws:=ws) (y:=x / 60) t3c (by omega) (by omega) b0 b1 B_.ws;obtain⟨bs',B',hbl,ef⟩:=fin (.re r v) ws (some (.int (x / 60 % sz))) rfl rfl ⟨hh,λv' hv=>by cases hv;exact⟨v0,v1⟩⟩ (by omega) B_.ws;refine⟨.re r v,bs',ws,_,_,_,_,B',by omega,hbl,first (AV (CK (T1 _ _) rfl) (AV (w5:=Z++[.lst (bD ns bs),.lst (es.map (evD ns)),.lst (ws.map D.int)]) (w9:=sl6 (mkD sf sz bg ns) (.lst (ns.map D.str)) cells Z.length (some (.int c)) (some (.int x)) (some (.str (nm ns (r+1)))) (some (.int (x / 60 % sz))) (some (evD ns (.re r v)))) (De (T2 _ _ _) (pa (d:=evD ns (.re r v)) (po (x:=.tup [.str (bS false),.str (nm ns (r+1))]) (y:=.tup [.int v]) rfl (pd (ds:=[.int v]) (pc (pd (ds:=[mkD sf sz bg ns,.ref (Z.length+2),.int (x / 60)]) (pc rfl (pc rfl (pc (po (x:=.int x) (y:=.int 60) rfl rfl (Cj (by decide) (by decide))) rfl))) ev) rfl) (Ad (by simp;omega))) (EK (by simp;omega))) rfl)) ef))⟩
end
end K13
set_option maxHeartbeats 4000000
namespace K13
open PySem L2 Mi Ht
section
variable{Z:Mh}{ds:List D}
variable{sf:Bool}{sz bg:Int}{ns:List Str}
theorem Ms(N:Ns ns){cells:D}(h0:2<=sz)(h1:sz<=10)(b0:0<=bg)(b1:bg<sz):∀(cs:List Int) (es:List Ev) (bs:List Nat) (ws:List Int) (o6 o7 o8 o9 o10:Option D),Bsy ns sz es bs ws->es.length+cs.length<=60->ws.length+cs.length<=90->bs.length+cs.length<=90->
  ∃(es':List Ev) (bs':List Nat) (ws':List Int) (o6' o7' o8' o9' o10':Option D),Bsy ns sz es' bs' ws'/\es'.length=es.length+cs.length /\
   DE (AN 6) evB (cs.map D.int) (sl6 (mkD sf sz bg ns) (.lst (ns.map D.str)) cells Z.length o6 o7 o8 o9 o10) (Z++[.lst (bD ns bs),.lst (es.map (evD ns)),.lst (ws.map D.int)]) =
    some ((.next,sl6 (mkD sf sz bg ns) (.lst (ns.map D.str)) cells Z.length o6' o7' o8' o9' o10'),Z++[.lst (bD ns bs'),.lst (es'.map (evD ns)),.lst (ws'.map D.int)])
 |[],es,bs,ws,o6,o7,o8,o9,o10,B_,_,_,_=>⟨es,bs,ws,o6,o7,o8,o9,o10,B_,rfl,rfl⟩
 |c::cs,es,bs,ws,o6,o7,o8,o9,o10,B_,l1,l2,l3=>by
  rw[AAH] at l1 l2 l3;obtain⟨e,bs1,ws1,p7,p8,p9,p10,B1,m1,m2,st⟩:=UY (Z:=Z) (sf:=sf) N (c:=c) (cells:=cells) (o7:=o7) (o8:=o8) (o9:=o9) (o10:=o10) h0 h1 b0 b1 B_ (by omega) (by omega) (by omega);obtain⟨es',bs',ws',q6,q7,q8,q9,q10,B',hl,go⟩:=Ms N (cells:=cells) h0 h1 b0 b1 cs (es++[e]) bs1 ws1 (some (.int c)) p7 p8 p9 p10 B1 (by simp;omega) (by omega) (by omega);refine⟨es',bs',ws',q6,q7,q8,q9,q10,B',by rw[hl];simp;omega,?_⟩;exact Ao (x:=.int c) rfl st go
theorem Lq{k:Nat}(e:Ev):Cl k (evD ns e):=by cases e<;>simp[evD,Ev.val,Cl,ClL]
theorem Pn{cs:List Int}(h:cs.length<=63):∃c:Int,B3 [.scr cs,.int 0] Z=some (.int c,Z):=by
 have tl:∀S:Sl,S=[some (.scr cs),some (.int 0)]->AK (mOp OX (AA 1) (AG Bo (AC (AA 0) AJ))) S Z=some (decide ((0:Int)<cs.length),Z):=λS hS=>by
  subst hS;refine AR (po (x:=.int 0) (y:=.int cs.length) rfl (pd (ds:=[.scr cs]) rfl ?_) rfl);show some (D.int (((cs.map D.int).length:Nat):Int),Z)=_;rw[AAF]
 cases cs with
 |nil=>
  refine⟨0,AU (g:=[]) (x5:=[some (.scr []),some (.int 0)]) ?_ rfl (BC _ _)⟩;rw[AAa];exact pq (piF (tl _ rfl) rfl) (pr rfl)
 |cons c cs=>
  refine⟨c,AU (g:=[]) (x5:=[some (.scr (c::cs)),some (.int 0)]) ?_ rfl (BC _ _)⟩;rw[AAa];refine CC (piT ((tl _ rfl).trans ?_) (pr (po (x:=.scr (c::cs)) (y:=.int 0) rfl rfl ?_)))
  ·rw[AAO (by simp)]
  ·show bnd (BP (.scr (c::cs))) (λds=>ixD ds 0) Z=_;rw[AM (show BP (.scr (c::cs)) Z=some ((c::cs).map D.int,Z) from rfl)];unfold ixD;rw[show atI ((c::cs).map D.int) 0=some (.int c) from B7 (r:=0) rfl];rfl
end
end K13
namespace K15
open PySem L2 Mi Nk Wb Ht
open K13 (Ev Ev.beg Ev.hand Ev.val wfG C3 C3.step A4 C3.start Ns wf_app gA G0 mkD kdS evD hdD nm bS N7 M0 Ak BC Lq BN po pc pd p2 pq pa piT piF pr Ao BY Bs Bp B4 C9 Am Ad EK Gz RJ KK L1 GX IE H9 FD TX)
open K16 (S0 mkK mkW)
section
variable{Z:Mh}{sz bg:Int}{ns:List Str}{es:List Ev}
noncomputable def kn3:Option Bool->Str
 |none => "whole"
 |some sf=>kdS sf
noncomputable def kL(b:Option Bool->Bool):D:=.lst [.bl (b none),.bl (b (some false)),.bl (b (some true))]
theorem YQ(g:Gd ns sz bg es)(o:Option Bool):Dd [mkK (kn3 o) sz bg ns,.lst (es.map (evD ns))] Z=some (.bl (jd sz bg (ns.length-1) es o),Z):=by
 have h0:=g.h0;have h1:=g.h1;have b1:=g.b1;have hi:=g.N.hi;have l1:=g.l1;cases o with
 |none=>
  obtain⟨d,Z',e,rfl,rfl⟩:=Sj (QD:=λd Z'=>d=.bl (Es (S0 bg (ns.length-1)) es)/\Z'=Z) (Z:=Z) g.N g.ok g.wf (by omega) g.shp (λv hv=>AAQ _ (mem_wz.mpr hv)) ⟨rfl,rfl⟩;exact e
 |some sf=>
  have ei:∀e∈es,e.In (ns.length-1) sz:=λe he=>⟨by have:=(g.ok e he).h;omega,(g.ok e he).v⟩;exact Pm g.N (by omega) h1 g.b0 (by omega) g.ok g.wf (by omega) (H9 h1 es [] (C3.start bg (ns.length-1)) g.wf ei (FD (by omega) g.b0 (by omega)))
theorem NH(g:Gd ns sz bg es):Et [mkD true sz bg ns,.lst (es.map (evD ns))] Z=some (kL (jd sz bg (ns.length-1) es),Z):=by
 have hz:=BN;have hi:=g.N.hi;refine AU (g:=[]) (x5:=[some (mkD true sz bg ns),some (.lst (es.map (evD ns)))]) ?_ rfl (by unfold kL;simp[Cl,ClL]);rw[AAa];refine pr (BY (ds:=[none,some false,some true].map λo=>D.str (kn3 o)) (es:=[none,some false,some true].map λo=>D.bl (jd sz bg (ns.length-1) es o)) (B4 (pd (ds:=[none,some false,some true].map λo=>D.str (kn3 o)) rfl (Am (by simp;omega)))) (by simp;omega) ?_ (Am (by simp;omega)));have:=Bs (Z:=Z) (mc:=Cg) (me:=(AG Dd (AC (mOp Ab (AG Ax (AC (AA 0) AJ)) (EZ (AA 2) (Ch (mC (.int 1))) Cb)) (AC (AA 1) AJ)))) (u5:=[none,some (.lst (es.map (evD ns))),some (mkD true sz bg ns)]) (f:=λo=>D.str (kn3 o)) (F:=λo=>D.bl (jd sz bg (ns.length-1) es o)) (p:=λ_=>true) (xs:=[none,some false,some true]) (ys:=[]) (λ_ _=>rfl) (λo _ _=>?_)
 ·rw[Bp,List.nil_append] at this;exact this
 ·refine pd (ds:=[mkK (kn3 o) sz bg ns,.lst (es.map (evD ns))]) (pc (po (x:=.tup [.str (kn3 o)]) (y:=.tup [.int sz,.int bg,.tup [],.tup (ns.map hdD)]) (pd (ds:=[.str (kn3 o)]) rfl (Ad (by simp;omega))) (p2 (x:=mkD true sz bg ns) (a:=some 1) (b:=none) rfl rfl rfl rfl) (EK (by simp;omega))) rfl) (YQ g o)
theorem Yx{e:Ev}:AL (evD ns e) (.int 0) Z=some (.str (bS e.beg),Z):=by cases e<;>rfl
theorem YC{e:Ev}:AL (evD ns e) (.int 1) Z=some (.str (nm ns e.hand),Z):=by cases e<;>rfl
theorem S8{i:Nat}(g:Gd ns sz bg es)(hi:i<es.length):∃fs:List Ev,Gd ns sz bg fs/\(∀o,jd sz bg (ns.length-1) es o=true->jd sz bg (ns.length-1) fs o=true)/\F4 [.lst (es.map (evD ns)),.int i] Z=some (.lst (fs.map (evD ns)),Z):=by
 have hz:=BN;have l1:=g.l1;have e1:es[i]?=some es[i]:=AAu hi;generalize es[i]=e at e1;have oe:=g.ok e (AAU e1);have a0:AK (mOp EY (mOp AL (mOp AL (AA 0) (AA 1)) (mC (.int 0))) (mC (.str "end"))) [some (.lst (es.map (evD ns))),some (.int i)] Z=some (e.beg,Z):=by
  refine AR (po (x:=.str (bS e.beg)) (y:=.str "end") (po (x:=evD ns e) (y:=.int 0) (po (x:=.lst (es.map (evD ns))) (y:=.int i) rfl rfl (L1 e1)) rfl Yx) rfl ?_);rw[RJ (N7 _) (by decide +kernel),M0,Bool.not_not]
 have a1:AK (mOp MZ (mOp Ab (AA 1) (mC (.int 1))) (AG Bo (AC (AA 0) AJ))) [some (.lst (es.map (evD ns))),some (.int i)] Z=some (decide (es.length<=i+1),Z):=by
  refine AR (po (x:=.int ((i:Int)+1)) (y:=.int es.length) (po (x:=.int i) (y:=.int 1) rfl rfl rfl) (pd (ds:=[.lst (es.map (evD ns))]) rfl (by show some (D.int (((es.map (evD ns)).length:Nat):Int),Z)=_;rw[AAF])) ?_);show some (D.bl (decide ((es.length:Int)<=(i:Int)+1)),Z)=_;rw[show decide ((es.length:Int)<=(i:Int)+1)=decide (es.length<=i+1) from decide_eq_decide.mpr (by omega)]
 have same:∀{b:Bool} {c:Sl->M Bool} {s:Sl->M (Fl×Sl)},b=true->c [some (.lst (es.map (evD ns))),some (.int i)] Z=some (b,Z)->∃fs:List Ev,Gd ns sz bg fs/\(∀o,jd sz bg (ns.length-1) es o=true->jd sz bg (ns.length-1) fs o=true)/\Au .drop 2 2 (AT (sIf c (Av (AA 0)) Ay) s) [.lst (es.map (evD ns)),.int i] Z=some (.lst (fs.map (evD ns)),Z):=λ{b c s} hb h=>by
  subst hb;refine⟨es,g,λ_ z=>z,AU (g:=[]) (x5:=[some (.lst (es.map (evD ns))),some (.int i)]) ?_ rfl (Ak (λe=>Lq e) _)⟩;rw[AAa];exact CC (piT h (pr rfl))
 by_cases be:e.beg=true
 ·exact same be (Mt (by rw[a0,be]) |>.trans (by rw[be]))
 ·have be:e.beg=false:=by simpa using be
  by_cases la:es.length<=i+1
  ·exact same (b:=true) rfl (EQ (by rw[a0,be]) (Mt (by rw[a1,AAO la])))
  ·have e2:es[i+1]?=some es[i+1]:=AAu (by omega);generalize es[i+1]=f at e2;have of:=g.ok f (AAU e2);have at2:mOp AL (AA 0) (mOp Ab (AA 1) (mC (.int 1))) [some (.lst (es.map (evD ns))),some (.int i)] Z=some (evD ns f,Z):=po (x:=.lst (es.map (evD ns))) (y:=.int ((i+1:Nat):Int)) rfl (po (x:=.int i) (y:=.int 1) rfl rfl rfl) (L1 e2);have a2:AK (mOp AY (mOp AL (mOp AL (AA 0) (mOp Ab (AA 1) (mC (.int 1)))) (mC (.int 1))) (mOp AL (mOp AL (AA 0) (AA 1)) (mC (.int 1)))) [some (.lst (es.map (evD ns))),some (.int i)] Z=some (f.hand==e.hand,Z):=
    AR (po (x:=.str (nm ns f.hand)) (y:=.str (nm ns e.hand)) (po (x:=evD ns f) (y:=.int 1) at2 rfl YC) (po (x:=evD ns e) (y:=.int 1) (po (x:=.lst (es.map (evD ns))) (y:=.int i) rfl rfl (L1 e1)) rfl YC) (KK g.N of.h oe.h))
   by_cases hh:f.hand=e.hand
   ·exact same (b:=true) rfl (EQ (by rw[a0,be]) (EQ (by rw[a1,AAN la]) (a2.trans (by rw[hh];simp))))
   ·have sp:es=es.take i++e::f::es.drop (i+2):=by
     have d1:es.drop i=e::es.drop (i+1):=by
      obtain⟨h,q⟩:=AAT.mp e1;rw[←q];exact List.drop_eq_getElem_cons h
     have d2:es.drop (i+1)=f::es.drop (i+2):=by
      obtain⟨h,q⟩:=AAT.mp e2;rw[←q];exact List.drop_eq_getElem_cons h
     rw[←d2,←d1,List.take_append_drop]
    have tk:=List.length_take (i:=i) (l:=es);have dk:=List.length_drop (i:=i+2) (l:=es);have g':=g;rw[sp] at g';refine⟨es.take i++f::e::es.drop (i+2),g'.swap hh,λo h=>?_,AU (g:=[]) (x5:=[some (.lst (es.map (evD ns))),some (.int i)]) ?_ rfl (Ak (λe=>Lq e) _)⟩
    ·rw[sp] at h;exact UN g' be hh o h
    rw[AAa];refine pq (w9:=[some (.lst (es.map (evD ns))),some (.int i)]) (piF (EQ (w5:=Z) (a0.trans (by rw[be])) (EQ (w5:=Z) (a1.trans (by rw[AAN la])) (a2.trans (by rw[AAf.mpr hh])))) rfl) ?_;refine pr (po (x:=.lst ((es.take i).map (evD ns)++[evD ns f,evD ns e])) (y:=.lst ((es.drop (i+2)).map (evD ns))) (po (x:=.lst ((es.take i).map (evD ns))) (y:=.lst [evD ns f,evD ns e]) (p2 (x:=.lst (es.map (evD ns))) (a:=none) (b:=some (i:Int)) rfl rfl rfl ?_) (pd (ds:=[evD ns f,evD ns e]) (pc at2 (pc (po (x:=.lst (es.map (evD ns))) (y:=.int i) rfl rfl (L1 e1)) rfl)) (Am (by simp;omega))) (Gz (by simp;omega))) (p2 (x:=.lst (es.map (evD ns))) (a:=some ((i+2:Nat):Int)) (b:=none) rfl rfl rfl ?_) ?_)
    ·show some (D.lst (Cr (es.map (evD ns)) none (some (i:Int))),Z)=_;rw[GX (α:=.non) (by rw[AAF];omega),List.map_take]
    ·show some (D.lst (Cr (es.map (evD ns)) (some ((i+2:Nat):Int)) none),Z)=_;rw[IE (by rw[AAF];omega),List.map_drop]
    ·rw[Gz (by simp;omega)];simp
end
end K15
namespace K15
open PySem L2 Mi Nk Wb Ht
open K13 (Ev Ev.beg Ev.hand Ev.val wfG C3 C3.step A4 C3.start Ns wf_app gA G0 mkD kdS evD hdD nm bS Ak BC Lq BN po pc pd p2 pq pa piT piF pr Ao BY Bs B4 Am GX Kp Pn Bsy Ms sl6 bD t3b EI B3 CP CQ TX)
section
variable{Z:Mh}{sz bg:Int}{ns:List Str}{es:List Ev}
theorem OF(N:Ns ns){sf:Bool}{cs:List Int}(h0:2<=sz)(h1:sz<=10)(b0:0<=bg)(b1:bg<sz)(hc:cs.length<=30):∃es:List Ev,wfG G0 es/\(∀e∈es,e.Ok ns sz)/\es.length=cs.length/\CQ [mkD sf sz bg ns,.lst (cs.map D.int)] Z=some (.lst (es.map (evD ns)),Z):=by
 have hz:=BN;have hhi:=N.hi;have B0:Bsy ns sz [] [] [bg]:=⟨trivial,by simp,by simp,by simp,λh=>by simp[gA],λx hx=>by rw[AAK] at hx;subst hx;exact⟨b0,b1⟩⟩;obtain⟨es,bs,ws,q6,q7,q8,q9,q10,B_,hl,go⟩:=Ms (Z:=Z) (sf:=sf) N (cells:=.lst (cs.map D.int)) h0 h1 b0 b1 cs [] [] [bg] none none none none none B0 (by simp;omega) (by simp;omega) (by simp;omega);refine⟨es,B_.wf,B_.ok,by rw[hl];simp,Jd (k:=Z.length+1) (x5:=sl6 (mkD sf sz bg ns) (.lst (ns.map D.str)) (.lst (cs.map D.int)) Z.length q6 q7 q8 q9 q10) (g:=[.lst (bD ns bs),.lst (es.map (evD ns)),.lst (ws.map D.int)]) ?_ rfl (by omega) t3b (Ak (λe=>Lq e) _)⟩;have nb:∀(M:Mh) (l:List D),l.length<=10->FZ l M=some (.ref M.length,M++[.lst l]):=λM l h=>by
  unfold FZ;rw[AM (show lim l.length M=some ((),M) from by unfold lim;rw[if_pos (by omega)])]
 refine AV (w5:=Z++[.lst []]) (w9:=[some (mkD sf sz bg ns),some (.lst (cs.map D.int)),some (.ref Z.length),none,none,none,none,none,none,none,none]) (Ds (d:=.ref Z.length) (Bu (ds:=[]) rfl (nb _ _ (by simp))) rfl) ?_;refine AV (w5:=Z++[.lst [],.lst []]) (w9:=[some (mkD sf sz bg ns),some (.lst (cs.map D.int)),some (.ref Z.length),some (.ref (Z.length+1)),none,none,none,none,none,none,none]) (Ds (d:=.ref (Z.length+1)) (Bu (ds:=[]) rfl (by rw[nb _ _ (by simp)];simp)) rfl) ?_;refine AV (w5:=Z++[.lst [],.lst [],.lst [.int bg]]) (w9:=[some (mkD sf sz bg ns),some (.lst (cs.map D.int)),some (.ref Z.length),some (.ref (Z.length+1)),some (.ref (Z.length+2)),none,none,none,none,none,none]) (Ds (d:=.ref (Z.length+2)) (Bu (ds:=[.int bg]) (w5:=Z++[.lst [],.lst []]) (pc (po (x:=mkD sf sz bg ns) (y:=.int 2) rfl rfl rfl) rfl) (by rw[nb _ _ (by simp)];simp)) rfl) ?_;refine AV (w9:=sl6 (mkD sf sz bg ns) (.lst (ns.map D.str)) (.lst (cs.map D.int)) Z.length none none none none none) (pa (EI rfl (by omega)) rfl) ?_;exact AV (Eu (B4 (ds:=cs.map D.int) rfl) go) (Dr (w5:=Z++[.lst (bD ns bs),.lst (es.map (evD ns)),.lst (ws.map D.int)]) rfl)
noncomputable def kI:Option Bool->D
 |none=>.int 0
 |some false=>.int 1
 |some true=>.int 2
theorem Yn{a b:Option Bool->Bool}{B:Sl}{p q:Nat}(h:∀o,a o=true->b o=true)(hp:B[p]?=some (some (kL b)))(hq:B[q]?=some (some (kL a))):AK (mOp EY (Bf 1 [p,q] (DN (AC (mC (.int 3)) AJ)) (AN 0) (C5 (AK (mOp AL (AA 2) (AA 0))) (Dh (AK (mOp AL (AA 1) (AA 0))))) (AA 0) BT) (AG BT AJ)) B Z=some (false,Z):=by
 have hz:=BN;refine AR (po (x:=.lst []) (y:=.lst []) (BY (ds:=[none,some false,some true].map kI) (es:=[]) rfl (by simp;omega) ?_ (Am (by simp))) (pd (ds:=[]) rfl (Am (by simp))) rfl);rw[show CW 1 [p,q] B=[none,some (kL b),some (kL a)] from by unfold CW;simp[LJ,hp,hq]];refine Bs (Z:=Z) (F:=λ_=>.non) (p:=λ_=>false) (λo _=>?_) λ_ _ z=>by cases z
 have ho:=h o;generalize e1:a o=x at ho;generalize e2:b o=y at ho;have i1:∀c:Option Bool->Bool,AL (kL c) (kI o) Z=some (.bl (c o),Z):=λc=>by rcases o with _|_|_<;>rfl
 have t1:AK (mOp AL (AA 2) (AA 0)) [some (kI o),some (kL b),some (kL a)] Z=some (x,Z):=AR (po (x:=kL a) rfl rfl (by rw[←e1];exact i1 a));have t2:AK (mOp AL (AA 1) (AA 0)) [some (kI o),some (kL b),some (kL a)] Z=some (y,Z):=AR (po (x:=kL b) rfl rfl (by rw[←e2];exact i1 b));cases x with
 |false=>exact DA t1
 |true=>
  rw[ho rfl] at t2;exact B6 t1 (Fb t2)
theorem Ym{a b:Option Bool->Bool}{B:Sl}{p q:Nat}(h:∀o,a o=true->b o=true)(hp:B[p]?=some (some (kL a)))(hq:B[q]?=some (some (kL b))):AK (mOp EY (Bf 1 [p,q] (DN (AC (mC (.int 3)) AJ)) (AN 0) (C5 (AK (mOp AL (AA 1) (AA 0))) (Dh (AK (mOp AL (AA 2) (AA 0))))) (AA 0) BT) (AG BT AJ)) B Z=some (false,Z):=by
 have hz:=BN;refine AR (po (x:=.lst []) (y:=.lst []) (BY (ds:=[none,some false,some true].map kI) (es:=[]) rfl (by simp;omega) ?_ (Am (by simp))) (pd (ds:=[]) rfl (Am (by simp))) rfl);rw[show CW 1 [p,q] B=[none,some (kL a),some (kL b)] from by unfold CW;simp[LJ,hp,hq]];refine Bs (Z:=Z) (F:=λ_=>.non) (p:=λ_=>false) (λo _=>?_) λ_ _ z=>by cases z
 have ho:=h o;generalize e1:a o=x at ho;generalize e2:b o=y at ho;have i1:∀c:Option Bool->Bool,AL (kL c) (kI o) Z=some (.bl (c o),Z):=λc=>by rcases o with _|_|_<;>rfl
 have t1:AK (mOp AL (AA 1) (AA 0)) [some (kI o),some (kL a),some (kL b)] Z=some (x,Z):=AR (po (x:=kL a) rfl rfl (by rw[←e1];exact i1 a));have t2:AK (mOp AL (AA 2) (AA 0)) [some (kI o),some (kL a),some (kL b)] Z=some (y,Z):=AR (po (x:=kL b) rfl rfl (by rw[←e2];exact i1 b));cases x with
 |false=>exact DA t1
 |true=>
  rw[ho rfl] at t2;exact B6 t1 (Fb t2)
noncomputable abbrev sl8(o0:Option D)(mk ev:D)(k:Option D)(o4 o5 o6 o7:Option D):Sl:=[o0,some mk,some ev,k,o4,o5,o6,o7]
noncomputable abbrev Yk:Sl->M (Fl×Sl):=(AT (Af (AG Et (AC (AA 1) (AC (EZ (AA 2) Cb (Ch (AA 4))) AJ))) (AN 5))
  (AT (sIf (mOr (C5 (AK (mOp AL (AA 5) (mC (.int 0)))) (Dh (AK (mOp AL (AA 5) (mC (.int 1)))))) (C5 (AK (mOp AL (AA 5) (mC (.int 1)))) (Dh (AK (mOp AL (AA 5) (mC (.int 2))))))) (Av (mC (.bl false))) Ay)
  (AT (sIf (AK (mOp EY (Bf 1 [3,5] (DN (AC (mC (.int 3)) AJ)) (AN 0) (C5 (AK (mOp AL (AA 2) (AA 0))) (Dh (AK (mOp AL (AA 1) (AA 0))))) (AA 0) BT) (AG BT AJ))) (Av (mC (.bl false))) Ay)
  (Af (AA 5) (AN 3)))))
noncomputable abbrev Ys:Sl->M (Fl×Sl):=(AT (Af (AG Et (AC (AA 1) (AC (AG F4 (AC (AA 2) (AC (AA 6) AJ))) AJ))) (AN 7))
  (sIf (AK (mOp EY (Bf 1 [3,7] (DN (AC (mC (.int 3)) AJ)) (AN 0) (C5 (AK (mOp AL (AA 1) (AA 0))) (Dh (AK (mOp AL (AA 2) (AA 0))))) (AA 0) BT) (AG BT AJ))) (Av (mC (.bl false))) Ay))
theorem Qa(g:Gd ns sz bg es){o0 o6 o7:Option D}:∀(k s:Nat) (b:Option Bool->Bool) (o4 o5:Option D),s+k=es.length+1->(∀o,jd sz bg (ns.length-1) (es.take s) o=true->b o=true)->(k=0->b=jd sz bg (ns.length-1) es)->∃o4' o5':Option D,
  DE (AN 4) Yk ((List.range' s k).map λi:Nat=>D.int i) (sl8 o0 (mkD true sz bg ns) (.lst (es.map (evD ns))) (some (kL b)) o4 o5 o6 o7) Z=some ((.next,sl8 o0 (mkD true sz bg ns) (.lst (es.map (evD ns))) (some (kL (jd sz bg (ns.length-1) es))) o4' o5' o6 o7),Z)
 |0,s,b,o4,o5,_,_,h3=>⟨o4,o5,by rw[h3 rfl];rfl⟩
 |k+1,s,b,o4,o5,h1,h2,_=>by
  have g':=g.pre s;obtain⟨p4,p5,go⟩:=Qa g (o0:=o0) (o6:=o6) (o7:=o7) k (s+1) (jd sz bg (ns.length-1) (es.take s)) (some (.int s)) (some (kL (jd sz bg (ns.length-1) (es.take s)))) (by omega) (λo z=>WT (Nat.le_succ s) o z) λz=>by rw[List.take_of_length_le (by omega)]
  refine⟨p4,p5,Ao (x:=.int s) (w9:=sl8 o0 (mkD true sz bg ns) (.lst (es.map (evD ns))) (some (kL b)) (some (.int s)) o5 o6 o7) rfl ?_ go⟩;have j01:=X5 (m:=ns.length-1) g';have j12:=X4 (m:=ns.length-1) g';have vk:=NH (Z:=Z) g';generalize jd sz bg (ns.length-1) (es.take s)=c at h2 j01 j12 vk ⊢;refine pq (w9:=sl8 o0 (mkD true sz bg ns) (.lst (es.map (evD ns))) (some (kL b)) (some (.int s)) (some (kL c)) o6 o7) (pa (d:=kL c) (pd (ds:=[mkD true sz bg ns,.lst ((es.take s).map (evD ns))]) (pc rfl (pc (p2 (x:=.lst (es.map (evD ns))) (a:=none) (b:=some (s:Int)) rfl rfl rfl ?_) rfl)) vk) rfl) ?_
  ·show some (D.lst (Cr (es.map (evD ns)) none (some (s:Int))),Z)=_;rw[GX (α:=.non) (by rw[AAF];omega),List.map_take]
  refine pq (piF ?_ rfl) (pq (piF (Yn h2 rfl rfl) rfl) (pa (d:=kL c) rfl rfl));have i0:AK (mOp AL (AA 5) (mC (.int 0))) (sl8 o0 (mkD true sz bg ns) (.lst (es.map (evD ns))) (some (kL b)) (some (.int s)) (some (kL c)) o6 o7) Z=some (c none,Z):=AR (po (x:=kL c) (y:=.int 0) rfl rfl rfl);have i1:AK (mOp AL (AA 5) (mC (.int 1))) (sl8 o0 (mkD true sz bg ns) (.lst (es.map (evD ns))) (some (kL b)) (some (.int s)) (some (kL c)) o6 o7) Z=some (c (some false),Z):=AR (po (x:=kL c) (y:=.int 1) rfl rfl rfl);have i2:AK (mOp AL (AA 5) (mC (.int 2))) (sl8 o0 (mkD true sz bg ns) (.lst (es.map (evD ns))) (some (kL b)) (some (.int s)) (some (kL c)) o6 o7) Z=some (c (some true),Z):=AR (po (x:=kL c) (y:=.int 2) rfl rfl rfl);refine EQ (w5:=Z) ?_ ?_
  ·cases q:c none with
   |false=>rw[q] at i0;exact DA i0
   |true=>rw[q] at i0;rw[j01 q] at i1;exact B6 i0 (Fb i1)
  ·cases q:c (some false) with
   |false=>rw[q] at i1;exact DA i1
   |true=>rw[q] at i1;rw[j12 q] at i2;exact B6 i1 (Fb i2)
theorem RD(g:Gd ns sz bg es){o0 o4 o5:Option D}:∀(is:List Nat) (o6 o7:Option D),(∀i∈is,i<es.length)->∃o6' o7':Option D,
  DE (AN 6) Ys (is.map λi:Nat=>D.int i) (sl8 o0 (mkD true sz bg ns) (.lst (es.map (evD ns))) (some (kL (jd sz bg (ns.length-1) es))) o4 o5 o6 o7) Z=some ((.next,sl8 o0 (mkD true sz bg ns) (.lst (es.map (evD ns))) (some (kL (jd sz bg (ns.length-1) es))) o4 o5 o6' o7'),Z)
 |[],o6,o7,_=>⟨o6,o7,rfl⟩
 |i::is,o6,o7,h=>by
  obtain⟨fs,g',hj,el⟩:=S8 (Z:=Z) g (h i AAP);obtain⟨p6,p7,go⟩:=RD g (o0:=o0) (o4:=o4) (o5:=o5) is (some (.int i)) (some (kL (jd sz bg (ns.length-1) fs))) λj hj=>h j (AAQ _ hj);refine⟨p6,p7,Ao (x:=.int i) (w9:=sl8 o0 (mkD true sz bg ns) (.lst (es.map (evD ns))) (some (kL (jd sz bg (ns.length-1) es))) o4 o5 (some (.int i)) o7) rfl ?_ go⟩;exact pq (w9:=sl8 o0 (mkD true sz bg ns) (.lst (es.map (evD ns))) (some (kL (jd sz bg (ns.length-1) es))) o4 o5 (some (.int i)) (some (kL (jd sz bg (ns.length-1) fs)))) (pa (d:=kL (jd sz bg (ns.length-1) fs)) (pd (ds:=[mkD true sz bg ns,.lst (fs.map (evD ns))]) (pc rfl (pc (pd (ds:=[.lst (es.map (evD ns)),.int i]) rfl el) rfl)) (NH g')) rfl) (piF (Ym hj rfl rfl) rfl)
theorem math:∀cs:List Int,cs.length<=63->∃Z',Rk [.scr cs] []=some (.bl true,Z'):=by
 intro cs hc;have hz:=BN;obtain⟨c,ec⟩:=Pn (Z:=[]) hc;obtain⟨sz,bg,ns,h0,h1,b0,b1,N,em⟩:=Kp (Z:=[]) (sf:=true) (x:=c);have hhi:=N.hi;have cut:∀n:Nat,∃ds:List Int,Cr (cs.map D.int) (some 1) (some ((n+1:Nat):Int))=ds.map D.int/\ds.length<=n:=λn=>by
  unfold Cr;refine⟨(cs.drop (HT.sIx (cs.map D.int).length 0 (some 1))).take (HT.sIx (cs.map D.int).length (cs.map D.int).length (some ((n+1:Nat):Int))-HT.sIx (cs.map D.int).length 0 (some 1)),by rw[List.map_take,List.map_drop],?_⟩;rw[show (1:Int)=((1:Nat):Int) from rfl,HT.Gu,HT.Gu,List.length_take,List.length_drop,AAF];omega
 have many:∃n:Nat,n<=16/\(ns.length=4->n<=10)/\(17:Int)-6 * (if decide ((3:Int)<ns.length) then 1 else 0)=((n+1:Nat):Int):=by
  by_cases z:ns.length=4
  ·exact⟨10,by omega,λ_=>AAE _,by rw[z];rfl⟩
  ·exact⟨16,by omega,λy=>absurd y z,by rw[AAN (by omega)];rfl⟩
 obtain⟨n,n1,n2,en⟩:=many;obtain⟨ds,hds,hdl⟩:=cut n;obtain⟨es,wf,ok,el,ee⟩:=OF (Z:=[]) (sf:=true) N h0 h1 b0 b1 (cs:=ds) (by omega);have g:Gd ns sz bg es:=⟨N,h0,h1,b0,b1,wf,ok,by omega,λz=>by have:=n2 z;omega⟩;obtain⟨q4,q5,go1⟩:=Qa (Z:=[]) g (o0:=some (.scr cs)) (o6:=none) (o7:=none) (es.length+1) 0 (λ_=>true) none none (by omega) (λ_ _=>rfl) λz=>by omega
 obtain⟨q6,q7,go2⟩:=RD (Z:=[]) g (o0:=some (.scr cs)) (o4:=q4) (o5:=q5) (List.range es.length) none none λi hi=>List.mem_range.mp hi;refine⟨[],AU (g:=[]) (x5:=sl8 (some (.scr cs)) (mkD true sz bg ns) (.lst (es.map (evD ns))) (some (kL (jd sz bg (ns.length-1) es))) q4 q5 q6 q7) ?_ rfl (by unfold Cl;trivial)⟩;rw[AAa];refine pq (w9:=[some (.scr cs),some (mkD true sz bg ns),none,none,none,none,none,none]) (pa (pd (ds:=[.int c,.str "safe"]) (pc (pd (ds:=[.scr cs,.int 0]) rfl ec) rfl) em) rfl) ?_;have e4:AG Bo (AC (mOp AL (AA 1) (mC (.int 4))) AJ) [some (.scr cs),some (mkD true sz bg ns),none,none,none,none,none,none] []=some (.int ns.length,[]):=pd (ds:=[.tup (ns.map hdD)]) (pc (po (x:=mkD true sz bg ns) (y:=.int 4) rfl rfl rfl) rfl) (by show some (D.int (((ns.map hdD).length:Nat):Int),([]:Mh))=_;rw[AAF]);have e5:AG Oq (AC (mOp OY (AG Bo (AC (mOp AL (AA 1) (mC (.int 4))) AJ)) (mC (.int 3))) AJ) [some (.scr cs),some (mkD true sz bg ns),none,none,none,none,none,none] []=some (.int (if decide ((3:Int)<ns.length) then 1 else 0),[]):=pd (ds:=[.bl (decide ((3:Int)<ns.length))]) (pc (po (x:=.int ns.length) (y:=.int 3) e4 rfl rfl) rfl) (by cases decide ((3:Int)<ns.length)<;>rfl);refine pq (w9:=[some (.scr cs),some (mkD true sz bg ns),some (.lst (es.map (evD ns))),none,none,none,none,none]) (pa (pd (ds:=[mkD true sz bg ns,.lst (ds.map D.int)]) (pc rfl (pc (p2 (x:=.scr cs) (a:=some 1) (b:=some ((n+1:Nat):Int)) rfl rfl ?_ ?_) rfl)) ee) rfl) ?_
 ·rw[←en];unfold Ch;rw[AM (po (g:=Dk) (x:=.int 17) (y:=.int (6 * (if decide ((3:Int)<ns.length) then 1 else 0))) (d:=.int (17-6 * (if decide ((3:Int)<ns.length) then 1 else 0))) rfl (po (x:=.int 6) (y:=.int (if decide ((3:Int)<ns.length) then 1 else 0)) rfl e5 rfl) rfl)];rfl
 ·show some (D.lst (Cr (cs.map D.int) (some 1) (some ((n+1:Nat):Int))),([]:Mh))=_;rw[hds]
 refine pq (w9:=sl8 (some (.scr cs)) (mkD true sz bg ns) (.lst (es.map (evD ns))) (some (kL λ_=>true)) none none none none) (pa (d:=kL λ_=>true) (pd (ds:=[.bl true,.bl true,.bl true]) rfl (Am (by simp;omega))) rfl) ?_;have ln:∀S:Sl,S[2]?=some (some (.lst (es.map (evD ns))))->AG Bo (AC (AA 2) AJ) S []=some (.int es.length,[]):=λS h=>pd (ds:=[.lst (es.map (evD ns))]) (pc (Ar h) rfl) (by show some (D.int (((es.map (evD ns)).length:Nat):Int),([]:Mh))=_;rw[AAF]);have l1:=g.l1;have r1:DN (AC (mOp Ab (AG Bo (AC (AA 2) AJ)) (mC (.int 1))) AJ) (sl8 (some (.scr cs)) (mkD true sz bg ns) (.lst (es.map (evD ns))) (some (kL λ_=>true)) none none none none) []=some ((List.range' 0 (es.length+1)).map λi:Nat=>D.int i,[]):=by
  unfold DN;rw[AM (pc (as:=AJ) (x:=.int ((es.length+1:Nat):Int)) (po (x:=.int es.length) (y:=.int 1) (ln _ rfl) rfl (by show some (D.int ((es.length:Int)+1),([]:Mh))=_;rw[Int.natCast_add];rfl)) rfl)];unfold LG;dsimp only;rw[if_pos (by omega),TX,List.range_eq_range']
 have r2:DN (AC (AG Bo (AC (AA 2) AJ)) AJ) (sl8 (some (.scr cs)) (mkD true sz bg ns) (.lst (es.map (evD ns))) (some (kL (jd sz bg (ns.length-1) es))) q4 q5 none none) []=some ((List.range es.length).map λi:Nat=>D.int i,[]):=by
  unfold DN;rw[AM (pc (as:=AJ) (x:=.int (es.length:Int)) (ln _ rfl) rfl)];unfold LG;dsimp only;rw[if_pos (by omega),TX]
 exact pq (Eu r1 go1) (pq (Eu r2 go2) (pr rfl))
end
end K15
open PySem PySem.W PyProof.Rows
local macro_rules | `(tactic| wtm_at "b")=>`(tactic| (refine' Mi.YF ?qa ?ql ?qc ?qk;(case qa=>k_is);(case ql=>k_is);(case qc=>k_is);(case qk=>k_is)))
local macro_rules | `(tactic| wtm_at "n")=>`(tactic| (refine' Mi.dc_mk ?qa ?qb ?qc ?qd ?qe ?qf;(case qa=>k_is);(case qb=>k_is);(case qc=>k_is);(case qd=>k_is);(case qe=>k_is)))
local macro_rules | `(tactic| wtm_at "o")=>`(tactic| (refine' Mi.di_mk ?qa ?qb ?qc ?qd ?qe ?qf ?qg ?qh;(case qa=>k_is);(case qb=>k_is);(case qc=>k_is);(case qd=>k_is);(case qe=>k_is);(case qf=>k_is);(case qg=>k_is);(case qh=>k_is)))
local macro_rules | `(tactic| wtm_at "p")=>`(tactic| (refine' Mi.dm_mk ?qa ?qb ?qc ?qd ?qe ?qf ?qg ?qh ?qi ?qj;(case qa=>k_is);(case qb=>k_is);(case qc=>k_is);(case qd=>k_is);(case qe=>k_is);(case qf=>k_is);(case qg=>k_is);(case qh=>k_is);(case qi=>k_is);(case qj=>k_is)))
local macro_rules | `(tactic| wtm_at "q")=>`(tactic| (refine' Mi.tl_mk ?pl ?pe;(case pl=>k_is);(case pe=>rfl)))
set_option maxRecDepth 100000 in
set_option maxHeartbeats 0 in
theorem PySem.Challenge.cw_strongboxes_k15_kept_by_the_stronger_kep_holds : PySem.Challenge.rw_strongboxes_k15_kept_by_the_stronger_kep.Holds := by
 w_on;o_law;k_head;(case hw=>w_witness2)
 k_fill
 refine Mi.W4 (k:=9) (l:=PySem.Challenge.rw_strongboxes_k15_kept_by_the_stronger_kep) rfl rfl (by decide) (λw h Y_=>PySem.W.kIn_of Y_) ?F
 case F=>
  intro w mg fa h KX G hmg;refine' K15.all_mk K15.math ⟨KX,G,?e0,?e1,?e2,?e3,?e4,?e5,?e6,?e7,?e8,?e9,?e10,?e11,?e12,?e13,?e14,?e15,?e16,?e17,?e18,?e19,?e20,?e21,?e22,?e23,?e24,?e25,?e26,(PySem.W.mg_none_of KX G ?z0),(PySem.W.mg_none_of KX G ?z1),(PySem.W.mg_none_of KX G ?z2),(PySem.W.mg_none_of KX G ?z3),(PySem.W.mg_none_of KX G ?z4),(PySem.W.mg_none_of KX G ?z5),(PySem.W.mg_none_of KX G ?z6),(PySem.W.mg_none_of KX G ?z7),(PySem.W.mg_none_of KX G ?z8),(PySem.W.mg_none_of KX G ?z9),?gk0,?gk1,?gk2,?gk3⟩ hmg
  (case e0=>wtm_at "b")
  (case e1=>wtm_at "b")
  (case e2=>wtm_at "b")
  (case e3=>wtm_at "b")
  (case e4=>wtm_at "b")
  (case e5=>wtm_at "b")
  (case e6=>wtm_at "b")
  (case e7=>wtm_at "b")
  (case e8=>wtm_at "b")
  (case e9=>wtm_at "b")
  (case e10=>wtm_at "b")
  (case e11=>wtm_at "b")
  (case e12=>wtm_at "b")
  (case e13=>wtm_at "b")
  (case e14=>wtm_at "b")
  (case e15=>wtm_at "b")
  (case e16=>wtm_at "b")
  (case e17=>wtm_at "b")
  (case e18=>wtm_at "b")
  (case e19=>wtm_at "b")
  (case e20=>wtm_at "b")
  (case e21=>wtm_at "b")
  (case e22=>wtm_at "b")
  (case e23=>wtm_at "b")
  (case e24=>wtm_at "b")
  (case e25=>wtm_at "b")
  (case e26=>wtm_at "b")
  (case z0=>k_is)
  (case z1=>k_is)
  (case z2=>k_is)
  (case z3=>k_is)
  (case z4=>k_is)
  (case z5=>k_is)
  (case z6=>k_is)
  (case z7=>k_is)
  (case z8=>k_is)
  (case z9=>k_is)
  (case gk0=>refine' Mi.G3 KX G ?qa;(case qa=>k_is))
  (case gk1=>refine' Mi.G3 KX G ?qa;(case qa=>k_is))
  (case gk2=>refine' Mi.G3 KX G ?qa;(case qa=>k_is))
  (case gk3=>refine' Mi.G3 KX G ?qa;(case qa=>k_is))
